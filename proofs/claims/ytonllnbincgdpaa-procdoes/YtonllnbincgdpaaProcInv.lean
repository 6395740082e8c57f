/- Processes as plain data: each but 1 has a parent that is there and is no zombie; kept by every call. -/
import Derived.Test.YtonllnbincgdpaaProcDone
namespace Go.Proofs.Ytonllnbincgdpaa

/-- each process but 1 has a parent that is there, and is no zombie; 1 is there, no zombie, nobody's child. -/
structure PInv (L : List PV) : Prop where
  one : ∃ q ∈ L, q.pid = 1
  ones : ∀ q ∈ L, q.pid = 1 → q.par = 0 ∧ q.st ≠ 3
  par : ∀ q ∈ L, q.pid ≠ 1 → ∃ r ∈ L, r.pid = q.par ∧ r.st ≠ 3

theorem pinv_first : PInv [first1] := ⟨⟨first1, by simp, rfl⟩, by simp [first1], by simp [first1]⟩

section
variable {L : List PV} {g : Int}

/-- processes turned: numbers stay, parents stay, no zombie is made. -/
theorem PInv.map (h : PInv L) (f : PV → PV) (hp : ∀ q, (f q).pid = q.pid) (hq : ∀ q ∈ L, (f q).par = q.par) (hs : ∀ q ∈ L, q.st ≠ 3 → (f q).st ≠ 3) : PInv (L.map f) := by
  refine ⟨?_, ?_, ?_⟩
  · obtain ⟨q, h1, h2⟩ := h.one
    exact ⟨f q, List.mem_map.2 ⟨q, h1, rfl⟩, by rw [hp, h2]⟩
  · intro q' hm he
    obtain ⟨q, h1, rfl⟩ := List.mem_map.1 hm
    rw [hp] at he
    obtain ⟨h2, h3⟩ := h.ones q h1 he
    exact ⟨by rw [hq q h1, h2], hs q h1 h3⟩
  · intro q' hm he
    obtain ⟨q, h1, rfl⟩ := List.mem_map.1 hm
    rw [hp] at he
    obtain ⟨r, h2, h3, h4⟩ := h.par q h1 he
    exact ⟨f r, List.mem_map.2 ⟨r, h2, rfl⟩, by rw [hp, hq q h1, h3], hs r h2 h4⟩

theorem PInv.set (h : PInv L) (ho : TOk L g) {k : Int} {q : PV} (hk : getL L k = some q) (f : PV → PV) (hp : (f q).pid = q.pid) (hq : (f q).par = q.par) (hs : q.st ≠ 3 → (f q).st ≠ 3) : PInv (setL L k (f (atL L k))) := by
  rw [atL_some hk]
  have hkp := (getL_mem hk).2
  have e : setL L k (f q) = L.map (fun x => if x.pid = k then f x else x) := by
    unfold setL
    refine List.map_congr_left (fun x hx => ?_)
    by_cases c : x.pid = k
    · have : getL L k = some x := by rw [← c]; exact getL_of_mem ho hx
      rw [hk] at this; cases this
      simp only [if_pos c]
    · simp only [if_neg c]
  have same : ∀ x ∈ L, x.pid = k → x = q := fun x hx c => by
    have : getL L k = some x := by rw [← c]; exact getL_of_mem ho hx
    rw [hk] at this; cases this; rfl
  rw [e]
  have key : ∀ x ∈ L, (if x.pid = k then f x else x).pid = x.pid ∧ (if x.pid = k then f x else x).par = x.par ∧ (x.st ≠ 3 → (if x.pid = k then f x else x).st ≠ 3) := by
    intro x hx
    by_cases c : x.pid = k
    · obtain rfl := same x hx c
      rw [if_pos c]; exact ⟨hp, hq, hs⟩
    · rw [if_neg c]; exact ⟨rfl, rfl, id⟩
  refine ⟨?_, ?_, ?_⟩
  · obtain ⟨y, h1, h2⟩ := h.one
    exact ⟨_, List.mem_map.2 ⟨y, h1, rfl⟩, by rw [(key y h1).1, h2]⟩
  · intro q' hm he
    obtain ⟨y, h1, rfl⟩ := List.mem_map.1 hm
    rw [(key y h1).1] at he
    obtain ⟨h2, h3⟩ := h.ones y h1 he
    exact ⟨by rw [(key y h1).2.1, h2], (key y h1).2.2 h3⟩
  · intro q' hm he
    obtain ⟨y, h1, rfl⟩ := List.mem_map.1 hm
    rw [(key y h1).1] at he
    obtain ⟨r, h2, h3, h4⟩ := h.par y h1 he
    exact ⟨_, List.mem_map.2 ⟨r, h2, rfl⟩, by rw [(key r h2).1, (key y h1).2.1, h3], (key r h2).2.2 h4⟩

theorem PInv.fork (h : PInv L) (ho : TOk L g) (k : Int) : PInv (forkL L g k) := by
  unfold forkL
  by_cases c : forkE L g k = 0
  · rw [if_pos c]
    have hr : runE L k = 0 := by
      unfold forkE at c
      split at c
      · exact c
      · rename_i h0; exact Classical.byContradiction (fun hn => h0 hn)
    obtain ⟨q, hq, hst⟩ := runE_some hr
    obtain ⟨hqm, hqp⟩ := getL_mem hq
    refine ⟨?_, ?_, ?_⟩
    · obtain ⟨y, h1, h2⟩ := h.one; exact ⟨y, by simp [h1], h2⟩
    · intro x hx he
      rcases List.mem_append.1 hx with h1 | h1
      · exact h.ones x h1 he
      · simp at h1; subst h1
        have := ho.g1
        simp [childV] at he; omega
    · intro x hx he
      rcases List.mem_append.1 hx with h1 | h1
      · obtain ⟨r, h2, h3, h4⟩ := h.par x h1 he
        exact ⟨r, by simp [h2], h3, h4⟩
      · simp at h1; subst h1
        exact ⟨q, by simp [hqm], by simp [childV, hqp], by omega⟩
  · rw [if_neg c]; exact h
theorem PInv.become (h : PInv L) (ho : TOk L g) (k u v : Int) : PInv (becL L k u v) := by
  unfold becL
  split
  · rename_i c
    unfold becE at c
    split at c
    · cases c
    · rename_i q e; exact h.set ho e (becV u v) rfl rfl id
  · exact h
theorem PInv.kill (h : PInv L) (ho : TOk L g) (k : Int) : PInv (kiL L k) := by
  unfold kiL
  split
  · rename_i c
    unfold kiE at c
    split at c
    · cases c
    · rename_i q e
      refine h.set ho e killV (kill_pid q) ?_ ?_
      · unfold killV; split <;> (try split) <;> rfl
      · unfold killV; intro hs; split
        · simp [awakeV]
        · split <;> assumption
  · exact h
theorem PInv.sleep (h : PInv L) (ho : TOk L g) (k : Int) (s : ByteArray) : PInv (slL L k s) := by
  unfold slL
  split
  · rename_i c
    obtain ⟨q, e, _⟩ := runE_some c
    exact h.set ho e (slV s) rfl rfl (fun _ => by simp [slV])
  · exact h
theorem PInv.wake (h : PInv L) (s : ByteArray) : PInv (wakL L s) :=
  h.map _ (fun q => by split <;> rfl) (fun q _ => by split <;> rfl) (fun q _ hs => by split; simp [awakeV]; exact hs)
theorem PInv.wait (h : PInv L) (ho : TOk L g) (k : Int) : PInv (waL L k) := by
  unfold waL
  split
  · rename_i c
    have hz : ∃ q, zomO L k = some q ∧ waQ L k = q := by
      unfold waE at c
      split at c
      · rename_i h0; exact absurd c h0
      · rename_i h0
        rcases zomE_cases (L := L) k with ⟨q, e, _⟩ | ⟨_, e⟩
        · refine ⟨q, e, ?_⟩
          unfold waQ waE
          rw [if_neg h0, c, e]; rfl
        · exact absurd c e
    obtain ⟨q, hz, hw⟩ := hz
    rw [hw]
    obtain ⟨hm, hpar, hst⟩ := zom_mem hz
    have keep : ∀ x ∈ L, x.st ≠ 3 → x ∈ delL L q.pid := by
      intro x hx hs
      refine List.mem_filter.2 ⟨hx, ?_⟩
      have : x.pid ≠ q.pid := fun e => by
        have h1 := getL_of_mem ho hx
        have h2 := getL_of_mem ho hm
        rw [e, h2] at h1
        cases h1
        exact hs hst
      simpa using this
    refine ⟨?_, ?_, ?_⟩
    · obtain ⟨y, h1, h2⟩ := h.one
      exact ⟨y, keep y h1 (h.ones y h1 h2).2, h2⟩
    · intro x hx he
      exact h.ones x (List.mem_filter.1 hx).1 he
    · intro x hx he
      obtain ⟨r, h1, h2, h3⟩ := h.par x (List.mem_filter.1 hx).1 he
      exact ⟨r, keep r h1 h3, h2, h3⟩
  · exact h
theorem PInv.exit (h : PInv L) (ho : TOk L g) (k t : Int) : PInv (exL L k t) := by
  unfold exL
  split
  · rename_i c
    obtain ⟨hr, hk1, _, _⟩ := exE_run c
    obtain ⟨q, hq, hst⟩ := runE_some hr
    have hg := exL0_get (k := k) hq
    have ho0 := ho.orph k
    rw [atL_some hg]
    have hmem : ∀ x ∈ exL0 L k, x.pid ≠ k → x ∈ setL (exL0 L k) k (exV t (if q.par = k then orphV q else q)) := fun x hx hne => List.mem_map.2 ⟨x, hx, by rw [if_neg hne]⟩
    have hoin : ∀ x ∈ L, (if x.par = k then orphV x else x) ∈ exL0 L k := fun x hx => List.mem_map.2 ⟨x, hx, rfl⟩
    have hop : ∀ x : PV, (if x.par = k then orphV x else x).pid = x.pid := fun x => by split <;> rfl
    have hos : ∀ x : PV, (if x.par = k then orphV x else x).st = x.st := fun x => by split <;> rfl
    have hone : ∃ y ∈ setL (exL0 L k) k (exV t (if q.par = k then orphV q else q)), y.pid = 1 ∧ y.st ≠ 3 := by
      obtain ⟨y, h1, h2⟩ := h.one
      exact ⟨_, hmem _ (hoin y h1) (by rw [hop, h2]; exact fun e => hk1 e.symm), by rw [hop, h2], by rw [hos]; exact (h.ones y h1 h2).2⟩
    have hpar : ∀ x ∈ L, x.pid ≠ 1 → ∃ r ∈ setL (exL0 L k) k (exV t (if q.par = k then orphV q else q)), r.pid = (if x.par = k then orphV x else x).par ∧ r.st ≠ 3 := by
      intro x hx he
      by_cases c : x.par = k
      · rw [if_pos c]
        exact hone
      · rw [if_neg c]
        obtain ⟨r, h1, h2, h3⟩ := h.par x hx he
        exact ⟨_, hmem _ (hoin r h1) (by rw [hop, h2]; exact c), by rw [hop, h2], by rw [hos]; exact h3⟩
    refine ⟨?_, ?_, ?_⟩
    · obtain ⟨y, h1, h2, _⟩ := hone; exact ⟨y, h1, h2⟩
    · intro x' hx' he
      obtain ⟨x0, hx0, hx⟩ := List.mem_map.1 hx'
      obtain ⟨x, hxL, hxe⟩ := List.mem_map.1 hx0
      by_cases c : x0.pid = k
      · rw [if_pos c] at hx
        rw [← hx] at he
        have : (exV t (if q.par = k then orphV q else q)).pid = q.pid := by show (if q.par = k then orphV q else q).pid = _; exact hop q
        rw [this, (getL_mem hq).2] at he
        exact absurd he hk1
      · rw [if_neg c] at hx
        subst hx; subst hxe
        rw [hop] at he
        obtain ⟨h1, h2⟩ := h.ones x hxL he
        rw [hos]
        refine ⟨?_, h2⟩
        have hk0 : k ≠ 0 := by have h5 := ho.low q (getL_mem hq).1; have h6 := (getL_mem hq).2; omega
        rw [if_neg (by omega)]
        exact h1
    · intro x' hx' he
      obtain ⟨x0, hx0, hx⟩ := List.mem_map.1 hx'
      obtain ⟨x, hxL, hxe⟩ := List.mem_map.1 hx0
      by_cases c : x0.pid = k
      · rw [if_pos c] at hx
        subst hx
        have e1 : (exV t (if q.par = k then orphV q else q)).par = (if q.par = k then orphV q else q).par := rfl
        rw [e1]
        exact hpar q (getL_mem hq).1 (by rw [(getL_mem hq).2]; exact hk1)
      · rw [if_neg c] at hx
        subst hx; subst hxe
        rw [hop] at he
        exact hpar x hxL he
  · exact h

theorem PInv.step (h : PInv L) (ho : TOk L g) (y k t u v : Int) (s : ByteArray) : PInv (stL y k t u v s L g) := by
  unfold stL
  split
  · exact h.fork ho k
  split
  · exact h.become ho k u v
  split
  · exact h.exit ho k t
  split
  · exact h.wait ho k
  split
  · exact h.kill ho k
  split
  · exact h.sleep ho k _
  · exact h.wake _
end
end Go.Proofs.Ytonllnbincgdpaa
