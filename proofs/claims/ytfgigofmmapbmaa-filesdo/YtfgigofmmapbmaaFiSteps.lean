/- Layer 9, plainly: what each call keeps; what an act makes of a list of descriptors. -/
import Derived.Test.YtfgigofmmapbmaaFiPure
namespace Go.Proofs.Ytfgigofmmapbmaa

/-! ### which is free -/
theorem free_yes2 {L : List FV} {p : Int} (h : ¬ freeI L p < 0) : look L p (freeI L p) = none ∧ ∀ d : Int, 0 ≤ d → d < freeI L p → ∃ x, look L p d = some x := by
  unfold freeI at *
  cases e : (List.range 8).find? (fun d : Nat => (L.findIdx? (FV.is p d)).isNone) with
  | none => rw [e] at h; exact absurd (by decide) h
  | some j =>
    rw [List.find?_range_eq_some] at e
    obtain ⟨h1, h2, h3⟩ := e
    refine ⟨idx_none_iff.1 (by simpa using h1), fun d hd hj => ?_⟩
    have hj' : d < (j : Int) := hj
    have := h3 d.toNat (by omega)
    rcases idx_look L p d with ⟨a, b⟩ | ⟨i, x, a, b, _⟩
    · rw [show ((d.toNat : Nat) : Int) = d by omega, a] at this
      simp at this
    · exact ⟨x, b⟩
theorem free_no2 {L : List FV} {p : Int} (h : freeI L p < 0) : freeI L p = -1 ∧ ∀ d : Int, 0 ≤ d → d < 8 → ∃ x, look L p d = some x := by
  unfold freeI at *
  cases e : (List.range 8).find? (fun d : Nat => (L.findIdx? (FV.is p d)).isNone) with
  | some j => rw [e] at h; exact absurd h (by simp)
  | none =>
    refine ⟨rfl, fun d hd h8 => ?_⟩
    have := List.find?_eq_none.1 e d.toNat (by simp; omega)
    rcases idx_look L p d with ⟨a, b⟩ | ⟨i, x, a, b, _⟩
    · rw [show ((d.toNat : Nat) : Int) = d by omega, a] at this
      simp at this
    · exact ⟨x, b⟩

/-! ### what is kept -/
def dupL (L : List FV) (p d : Int) : List FV := if dupE L p d = 0 then L ++ [{ fdX L p d with fd := freeI L p }] else L
section
variable {L : List FV} {n : Nat}
theorem WF.nil (n : Nat) : WF [] n := ⟨fun _ h => (by cases h), fun _ _ => (by simp), fun _ h => (by cases h), by rw [cntN_nil]; omega⟩
theorem open_zero {p k t : Int} (h : openE L n p k t = 0) : 1 ≤ p ∧ 1 ≤ k ∧ 0 ≤ t ∧ ¬ freeI L p < 0 ∧ cntN L n < 32 := by
  unfold openE at h
  split at h
  · cases h
  split at h
  · cases h
  split at h
  · cases h
  exact ⟨by omega, by omega, by omega, by assumption, by omega⟩
theorem dup_zero {p d : Int} (h : dupE L p d = 0) : 1 ≤ p ∧ ¬ freeI L p < 0 ∧ ∃ x, look L p d = some x := by
  unfold dupE at h
  split at h
  · cases h
  split at h
  · cases h
  split at h
  · cases h
  refine ⟨by omega, by assumption, ?_⟩
  rcases idx_look L p d with ⟨a, b⟩ | ⟨i, x, a, b, _⟩
  · rename_i h2 _
    rw [atI_none a] at h2
    exact absurd (by decide) h2
  · exact ⟨x, b⟩
theorem one_app {x : FV} (hw : WF L n) (h : look L x.pid x.fd = none) (p d : Int) : (L ++ [x]).countP (FV.is p d) ≤ 1 := by
  rw [List.countP_append, List.countP_singleton]
  by_cases c : x.pid = p ∧ x.fd = d
  · rw [if_pos (is_iff.2 c), cnt_zero L p d (by rw [← c.1, ← c.2]; exact h)]
    omega
  · rw [is_no c]
    exact hw.one p d
theorem WF.open (hw : WF L n) {p k t : Int} (h : openE L n p k t = 0) : WF (L ++ [⟨p, freeI L p, (n : Int) + 1, k, t⟩]) (n + 1) := by
  obtain ⟨h1, h2, h3, h4, h5⟩ := open_zero h
  have hf := freeI_lt L p
  refine ⟨fun x hx => ?_, one_app hw (free_yes2 h4).1, fun x hx y hy e => ?_, ?_⟩
  · rcases List.mem_append.1 hx with c | c
    · have := hw.ok x c
      exact ⟨this.1, this.2.1, this.2.2.1, this.2.2.2.1, by omega, this.2.2.2.2.2.1, this.2.2.2.2.2.2⟩
    · obtain rfl := List.mem_singleton.1 c
      exact ⟨h1, by dsimp only; omega, hf, by dsimp only; omega, by dsimp only; omega, h2, h3⟩
  · rcases List.mem_append.1 hx with c | c <;> rcases List.mem_append.1 hy with c' | c'
    · exact hw.same x c y c' e
    · obtain rfl := List.mem_singleton.1 c'
      have := hw.ok x c
      dsimp only at e
      omega
    · obtain rfl := List.mem_singleton.1 c
      have := hw.ok y c'
      dsimp only at e
      omega
    · obtain rfl := List.mem_singleton.1 c
      obtain rfl := List.mem_singleton.1 c'
      exact ⟨rfl, rfl⟩
  · rw [cnt_open rfl]
    omega
theorem WF.dup (hw : WF L n) {p d : Int} (h : dupE L p d = 0) : WF (L ++ [{ fdX L p d with fd := freeI L p }]) n := by
  obtain ⟨h1, h4, x, hx⟩ := dup_zero h
  have hf := freeI_lt L p
  rw [fdX_look, hx]
  obtain ⟨hm, hp, hd⟩ := look_is hx
  have ho := hw.ok x hm
  simp only [Option.getD_some]
  refine ⟨fun y hy => ?_, one_app hw (by dsimp only; rw [hp]; exact (free_yes2 h4).1), fun y hy z hz e => ?_, ?_⟩
  · rcases List.mem_append.1 hy with c | c
    · exact hw.ok y c
    · obtain rfl := List.mem_singleton.1 c
      exact ⟨ho.1, by dsimp only; omega, hf, ho.2.2.2⟩
  · rcases List.mem_append.1 hy with c | c <;> rcases List.mem_append.1 hz with c' | c'
    · exact hw.same y c z c' e
    · obtain rfl := List.mem_singleton.1 c'
      exact hw.same y c x hm e
    · obtain rfl := List.mem_singleton.1 c
      exact hw.same x hm z c' e
    · obtain rfl := List.mem_singleton.1 c
      obtain rfl := List.mem_singleton.1 c'
      exact ⟨rfl, rfl⟩
  · rw [cnt_more (fun y hy => ⟨x, hm, by obtain rfl := List.mem_singleton.1 hy; rfl⟩)]
    exact hw.cnt
theorem WF.rm (hw : WF L n) (p d : Int) : WF (rmL L p d) n := by
  cases e : look L p d with
  | none => rw [rm_none e]; exact hw
  | some x =>
    have hc := cnt_rm hw e
    have hcnt := hw.cnt
    refine ⟨fun y hy => hw.ok y (rm_mem hy), fun p' d' => ?_, fun y hy z hz => hw.same y (rm_mem hy) z (rm_mem hz), by omega⟩
    obtain ⟨A, B, rfl, hr, _⟩ := rm_split e
    have := hw.one p' d'
    rw [hr]
    rw [List.countP_append, List.countP_cons] at this
    rw [List.countP_append]
    omega
theorem WF.cls (hw : WF L n) (p d : Int) : WF (clsL L p d) n := by
  unfold clsL
  split
  · exact hw.rm p d
  · exact hw
theorem WF.dr (hw : WF L n) (p : Int) : ∀ j, WF (drL L p j) n
  | 0 => hw
  | j + 1 => (WF.dr hw p j).cls p j
theorem more_mem {p c : Int} {y : FV} : y ∈ moreL L p c ↔ ∃ x ∈ L, x.pid = p ∧ y = { x with pid := c } := by
  unfold moreL
  rw [List.mem_filterMap]
  constructor
  · rintro ⟨x, hx, e⟩
    unfold mine9 at e
    split at e
    · exact ⟨x, hx, by assumption, (Option.some.inj e).symm⟩
    · cases e
  · rintro ⟨x, hx, hp, rfl⟩
    exact ⟨x, hx, by unfold mine9; rw [if_pos hp]⟩
theorem more_count (p c d : Int) : ∀ L : List FV, (moreL L p c).countP (FV.is c d) = L.countP (FV.is p d)
  | [] => rfl
  | x :: L => by
    have := more_count p c d L
    unfold moreL at *
    rw [List.filterMap_cons, List.countP_cons, ← this]
    unfold mine9
    by_cases e : x.pid = p
    · simp only [if_pos e]
      rw [List.countP_cons]
      congr 1
      simp [FV.is, e]
    · simp only [if_neg e]
      rw [is_no (fun k => e k.1)]
      rfl
theorem fork_zero {p c : Int} (h : fork9E L p c = 0) : 1 ≤ p ∧ 1 ≤ c ∧ ∀ x ∈ L, x.pid ≠ c := by
  unfold fork9E at h
  split at h
  · cases h
  split at h
  · cases h
  rename_i h1 h2
  exact ⟨by omega, by omega, fun x hx e => h2 ⟨x, hx, e⟩⟩
theorem WF.fork (hw : WF L n) {p c : Int} (h : fork9E L p c = 0) : WF (L ++ moreL L p c) n := by
  obtain ⟨h1, h2, h3⟩ := fork_zero h
  have hf : ∀ y ∈ moreL L p c, ∃ x ∈ L, x.file = y.file := fun y hy => by
    obtain ⟨x, hx, _, rfl⟩ := more_mem.1 hy
    exact ⟨x, hx, rfl⟩
  have hs : ∀ y ∈ L ++ moreL L p c, ∃ x ∈ L, x.file = y.file ∧ x.kind = y.kind ∧ x.thing = y.thing := fun y hy => by
    rcases List.mem_append.1 hy with k | k
    · exact ⟨y, k, rfl, rfl, rfl⟩
    · obtain ⟨x, hx, _, rfl⟩ := more_mem.1 k
      exact ⟨x, hx, rfl, rfl, rfl⟩
  refine ⟨fun y hy => ?_, fun p' d' => ?_, fun y hy z hz e => ?_, by rw [cnt_more hf]; exact hw.cnt⟩
  · rcases List.mem_append.1 hy with k | k
    · exact hw.ok y k
    · obtain ⟨x, hx, _, rfl⟩ := more_mem.1 k
      have := hw.ok x hx
      exact ⟨h2, this.2⟩
  · rw [List.countP_append]
    by_cases e : p' = c
    · subst e
      rw [more_count, cnt_zero L p' d' (look_none.2 fun x hx k => h3 x hx k.1)]
      have := hw.one p d'
      omega
    · have := hw.one p' d'
      rw [show (moreL L p c).countP (FV.is p' d') = 0 from List.countP_eq_zero.2 fun y hy k => by
        obtain ⟨x, _, _, rfl⟩ := more_mem.1 hy
        exact e (is_iff.1 k).1.symm]
      omega
  · obtain ⟨a, ha, e1, e2, e3⟩ := hs y hy
    obtain ⟨b, hb, e4, e5, e6⟩ := hs z hz
    have := hw.same a ha b hb (by rw [e1, e4, e])
    exact ⟨by rw [← e2, ← e5]; exact this.1, by rw [← e3, ← e6]; exact this.2⟩
end

/-! ### an act -/
def actL (y : Nat) (p d k t : Int) (L : List FV) (n : Nat) : List FV := if y < 3 then openL L n p k t else if y = 3 then dupL L p d else if y = 4 then clsL L p d else if y = 6 then fork9L L p d else if y = 7 then drL L p 8 else L
def actN (y : Nat) (p k t : Int) (L : List FV) (n : Nat) : Nat := if y < 3 then openG L n p k t else n
section
variable {L : List FV} {n : Nat} {y : Nat} {p d k t : Int}
theorem WF.act (hw : WF L n) : WF (actL y p d k t L n) (actN y p k t L n) := by
  unfold actL actN
  split
  · unfold openL openG
    split
    · exact hw.open (by assumption)
    · exact hw
  split
  · unfold dupL
    split
    · exact hw.dup (by assumption)
    · exact hw
  split
  · exact hw.cls p d
  split
  · unfold fork9L
    split
    · exact hw.fork (by assumption)
    · exact hw
  split
  · exact hw.dr p 8
  · exact hw
theorem act_len (hw : WF L n) : (actL y p d k t L n).length ≤ L.length + 8 := by
  unfold actL
  split
  · unfold openL
    split <;> simp
  split
  · unfold dupL
    split <;> simp
  split
  · exact Nat.le_trans (clsL_len L p d) (by omega)
  split
  · unfold fork9L
    have := more_few hw p d
    split <;> simp
    exact this
  split
  · exact Nat.le_trans (drL_len L p 8) (by omega)
  · omega
theorem act_n : actN y p k t L n ≤ n + 1 := by
  unfold actN openG
  split
  · split <;> omega
  · omega

/-! ### nobody else's are touched -/
theorem cls_other {p' d' : Int} (h : p ≠ p') : look (clsL L p d) p' d' = look L p' d' := by
  unfold clsL
  split
  · exact rm_other (fun c => h c.1)
  · rfl
theorem dr_other {p' d' : Int} (h : p ≠ p') : ∀ j, look (drL L p j) p' d' = look L p' d'
  | 0 => rfl
  | j + 1 => (cls_other h).trans (dr_other h j)
theorem act_other {p' d' : Int} (h : p ≠ p') (hy : y ≠ 6) : look (actL y p d k t L n) p' d' = look L p' d' := by
  unfold actL
  split
  · unfold openL
    split
    · exact look_other (fun c => h c.1)
    · rfl
  split
  · unfold dupL
    split
    · rename_i hE
      obtain ⟨-, -, x, hx⟩ := dup_zero hE
      refine look_other (fun c => h ?_)
      have := c.1
      rw [fdX_look, hx] at this
      exact (look_is hx).2.1.symm.trans this
    · rfl
  split
  · exact cls_other h
  split
  · exact dr_other h 8
  · rfl

/-! ### all dropped -/
theorem cls_cnt (hw : WF L n) : cntN L n = cntN (clsL L p d) n + (if clsB L p d then 1 else 0) := by
  unfold clsL clsB
  by_cases h : getE L p d = 0
  · obtain ⟨_, x, hx⟩ := getE_zero.1 h
    rw [if_pos h, h, fdX_look, hx]
    have := cnt_rm hw hx
    simpa using this
  · rw [if_neg h, show (getE L p d == 0) = false by simpa using h]
    simp
theorem dr_cnt (hw : WF L n) (p : Int) : ∀ j, cntN L n = cntN (drL L p j) n + (drO L p j).length
  | 0 => rfl
  | j + 1 => by
    have h1 := dr_cnt hw p j
    have h2 := cls_cnt (p := p) (d := j) (hw.dr p j)
    rw [show drO L p (j + 1) = drO L p j ++ (if clsB (drL L p j) p j then [((getX (drL L p j) p j).kind, (getX (drL L p j) p j).thing)] else []) from rfl, show drL L p (j + 1) = clsL (drL L p j) p j from rfl, List.length_append, h1, h2]
    by_cases e : clsB (drL L p j) p j = true
    · rw [if_pos e, if_pos e]; simp; omega
    · rw [if_neg e, if_neg e]; simp
theorem cls_mem {x : FV} (h : x ∈ clsL L p d) : x ∈ L := by
  unfold clsL at h
  split at h
  · exact rm_mem h
  · exact h
theorem dr_mem {x : FV} : ∀ {j : Nat}, x ∈ drL L p j → x ∈ L
  | 0, h => h
  | _ + 1, h => dr_mem (cls_mem h)
theorem dr_gone (hw : WF L n) (hp : 1 ≤ p) : ∀ (j : Nat) (i : Nat), i < j → look (drL L p j) p i = none
  | 0, i, h => by omega
  | j + 1, i, h => by
    unfold drL clsL
    split
    · by_cases c : i = j
      · subst c
        exact rm_self (hw.dr p i) p i
      · rw [rm_other (fun k => c (by omega))]
        exact dr_gone hw hp j i (by omega)
    · rename_i hE
      by_cases c : i = j
      · subst c
        cases e : look (drL L p i) p i with
        | none => rfl
        | some x => exact absurd (getE_zero.2 ⟨hp, x, e⟩) hE
      · exact dr_gone hw hp j i (by omega)
theorem dr_none (hw : WF L n) (hp : 1 ≤ p) {x : FV} (h : x ∈ drL L p 8) : x.pid ≠ p := fun e => by
  have ho := hw.ok x (dr_mem h)
  exact look_none.1 (dr_gone hw hp 8 x.fd.toNat (by omega)) x h ⟨e, by omega⟩
end
end Go.Proofs.Ytfgigofmmapbmaa
