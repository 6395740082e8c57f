/- Processes and a table of them, as plain data: what each call of package proc makes of a list of processes whose numbers rise. -/
import Derived.WalkKit
import Derived.Lib.Hide
import Derived.Lib.SlKeysI
namespace Go.Proofs.Ytonllnbincgdpaa

/-- a process. -/
structure PV where
  pid : Int
  par : Int
  st : Int
  uid : Int
  gid : Int
  ch : ByteArray
  stat : Int
  kil : Bool

def PV.cells (q : PV) : Array Value := #[.int .i64 q.pid, .int .i64 q.par, .int .i64 q.st, .int .i64 q.uid, .int .i64 q.gid, .string q.ch, .int .i64 q.stat, .bool q.kil]
def PV.val (q : PV) : Value := .agg q.cells
def PV.zero : PV := ⟨0, 0, 0, 0, 0, ⟨#[]⟩, 0, false⟩

/-- the process of a number. -/
def getL (L : List PV) (k : Int) : Option PV := L.find? (fun q => q.pid == k)
/-- as a look-up gives it. -/
def atL (L : List PV) (k : Int) : PV := (getL L k).getD PV.zero
/-- one process turned. -/
def setL (L : List PV) (k : Int) (q' : PV) : List PV := L.map (fun q => if q.pid = k then q' else q)
/-- one process gone. -/
def delL (L : List PV) (k : Int) : List PV := L.filter (fun q => !(q.pid == k))

/-- what holds of every table: numbers rise, they lie between 1 and the greatest; at most sixteen. -/
structure TOk (L : List PV) (g : Int) : Prop where
  rise : L.Pairwise (fun a b => a.pid < b.pid)
  low : ∀ q ∈ L, 1 ≤ q.pid
  top : ∀ q ∈ L, q.pid ≤ g
  g1 : 1 ≤ g
  gmax : g ≤ 30000
  len : L.length ≤ 16

theorem getL_none {L : List PV} {k : Int} (h : getL L k = none) : ∀ q ∈ L, q.pid ≠ k := by
  intro q hq
  have := List.find?_eq_none.1 h q hq
  simpa using this
theorem getL_none_of {L : List PV} {k : Int} (h : ∀ q ∈ L, q.pid ≠ k) : getL L k = none := by
  unfold getL
  rw [List.find?_eq_none]
  intro q hq
  simpa using h q hq
theorem getL_split {L : List PV} {k : Int} {q : PV} (h : getL L k = some q) : ∃ A B, L = A ++ q :: B ∧ (∀ x ∈ A, x.pid ≠ k) ∧ q.pid = k := by
  obtain ⟨h1, A, B, h2, h3⟩ := List.find?_eq_some_iff_append.1 h
  exact ⟨A, B, h2, fun x hx => by simpa using h3 x hx, by simpa using h1⟩
theorem getL_mem {L : List PV} {k : Int} {q : PV} (h : getL L k = some q) : q ∈ L ∧ q.pid = k := by
  obtain ⟨A, B, rfl, _, h2⟩ := getL_split h
  exact ⟨by simp, h2⟩
theorem getL_of_mem {L : List PV} {g : Int} (ho : TOk L g) {q : PV} (h : q ∈ L) : getL L q.pid = some q := by
  cases e : getL L q.pid with
  | none => exact absurd rfl (getL_none e q h)
  | some q' =>
    obtain ⟨A, B, rfl, h1, h2⟩ := getL_split e
    have hr := ho.rise
    rw [List.pairwise_append] at hr
    rcases List.mem_append.1 h with hm | hm
    · exact absurd rfl (h1 q hm)
    · rcases List.mem_cons.1 hm with rfl | hm
      · rfl
      · have := (List.pairwise_cons.1 hr.2.1).1 q hm
        omega
theorem atL_some {L : List PV} {k : Int} {q : PV} (h : getL L k = some q) : atL L k = q := by unfold atL; rw [h]; rfl

theorem setL_split {L A B : List PV} {k : Int} {q q' : PV} {g : Int} (ho : TOk L g) (h : L = A ++ q :: B) (hk : q.pid = k) : setL L k q' = A ++ q' :: B := by
  subst h
  have hr := ho.rise
  rw [List.pairwise_append] at hr
  unfold setL
  rw [List.map_append, List.map_cons, if_pos hk]
  have hA : A.map (fun x => if x.pid = k then q' else x) = A := by
    conv => rhs; rw [← List.map_id A]
    refine List.map_congr_left (fun x hx => ?_)
    have := hr.2.2 x hx q (by simp)
    rw [if_neg (by omega)]; rfl
  have hB : B.map (fun x => if x.pid = k then q' else x) = B := by
    conv => rhs; rw [← List.map_id B]
    refine List.map_congr_left (fun x hx => ?_)
    have := (List.pairwise_cons.1 hr.2.1).1 x hx
    rw [if_neg (by omega)]; rfl
  rw [hA, hB]
theorem delL_split {L A B : List PV} {k : Int} {q : PV} {g : Int} (ho : TOk L g) (h : L = A ++ q :: B) (hk : q.pid = k) : delL L k = A ++ B := by
  subst h
  have hr := ho.rise
  rw [List.pairwise_append] at hr
  unfold delL
  rw [List.filter_append, List.filter_cons, if_neg (by simp [hk])]
  have hA : A.filter (fun x => !(x.pid == k)) = A := by
    rw [List.filter_eq_self]
    intro x hx
    have := hr.2.2 x hx q (by simp)
    have : x.pid ≠ k := by omega
    simpa using this
  have hB : B.filter (fun x => !(x.pid == k)) = B := by
    rw [List.filter_eq_self]
    intro x hx
    have := (List.pairwise_cons.1 hr.2.1).1 x hx
    have : x.pid ≠ k := by omega
    simpa using this
  rw [hA, hB]

/-- a table whose processes are turned, their numbers staying. -/
theorem TOk.mapP {L : List PV} {g : Int} (ho : TOk L g) (f : PV → PV) (hf : ∀ q, (f q).pid = q.pid) : TOk (L.map f) g := by
  refine ⟨?_, ?_, ?_, ho.g1, ho.gmax, by simpa using ho.len⟩
  · rw [List.pairwise_map]
    exact ho.rise.imp (fun {a b} h => by rw [hf, hf]; exact h)
  · intro q hq
    obtain ⟨x, hx, rfl⟩ := List.mem_map.1 hq
    rw [hf]; exact ho.low x hx
  · intro q hq
    obtain ⟨x, hx, rfl⟩ := List.mem_map.1 hq
    rw [hf]; exact ho.top x hx
theorem TOk.filterP {L : List PV} {g : Int} (ho : TOk L g) (f : PV → Bool) : TOk (L.filter f) g :=
  ⟨ho.rise.filter _, fun q hq => ho.low q (List.mem_filter.1 hq).1, fun q hq => ho.top q (List.mem_filter.1 hq).1, ho.g1, ho.gmax, Nat.le_trans (List.length_filter_le _ _) ho.len⟩
theorem TOk.setP {L : List PV} {g k : Int} (ho : TOk L g) {q' : PV} (hq : q'.pid = k) : TOk (setL L k q') g :=
  ho.mapP _ (fun q => by split <;> omega)
theorem TOk.delP {L : List PV} {g k : Int} (ho : TOk L g) : TOk (delL L k) g := ho.filterP _
theorem TOk.pushP {L : List PV} {g : Int} (ho : TOk L g) (hl : L.length < 16) (hg : g < 30000) {q : PV} (hq : q.pid = g + 1) : TOk (L ++ [q]) (g + 1) := by
  refine ⟨?_, ?_, ?_, by have := ho.g1; omega, by omega, by simp; omega⟩
  · rw [List.pairwise_append]
    refine ⟨ho.rise, by simp, fun a ha b hb => ?_⟩
    have := ho.top a ha
    simp at hb; subst hb; omega
  · intro x hx
    rcases List.mem_append.1 hx with h | h
    · exact ho.low x h
    · simp at h; subst h; have := ho.g1; omega
  · intro x hx
    rcases List.mem_append.1 hx with h | h
    · have := ho.top x h; omega
    · simp at h; subst h; omega

/-! ### the calls -/
def first1 : PV := ⟨1, 0, 1, 0, 0, ⟨#[]⟩, 0, false⟩
/-- running's error. -/
def runE (L : List PV) (k : Int) : Int := match getL L k with | none => 60 | some q => if q.st = 1 then 0 else 2
def childV (g k : Int) (q : PV) : PV := ⟨g, k, 1, q.uid, q.gid, ⟨#[]⟩, 0, false⟩
def forkE (L : List PV) (g k : Int) : Int := if runE L k ≠ 0 then runE L k else if L.length ≥ 16 ∨ g ≥ 30000 then 61 else 0
def forkL (L : List PV) (g k : Int) : List PV := if forkE L g k = 0 then L ++ [childV (g + 1) k (atL L k)] else L
def forkG (L : List PV) (g k : Int) : Int := if forkE L g k = 0 then g + 1 else g
def forkN (L : List PV) (g k : Int) : Int := if forkE L g k = 0 then g + 1 else 0
def usrB6 (x : Int) : Bool := decide (0 ≤ x ∧ x ≤ 65535)
def becE (L : List PV) (k u v : Int) : Int := match getL L k with | none => 60 | some q => if (usrB6 u && usrB6 v) = false then 50 else if q.uid ≠ 0 ∧ ¬ (q.uid = u ∧ q.gid = v) then 51 else 0
def becV (u v : Int) (q : PV) : PV := { q with uid := u, gid := v }
def becL (L : List PV) (k u v : Int) : List PV := if becE L k u v = 0 then setL L k (becV u v (atL L k)) else L
def exE (L : List PV) (k s : Int) : Int := if runE L k ≠ 0 then runE L k else if k = 1 ∨ s < 0 ∨ s > 255 then 2 else 0
def orphV (q : PV) : PV := { q with par := 1 }
def exV (s : Int) (q : PV) : PV := { q with st := 3, stat := s }
def exL0 (L : List PV) (k : Int) : List PV := L.map (fun q => if q.par = k then orphV q else q)
def exL (L : List PV) (k s : Int) : List PV := if exE L k s = 0 then setL (exL0 L k) k (exV s (atL (exL0 L k) k)) else L
/-- the zombie that is reaped. -/
def zomO (L : List PV) (k : Int) : Option PV := L.find? (fun q => q.par == k && q.st == 3)
def zomE (L : List PV) (k : Int) : Int := match zomO L k with | some _ => 0 | none => if L.any (fun q => q.par == k) then 63 else 62
def waE (L : List PV) (k : Int) : Int := if runE L k ≠ 0 then runE L k else zomE L k
def waQ (L : List PV) (k : Int) : PV := if waE L k = 0 then (zomO L k).getD PV.zero else PV.zero
def waL (L : List PV) (k : Int) : List PV := if waE L k = 0 then delL L (waQ L k).pid else L
def kiE (L : List PV) (k : Int) : Int := match getL L k with | none => 60 | some q => if k = 1 then 2 else if q.st = 3 then 60 else 0
def awakeV (q : PV) : PV := { q with st := 1, ch := ⟨#[]⟩ }
def killV (q : PV) : PV := if q.st = 2 then { awakeV q with kil := true } else if q.st = 1 then { q with kil := true } else q
def kiL (L : List PV) (k : Int) : List PV := if kiE L k = 0 then setL L k (killV (atL L k)) else L
def slV (s : ByteArray) (q : PV) : PV := { q with st := 2, ch := s }
def slL (L : List PV) (k : Int) (s : ByteArray) : List PV := if runE L k = 0 then setL L k (slV s (atL L k)) else L
def wakB (s : ByteArray) (q : PV) : Bool := (q.st == 2) && (q.ch == s)
def wakL (L : List PV) (s : ByteArray) : List PV := L.map (fun q => if wakB s q then awakeV q else q)

theorem awake_pid (q : PV) : (awakeV q).pid = q.pid := rfl
theorem kill_pid (q : PV) : (killV q).pid = q.pid := by unfold killV; split <;> (try split) <;> rfl
theorem tok_first : TOk [first1] 1 := ⟨by simp, by simp [first1], by simp [first1], by omega, by omega, by simp⟩

theorem TOk.fork {L : List PV} {g : Int} (ho : TOk L g) (k : Int) : TOk (forkL L g k) (forkG L g k) := by
  unfold forkL forkG
  by_cases c : forkE L g k = 0
  · rw [if_pos c, if_pos c]
    unfold forkE at c
    split at c
    · rename_i h; exact absurd c h
    · split at c
      · cases c
      · exact ho.pushP (by omega) (by omega) rfl
  · rw [if_neg c, if_neg c]; exact ho
theorem at_pid {L : List PV} {k : Int} {q : PV} (h : getL L k = some q) : (atL L k).pid = k := by rw [atL_some h]; exact (getL_mem h).2
theorem runE_some {L : List PV} {k : Int} (h : runE L k = 0) : ∃ q, getL L k = some q ∧ q.st = 1 := by
  unfold runE at h
  split at h
  · cases h
  · rename_i q e
    split at h
    · exact ⟨q, e, by assumption⟩
    · cases h
theorem exE_run {L : List PV} {k s : Int} (h : exE L k s = 0) : runE L k = 0 ∧ k ≠ 1 ∧ 0 ≤ s ∧ s ≤ 255 := by
  unfold exE at h
  split at h
  · rename_i c; exact absurd h c
  · split at h
    · cases h
    · rename_i c1 c2; exact ⟨by omega, by omega, by omega, by omega⟩
theorem exL0_get {L : List PV} {k j : Int} {q : PV} (h : getL L j = some q) : getL (exL0 L k) j = some (if q.par = k then orphV q else q) := by
  unfold getL exL0 at *
  rw [List.find?_map]
  have : ((fun q : PV => q.pid == j) ∘ fun q => if q.par = k then orphV q else q) = fun q => q.pid == j := by
    funext x
    simp only [Function.comp]
    split <;> rfl
  rw [this, h]
  rfl
theorem TOk.orph {L : List PV} {g : Int} (ho : TOk L g) (k : Int) : TOk (exL0 L k) g := ho.mapP _ (fun q => by split <;> rfl)
theorem TOk.exit {L : List PV} {g : Int} (ho : TOk L g) (k s : Int) : TOk (exL L k s) g := by
  unfold exL
  split
  · rename_i c
    obtain ⟨q, hq, _⟩ := runE_some (exE_run c).1
    exact (ho.orph k).setP (by show (atL (exL0 L k) k).pid = k; exact at_pid (exL0_get hq))
  · exact ho
theorem TOk.become {L : List PV} {g : Int} (ho : TOk L g) (k u v : Int) : TOk (becL L k u v) g := by
  unfold becL
  split
  · rename_i c
    unfold becE at c
    split at c
    · cases c
    · rename_i q e
      exact ho.setP (by show (atL L k).pid = k; exact at_pid e)
  · exact ho
theorem TOk.kill {L : List PV} {g : Int} (ho : TOk L g) (k : Int) : TOk (kiL L k) g := by
  unfold kiL
  split
  · rename_i c
    unfold kiE at c
    split at c
    · cases c
    · rename_i q e
      exact ho.setP (by rw [kill_pid]; exact at_pid e)
  · exact ho
theorem TOk.sleep {L : List PV} {g : Int} (ho : TOk L g) (k : Int) (s : ByteArray) : TOk (slL L k s) g := by
  unfold slL
  split
  · rename_i c
    obtain ⟨q, hq, _⟩ := runE_some c
    exact ho.setP (by show (atL L k).pid = k; exact at_pid hq)
  · exact ho
theorem TOk.wait {L : List PV} {g : Int} (ho : TOk L g) (k : Int) : TOk (waL L k) g := by
  unfold waL
  split
  · exact ho.delP
  · exact ho
theorem TOk.wake {L : List PV} {g : Int} (ho : TOk L g) (s : ByteArray) : TOk (wakL L s) g := ho.mapP _ (fun q => by split <;> rfl)

end Go.Proofs.Ytonllnbincgdpaa
