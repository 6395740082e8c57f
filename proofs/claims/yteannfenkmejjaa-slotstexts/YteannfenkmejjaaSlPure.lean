/- Layer 11, plainly: slots as eight, each with a thing or none and its sequence: what each call answers and makes of them. No program in it. -/
import Derived.Test.YteannfenkmejjaaBox
namespace Go.Proofs.Yteannfenkmejjaa

/-- eight slots: a thing or none; the sequence. -/
abbrev SlT (α : Type) := List (Option α × Nat)
def idS (i q : Nat) : Int := ((8 * q + i : Nat) : Int)
section
variable {α β : Type}
def valS (L : SlT α) (i : Nat) : Option α := L[i]?.bind (·.1)
def hasS (L : SlT α) (i : Nat) : Bool := (valS L i).isSome
def seqS (L : SlT α) (i : Nat) : Nat := (L[i]?.map (·.2)).getD 0
/-- the slot of a number; the first free one. -/
def atS (L : SlT α) (id : Int) : Option Nat := (List.range 8).find? fun i => hasS L i && idS i (seqS L i) == id
def freeS (L : SlT α) : Option Nat := (List.range 8).find? fun i => !hasS L i
def addE (L : SlT α) : Int := if (freeS L).isSome then 0 else 101
def addN (L : SlT α) : Int := match freeS L with
  | some i => idS i (seqS L i)
  | none => 0
def addL (L : SlT α) (v : α) : SlT α := match freeS L with
  | some i => L.set i (some v, seqS L i)
  | none => L
def getE (L : SlT α) (id : Int) : Int := if (atS L id).isSome then 0 else 100
def getV (d : α) (L : SlT α) (id : Int) : α := match atS L id with
  | some i => (valS L i).getD d
  | none => d
def setL (L : SlT α) (id : Int) (v : α) : SlT α := match atS L id with
  | some i => L.set i (some v, seqS L i)
  | none => L
def remL (L : SlT α) (id : Int) : SlT α := match atS L id with
  | some i => L.set i (none, (seqS L i + 1) % 4096)
  | none => L
def idsL (L : SlT α) : List Int := (List.range 8).filterMap fun i => if hasS L i then some (idS i (seqS L i)) else none
def newS (α : Type) : SlT α := List.replicate 8 (none, 0)
/-- what slots may be. -/
structure SOk (L : SlT α) : Prop where
  len : L.length = 8
  seq : ∀ i, seqS L i < 4096

variable {L : SlT α} {i j : Nat} {id : Int} {v : α}
theorem newS_ok : SOk (newS α) := ⟨by simp [newS], fun i => by unfold seqS newS; rw [List.getElem?_replicate]; split <;> simp⟩
theorem atS_some (h : atS L id = some i) : i < 8 ∧ hasS L i = true ∧ idS i (seqS L i) = id := by
  unfold atS at h
  have h1 := List.find?_some h
  have h2 := List.mem_of_find?_eq_some h
  simp at h1 h2
  exact ⟨h2, h1.1, h1.2⟩
theorem freeS_some (h : freeS L = some i) : i < 8 ∧ hasS L i = false := by
  unfold freeS at h
  have h1 := List.find?_some h
  have h2 := List.mem_of_find?_eq_some h
  simp at h1 h2
  exact ⟨h2, h1⟩
theorem seqS_set (p : Option α × Nat) (hi : i < L.length) : seqS (L.set i p) j = if j = i then p.2 else seqS L j := by
  unfold seqS
  rw [List.getElem?_set]
  by_cases c : i = j
  · subst c; simp [hi]
  · rw [if_neg c, if_neg (fun e => c e.symm)]
theorem valS_set (p : Option α × Nat) (hi : i < L.length) : valS (L.set i p) j = if j = i then p.1 else valS L j := by
  unfold valS
  rw [List.getElem?_set]
  by_cases c : i = j
  · subst c; simp [hi]
  · rw [if_neg c, if_neg (fun e => c e.symm)]
theorem SOk.set (h : SOk L) (p : Option α × Nat) (hp : p.2 < 4096) (hi : i < 8) : SOk (L.set i p) :=
  ⟨by rw [List.length_set]; exact h.len, fun j => by
    rw [seqS_set p (by rw [h.len]; exact hi)]
    split
    · exact hp
    · exact h.seq j⟩
theorem SOk.add (h : SOk L) (v : α) : SOk (addL L v) := by
  unfold addL
  split
  · rename_i i e
    exact h.set _ (h.seq i) (freeS_some e).1
  · exact h
theorem SOk.st (h : SOk L) (id : Int) (v : α) : SOk (setL L id v) := by
  unfold setL
  split
  · rename_i i e
    exact h.set _ (h.seq i) (atS_some e).1
  · exact h
theorem SOk.rem (h : SOk L) (id : Int) : SOk (remL L id) := by
  unfold remL
  split
  · rename_i i e
    exact h.set _ (by show _ < 4096; omega) (atS_some e).1
  · exact h
theorem idsL_len (L : SlT α) : (idsL L).length ≤ 8 := by
  unfold idsL
  have := List.length_filterMap_le (fun i => if hasS L i then some (idS i (seqS L i)) else none) (List.range 8)
  simpa using this
end
end Go.Proofs.Yteannfenkmejjaa
