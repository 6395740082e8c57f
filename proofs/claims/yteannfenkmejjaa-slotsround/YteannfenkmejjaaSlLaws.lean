/- Layer 11, plainly: what the laws ask of eight slots: one slot used over and over; slots filled one by one; slots of texts and slots of their places. No program in it. -/
import Derived.Test.YteannfenkmejjaaSlPure
namespace Go.Proofs.Yteannfenkmejjaa

section
variable {α β : Type} {q n i j : Nat} {v : Int} {id : Int}
/-- the first one's sequence is q, all are free; it has a thing. -/
def oneS (q : Nat) : SlT Int := [(none, q), (none, 0), (none, 0), (none, 0), (none, 0), (none, 0), (none, 0), (none, 0)]
def heldS (q : Nat) (v : Int) : SlT Int := [(some v, q), (none, 0), (none, 0), (none, 0), (none, 0), (none, 0), (none, 0), (none, 0)]
theorem one_new : newS Int = oneS 0 := rfl
theorem free_one : freeS (oneS q) = some 0 := rfl
theorem addE_one : addE (oneS q) = 0 := rfl
theorem addN_one : addN (oneS q) = 8 * (q : Int) := by
  show ((8 * q + 0 : Nat) : Int) = _
  omega
theorem addL_one : addL (oneS q) v = heldS q v := rfl
theorem at_held : atS (heldS q v) id = if id = 8 * (q : Int) then some 0 else none := by
  have e : atS (heldS q v) id = (if (idS 0 q == id) = true then some 0 else none) := by
    unfold atS
    rw [show List.range 8 = [0, 1, 2, 3, 4, 5, 6, 7] from rfl]
    cases h : (idS 0 q == id) <;> simp [List.find?, hasS, valS, seqS, heldS, h]
  rw [e]
  unfold idS
  by_cases c : id = 8 * (q : Int)
  · rw [if_pos c, if_pos (by simp; omega)]
  · rw [if_neg c, if_neg (by simp; omega)]
theorem at_one : atS (oneS q) id = none := by
  unfold atS
  rw [show List.range 8 = [0, 1, 2, 3, 4, 5, 6, 7] from rfl]
  simp [List.find?, hasS, valS, oneS]
theorem getE_held : getE (heldS q v) (8 * (q : Int)) = 0 := by unfold getE; rw [at_held, if_pos rfl]; rfl
theorem getV_held : getV 0 (heldS q v) (8 * (q : Int)) = v := by unfold getV; rw [at_held, if_pos rfl]; rfl
theorem getE_held_no (h : id ≠ 8 * (q : Int)) : getE (heldS q v) id = 100 := by unfold getE; rw [at_held, if_neg h]; rfl
theorem getV_held_no (h : id ≠ 8 * (q : Int)) : getV 0 (heldS q v) id = 0 := by unfold getV; rw [at_held, if_neg h]
theorem remL_held : remL (heldS q v) (8 * (q : Int)) = oneS ((q + 1) % 4096) := by unfold remL; rw [at_held, if_pos rfl]; rfl
theorem ids_one : idsL (oneS q) = [] := rfl

/-- the first n of eight hold themselves. -/
def fillS (n : Nat) : SlT Int := (List.range 8).map fun i => if i < n then (some (i : Int), 0) else (none, 0)
theorem fill_new : newS Int = fillS 0 := by decide
theorem fill_free : ∀ n, n ≤ 8 → freeS (fillS n) = if n < 8 then some n else none := by decide
theorem fill_next : ∀ n, n < 8 → (fillS n).set n (some (n : Int), 0) = fillS (n + 1) := by decide
theorem fill_seq : ∀ n, n ≤ 8 → ∀ i, i < 8 → seqS (fillS n) i = 0 := by decide
theorem fill_ids : ∀ n, n ≤ 8 → (idsL (fillS n)).length = n := by decide
theorem fill_add (h : n < 8) : addE (fillS n) = 0 ∧ addN (fillS n) = (n : Int) ∧ addL (fillS n) (n : Int) = fillS (n + 1) := by
  have hf := fill_free n (by omega)
  have hq := fill_seq n (by omega) n h
  rw [if_pos h] at hf
  unfold addE addN addL
  rw [hf]
  refine ⟨rfl, ?_, ?_⟩
  · show idS n (seqS (fillS n) n) = _
    rw [hq]
    unfold idS
    omega
  · show (fillS n).set n (some (n : Int), seqS (fillS n) n) = _
    rw [hq]
    exact fill_next n h
theorem fill_full : addE (fillS 8) = 101 ∧ addN (fillS 8) = 0 ∧ ∀ v, addL (fillS 8) v = fillS 8 := by
  have hf := fill_free 8 (by omega)
  rw [if_neg (by omega)] at hf
  unfold addE addN addL
  rw [hf]
  exact ⟨rfl, rfl, fun _ => rfl⟩

/-- the same with other things. -/
def mapS (f : α → β) (L : SlT α) : SlT β := L.map fun x => (x.1.map f, x.2)
variable {f : α → β} {L : SlT α} {d : α} {x : α}
theorem valS_map : valS (mapS f L) i = (valS L i).map f := by
  unfold valS mapS
  rw [List.getElem?_map]
  cases L[i]? <;> rfl
theorem hasS_map : hasS (mapS f L) i = hasS L i := by unfold hasS; rw [valS_map]; cases valS L i <;> rfl
theorem seqS_map : seqS (mapS f L) i = seqS L i := by
  unfold seqS mapS
  rw [List.getElem?_map]
  cases L[i]? <;> rfl
theorem atS_map : atS (mapS f L) id = atS L id := by unfold atS; congr 1; funext i; rw [hasS_map, seqS_map]
theorem freeS_map : freeS (mapS f L) = freeS L := by unfold freeS; congr 1; funext i; rw [hasS_map]
theorem addE_map : addE (mapS f L) = addE L := by unfold addE; rw [freeS_map]
theorem addN_map : addN (mapS f L) = addN L := by
  unfold addN
  rw [freeS_map]
  cases freeS L with
  | none => rfl
  | some i => show idS i (seqS (mapS f L) i) = _; rw [seqS_map]
theorem set_map (p : Option α × Nat) : (mapS f L).set i (p.1.map f, p.2) = mapS f (L.set i p) := by
  unfold mapS
  rw [List.map_set]
theorem addL_map : addL (mapS f L) (f x) = mapS f (addL L x) := by
  unfold addL
  rw [freeS_map]
  cases freeS L with
  | none => rfl
  | some i => show (mapS f L).set i (some (f x), seqS (mapS f L) i) = mapS f (L.set i (some x, seqS L i)); rw [seqS_map]; exact set_map (some x, seqS L i)
theorem getE_map : getE (mapS f L) id = getE L id := by unfold getE; rw [atS_map]
theorem setL_map : setL (mapS f L) id (f x) = mapS f (setL L id x) := by
  unfold setL
  rw [atS_map]
  cases atS L id with
  | none => rfl
  | some i => show (mapS f L).set i (some (f x), seqS (mapS f L) i) = mapS f (L.set i (some x, seqS L i)); rw [seqS_map]; exact set_map (some x, seqS L i)
theorem remL_map : remL (mapS f L) id = mapS f (remL L id) := by
  unfold remL
  rw [atS_map]
  cases atS L id with
  | none => rfl
  | some i => show (mapS f L).set i (none, (seqS (mapS f L) i + 1) % 4096) = mapS f (L.set i (none, (seqS L i + 1) % 4096)); rw [seqS_map]; exact set_map (none, (seqS L i + 1) % 4096)
theorem idsL_map : idsL (mapS f L) = idsL L := by unfold idsL; congr 1; funext i; rw [hasS_map, seqS_map]
theorem newS_map : mapS f (newS α) = newS β := by unfold mapS newS; rw [List.map_replicate]; rfl
/-- what is got of the one is that of the other, where there is one. -/
theorem getV_map (d' : β) (h : getE L id = 0) : getV d' (mapS f L) id = f (getV d L id) := by
  unfold getE at h
  unfold getV
  rw [atS_map]
  cases e : atS L id with
  | none => rw [e] at h; cases h
  | some i =>
    have := (atS_some e).2.1
    unfold hasS at this
    show (valS (mapS f L) i).getD d' = f ((valS L i).getD d)
    rw [valS_map]
    cases c : valS L i with
    | none => rw [c] at this; cases this
    | some x => rfl
theorem getV_no (h : getE L id ≠ 0) : getV d L id = d := by
  unfold getE at h
  unfold getV
  cases e : atS L id with
  | none => rfl
  | some i => rw [e] at h; exact absurd rfl h
theorem getE_two (L : SlT α) (id : Int) : getE L id = 0 ∨ getE L id = 100 := by unfold getE; split <;> simp
theorem addE_two (L : SlT α) : addE L = 0 ∨ addE L = 101 := by unfold addE; split <;> simp
end
end Go.Proofs.Yteannfenkmejjaa
