/- Package slots, of int: eight slots in memory, exactly; New. -/
import Derived.Test.YteannfenkmejjaaSlLeaf
import Derived.Test.YteannfenkmejjaaSlWorksI
namespace Go.Proofs.Yteannfenkmejjaa
open Go.RowKit

def cellsI (x : Option Int × Nat) : List Value := [.int .i64 (x.2 : Int), .bool x.1.isSome, encI (x.1.getD (0 : Int))]
theorem cellsI_len (x : Option Int × Nat) : (cellsI x).length = 3 := rfl
/-- eight slots at p. -/
structure MemI (W : World) (p : Nat) (L : SlT Int) : Prop where
  ok : SOk L
  box : BoxA W p 57 (rowA cellsI L)
section
variable {w w' : World} {p i q : Nat} {L : SlT Int} {v : Int} {o : Option Int}
theorem MemI.lt (h : MemI w p L) : p < w.heap.size := h.box.lt
theorem MemI.keep (h : MemI w p L) (e : w'.heap[p]? = w.heap[p]?) : MemI w' p L := ⟨h.ok, h.box.keep e⟩
theorem MemI.below (h : MemI w p L) (hb : Below w.heap.size w w') : MemI w' p L := h.keep (hb.block p h.lt)
theorem slotAtI (h : SOk L) (hi : i < 8) : L[i]? = some (valS L i, seqS L i) := by
  have hl : i < L.length := by rw [h.len]; exact hi
  unfold valS seqS
  rw [List.getElem?_eq_getElem hl]
  rfl
theorem MemI.c0 (h : MemI w p L) (hi : i < 8) : w.cell? ⟨p, i * 3, none⟩ = some (.int .i64 (seqS L i : Int)) := h.box.row_cell (o := 0) cellsI_len (slotAtI h.ok hi) rfl
theorem MemI.c1 (h : MemI w p L) (hi : i < 8) : w.cell? ⟨p, i * 3 + 1, none⟩ = some (.bool (hasS L i)) := h.box.row_cell (o := 1) cellsI_len (slotAtI h.ok hi) rfl
theorem MemI.c2 (h : MemI w p L) (hi : i < 8) : w.cell? ⟨p, i * 3 + 2, none⟩ = some (encI ((valS L i).getD (0 : Int))) := h.box.row_cell (o := 2) cellsI_len (slotAtI h.ok hi) rfl
theorem MemI.f (h : MemI w p L) (j : Nat) : w.frozen? ⟨p, j, none⟩ = false := h.box.f j
/-- a thing is put into a slot. -/
theorem MemI.put (h : MemI w p L) (hi : i < 8) (hh : hasS L i = true) (v : Int) : MemI (w.setCell ⟨p, i * 3 + 2, none⟩ (.int .i64 v)) p (L.set i (some v, seqS L i)) :=
  ⟨h.ok.set _ (h.ok.seq i) hi, h.box.row_store (o := 2) cellsI_len (slotAtI h.ok hi) (by omega) (by
    show cellsI (some v, seqS L i) = [_, Value.bool (valS L i).isSome, _]
    rw [show (valS L i).isSome = true from hh]
    rfl)⟩
theorem MemI.fill (h : MemI w p L) (hi : i < 8) (v : Int) : MemI ((w.setCell ⟨p, i * 3 + 1, none⟩ (.bool true)).setCell ⟨p, i * 3 + 2, none⟩ (.int .i64 v)) p (L.set i (some v, seqS L i)) := by
  have hl : i < L.length := by rw [h.ok.len]; exact hi
  refine ⟨h.ok.set _ (h.ok.seq i) hi, ?_⟩
  have h1 := h.box.row_store (o := 1) (v := .bool true) (y := (some ((valS L i).getD (0 : Int)), seqS L i)) cellsI_len (slotAtI h.ok hi) (by omega) rfl
  have h2 := h1.row_store (o := 2) (v := (.int .i64 v)) (x := (some ((valS L i).getD (0 : Int)), seqS L i)) (y := (some v, seqS L i)) (i := i) cellsI_len (by rw [List.getElem?_set_self hl]) (by omega) rfl
  rw [List.set_set] at h2
  exact h2
def rawI (x : Nat × Bool × Int) : List Value := [.int .i64 (x.1 : Int), .bool x.2.1, encI x.2.2]
def triI (x : Option Int × Nat) : Nat × Bool × Int := (x.2, x.1.isSome, x.1.getD (0 : Int))
theorem row_rawI (L : SlT Int) : rowA cellsI L = rowA rawI (L.map triI) := by
  unfold rowA
  rw [List.flatMap_map]
  rfl
/-- a slot is made free. -/
theorem MemI.free (h : MemI w p L) (hi : i < 8) (hq : q < 4096) : MemI (((w.setCell ⟨p, i * 3, none⟩ (.int .i64 (q : Int))).setCell ⟨p, i * 3 + 1, none⟩ (.bool false)).setCell ⟨p, i * 3 + 2, none⟩ (.int .i64 0)) p (L.set i (none, q)) := by
  have hl : i < (L.map triI).length := by rw [List.length_map, h.ok.len]; exact hi
  have hc : ∀ x, (rawI x).length = 3 := fun _ => rfl
  have hg : ∀ y, ((L.map triI).set i y)[i]? = some y := fun y => by rw [List.getElem?_set_self hl]
  have hb := h.box
  rw [row_rawI] at hb
  have g : (L.map triI)[i]? = some (triI (valS L i, seqS L i)) := by rw [List.getElem?_map, slotAtI h.ok hi]; rfl
  have h0 := hb.row_store (o := 0) (v := .int .i64 (q : Int)) (y := (q, (valS L i).isSome, (valS L i).getD (0 : Int))) hc g (by omega) rfl
  have h1 := h0.row_store (o := 1) (v := .bool false) (y := (q, false, (valS L i).getD (0 : Int))) hc (hg _) (by omega) rfl
  rw [List.set_set] at h1
  have h2 := h1.row_store (o := 2) (v := (.int .i64 0)) (y := (q, false, (0 : Int))) hc (hg _) (by omega) rfl
  refine ⟨h.ok.set _ hq hi, ?_⟩
  rw [List.set_set] at h2
  rw [row_rawI, List.map_set]
  exact h2
theorem newRowI : rowA cellsI (newS Int) = #[.int .i64 0, .bool false, (.int .i64 0), .int .i64 0, .bool false, (.int .i64 0), .int .i64 0, .bool false, (.int .i64 0), .int .i64 0, .bool false, (.int .i64 0), .int .i64 0, .bool false, (.int .i64 0), .int .i64 0, .bool false, (.int .i64 0), .int .i64 0, .bool false, (.int .i64 0), .int .i64 0, .bool false, (.int .i64 0)] := rfl
/-- New. -/
theorem new_I (w : World) : Calls Try.prog 10 #[] w fun e w' => e = .returned (.pointer (some ⟨w.heap.size, 0, none⟩)) ∧ MemI w' w.heap.size (newS Int) ∧ Below w.heap.size w w' := by
  go_enter Try.func10, Try.ntmps10
  go_wp2
  go_ret
  exact ⟨rfl, ⟨newS_ok, by rw [newRowI]; exact BoxA.new w _ _⟩, (Below.refl _ _).alloc (Nat.le_refl _) _⟩
end
end Go.Proofs.Yteannfenkmejjaa
