/- Package slots, of string: eight slots in memory, exactly; New. -/
import Derived.Test.YteannfenkmejjaaSlLeaf
import Derived.Test.YteannfenkmejjaaSlWorksS
namespace Go.Proofs.Yteannfenkmejjaa
open Go.RowKit

def cellsS (x : Option ByteArray × Nat) : List Value := [.int .i64 (x.2 : Int), .bool x.1.isSome, encS (x.1.getD (⟨#[]⟩ : ByteArray))]
theorem cellsS_len (x : Option ByteArray × Nat) : (cellsS x).length = 3 := rfl
/-- eight slots at p. -/
structure MemS (W : World) (p : Nat) (L : SlT ByteArray) : Prop where
  ok : SOk L
  box : BoxA W p 70 (rowA cellsS L)
section
variable {w w' : World} {p i q : Nat} {L : SlT ByteArray} {v : ByteArray} {o : Option ByteArray}
theorem MemS.lt (h : MemS w p L) : p < w.heap.size := h.box.lt
theorem MemS.keep (h : MemS w p L) (e : w'.heap[p]? = w.heap[p]?) : MemS w' p L := ⟨h.ok, h.box.keep e⟩
theorem MemS.below (h : MemS w p L) (hb : Below w.heap.size w w') : MemS w' p L := h.keep (hb.block p h.lt)
theorem slotAtS (h : SOk L) (hi : i < 8) : L[i]? = some (valS L i, seqS L i) := by
  have hl : i < L.length := by rw [h.len]; exact hi
  unfold valS seqS
  rw [List.getElem?_eq_getElem hl]
  rfl
theorem MemS.c0 (h : MemS w p L) (hi : i < 8) : w.cell? ⟨p, i * 3, none⟩ = some (.int .i64 (seqS L i : Int)) := h.box.row_cell (o := 0) cellsS_len (slotAtS h.ok hi) rfl
theorem MemS.c1 (h : MemS w p L) (hi : i < 8) : w.cell? ⟨p, i * 3 + 1, none⟩ = some (.bool (hasS L i)) := h.box.row_cell (o := 1) cellsS_len (slotAtS h.ok hi) rfl
theorem MemS.c2 (h : MemS w p L) (hi : i < 8) : w.cell? ⟨p, i * 3 + 2, none⟩ = some (encS ((valS L i).getD (⟨#[]⟩ : ByteArray))) := h.box.row_cell (o := 2) cellsS_len (slotAtS h.ok hi) rfl
theorem MemS.f (h : MemS w p L) (j : Nat) : w.frozen? ⟨p, j, none⟩ = false := h.box.f j
/-- a thing is put into a slot. -/
theorem MemS.put (h : MemS w p L) (hi : i < 8) (hh : hasS L i = true) (v : ByteArray) : MemS (w.setCell ⟨p, i * 3 + 2, none⟩ (.string v)) p (L.set i (some v, seqS L i)) :=
  ⟨h.ok.set _ (h.ok.seq i) hi, h.box.row_store (o := 2) cellsS_len (slotAtS h.ok hi) (by omega) (by
    show cellsS (some v, seqS L i) = [_, Value.bool (valS L i).isSome, _]
    rw [show (valS L i).isSome = true from hh]
    rfl)⟩
theorem MemS.fill (h : MemS w p L) (hi : i < 8) (v : ByteArray) : MemS ((w.setCell ⟨p, i * 3 + 1, none⟩ (.bool true)).setCell ⟨p, i * 3 + 2, none⟩ (.string v)) p (L.set i (some v, seqS L i)) := by
  have hl : i < L.length := by rw [h.ok.len]; exact hi
  refine ⟨h.ok.set _ (h.ok.seq i) hi, ?_⟩
  have h1 := h.box.row_store (o := 1) (v := .bool true) (y := (some ((valS L i).getD (⟨#[]⟩ : ByteArray)), seqS L i)) cellsS_len (slotAtS h.ok hi) (by omega) rfl
  have h2 := h1.row_store (o := 2) (v := (.string v)) (x := (some ((valS L i).getD (⟨#[]⟩ : ByteArray)), seqS L i)) (y := (some v, seqS L i)) (i := i) cellsS_len (by rw [List.getElem?_set_self hl]) (by omega) rfl
  rw [List.set_set] at h2
  exact h2
def rawS (x : Nat × Bool × ByteArray) : List Value := [.int .i64 (x.1 : Int), .bool x.2.1, encS x.2.2]
def triS (x : Option ByteArray × Nat) : Nat × Bool × ByteArray := (x.2, x.1.isSome, x.1.getD (⟨#[]⟩ : ByteArray))
theorem row_rawS (L : SlT ByteArray) : rowA cellsS L = rowA rawS (L.map triS) := by
  unfold rowA
  rw [List.flatMap_map]
  rfl
/-- a slot is made free. -/
theorem MemS.free (h : MemS w p L) (hi : i < 8) (hq : q < 4096) : MemS (((w.setCell ⟨p, i * 3, none⟩ (.int .i64 (q : Int))).setCell ⟨p, i * 3 + 1, none⟩ (.bool false)).setCell ⟨p, i * 3 + 2, none⟩ (.string ⟨#[]⟩)) p (L.set i (none, q)) := by
  have hl : i < (L.map triS).length := by rw [List.length_map, h.ok.len]; exact hi
  have hc : ∀ x, (rawS x).length = 3 := fun _ => rfl
  have hg : ∀ y, ((L.map triS).set i y)[i]? = some y := fun y => by rw [List.getElem?_set_self hl]
  have hb := h.box
  rw [row_rawS] at hb
  have g : (L.map triS)[i]? = some (triS (valS L i, seqS L i)) := by rw [List.getElem?_map, slotAtS h.ok hi]; rfl
  have h0 := hb.row_store (o := 0) (v := .int .i64 (q : Int)) (y := (q, (valS L i).isSome, (valS L i).getD (⟨#[]⟩ : ByteArray))) hc g (by omega) rfl
  have h1 := h0.row_store (o := 1) (v := .bool false) (y := (q, false, (valS L i).getD (⟨#[]⟩ : ByteArray))) hc (hg _) (by omega) rfl
  rw [List.set_set] at h1
  have h2 := h1.row_store (o := 2) (v := (.string ⟨#[]⟩)) (y := (q, false, (⟨#[]⟩ : ByteArray))) hc (hg _) (by omega) rfl
  refine ⟨h.ok.set _ hq hi, ?_⟩
  rw [List.set_set] at h2
  rw [row_rawS, List.map_set]
  exact h2
theorem newRowS : rowA cellsS (newS ByteArray) = #[.int .i64 0, .bool false, (.string ⟨#[]⟩), .int .i64 0, .bool false, (.string ⟨#[]⟩), .int .i64 0, .bool false, (.string ⟨#[]⟩), .int .i64 0, .bool false, (.string ⟨#[]⟩), .int .i64 0, .bool false, (.string ⟨#[]⟩), .int .i64 0, .bool false, (.string ⟨#[]⟩), .int .i64 0, .bool false, (.string ⟨#[]⟩), .int .i64 0, .bool false, (.string ⟨#[]⟩)] := rfl
/-- New. -/
theorem new_S (w : World) : Calls Try.prog 23 #[] w fun e w' => e = .returned (.pointer (some ⟨w.heap.size, 0, none⟩)) ∧ MemS w' w.heap.size (newS ByteArray) ∧ Below w.heap.size w w' := by
  go_enter Try.func23, Try.ntmps23
  go_wp2
  go_ret
  exact ⟨rfl, ⟨newS_ok, by rw [newRowS]; exact BoxA.new w _ _⟩, (Below.refl _ _).alloc (Nat.le_refl _) _⟩
end
end Go.Proofs.Yteannfenkmejjaa
