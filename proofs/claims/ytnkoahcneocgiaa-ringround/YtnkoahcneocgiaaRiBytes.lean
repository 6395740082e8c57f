/- Package ring: Bytes, walked: a ring copied whole, and all got out of the copy. -/
import Derived.Test.YtnkoahcneocgiaaRiRing
import Derived.Test.YtnkoahcneocgiaaExec
namespace Go.Proofs.Ytnkoahcneocgiaa
open Go.RowKit Go.Shelf Go.Lib

theorem setCells_row {w : World} {g : Nat} {cur : Array Value} {t : TypeId} (hg : w.heap[g]? = some (.cells cur t (0, 0))) (vs : List Value) (hl : vs.length = cur.size) (h1 : ∀ v ∈ vs, v.oneCell' = true) : w.setCells g 0 vs = w.setRow g vs.toArray := by
  have a := run_storeCells_at Try.prog g 0 t vs 0 cur w hg (by omega) h1
  have hcell : ∀ j, j < vs.length → (w.cell? ⟨g, j, none⟩).isSome = true := fun j hj => by simp [World.cell?, hg, show j < cur.size by omega]
  have b := run_storeCells_cells (P := Try.prog) g 0 vs 0 w (fun j hj => by simpa using hcell j hj) (fun j _ => by simp [World.frozen?, hg]) h1
  rw [a] at b
  have hd : cur.toList.drop vs.length = [] := List.drop_eq_nil_of_le (by simp; omega)
  simp only [Nat.add_zero, List.take_zero, List.nil_append, Nat.zero_add, hd, List.append_nil] at b
  injection b with _ b
  exact b.symm

theorem Try.infoRing : (Try.prog.info? 50).map (·.size) = some 69 := by kernel_rfl

section
variable {w : World} {q n : Nat} {L : List UInt8}

set_option maxRecDepth 100000 in
set_option maxHeartbeats 4000000 in
theorem rbytes (h : Rg w q n L) : Calls Try.prog 16 #[.pointer (some ⟨q, 0, none⟩)] w fun e w' => e = .returned (.string ⟨L.toArray⟩) ∧ Below w.heap.size w w' := by
  obtain ⟨hn, hL, X, fa, fo, hfa, hR, hH⟩ := h
  obtain ⟨C, hC⟩ : ∃ C, ringCells X n fa fo (advA n fa L.length) (advO n fa L.length fo) = C := ⟨_, rfl⟩
  have hC69 : C.length = 69 := by rw [← hC]; exact ringCells_len hR.len
  have hone : ∀ v ∈ C, v.oneCell' = true := by rw [← hC]; exact ringCells_one
  have hblk : w.heap[q]? = some (.cells C.toArray 50 (0, 0)) := by rw [← hC]; exact hR.blk
  have hrange : Hid (w.rangeAt q 0 C) := by
    intro j v hv
    rw [Nat.zero_add]
    simp [World.cell?, hblk, hv]
  have hz := zero_ring
  have hnew : (w.alloc (.cells zeroRing.toArray 50)).heap[w.heap.size]? = some (.cells zeroRing.toArray 50 (0, 0)) := heap_alloc_new _ _
  have hz69 : zeroRing.toArray.size = 69 := by simp [zeroRing, ringCells_len]
  have hthere : Hid ((w.alloc (.cells zeroRing.toArray 50)).there w.heap.size 0 C.toArray.size) := by
    intro j hj
    rw [Nat.zero_add]
    rw [List.size_toArray, hC69] at hj
    exact ⟨by simp only [World.cell?, hnew]; rw [Array.getElem?_eq_getElem (by omega)]; rfl, by simp only [World.frozen?, hnew]; simp⟩
  have hrow : (w.alloc (.cells zeroRing.toArray 50)).setCells w.heap.size 0 C.toArray.toList = (w.alloc (.cells zeroRing.toArray 50)).setRow w.heap.size C.toArray := setCells_row hnew C (by rw [hC69, hz69]) hone
  have hT : Rg ((w.alloc (.cells zeroRing.toArray 50)).setRow w.heap.size C.toArray) w.heap.size n L :=
    ⟨hn, hL, X, fa, fo, hfa, ⟨by rw [hC]; exact setRow_heap _ _ _ _ _ _ hnew, hR.len⟩, hH⟩
  have hB : Below w.heap.size w ((w.alloc (.cells zeroRing.toArray 50)).setRow w.heap.size C.toArray) := below_setRow ((Below.refl _ w).alloc (Nat.le_refl _) _) (Nat.le_refl _) _
  have HROW := Lib.hid hrow; have HONE := Lib.hid (all_oneCell_toArray hone)
  have HC69 := Lib.hid hC69; have HT := Lib.hid hT; have HB := Lib.hid hB
  have hLle : L.length ≤ 9223372036854775807 := by omega
  have HLE := Lib.hid hLle
  clear hC hC69 hone hblk hnew hz69 hrow hT hB hR hH hLle hL
  go_enter Try.func16, Try.ntmps16
  go_wp2_with (first
    | (refine wpList_load_mid rfl 50 (.tmp 9) rfl q 0 rfl C _ hrange.out Try.underlying50 rfl (by rw [HC69.out]; exact Try.infoRing) ?_)
    | (refine wpList_store_mid rfl 50 (.tmp 3) (.tmp 10) rfl w.heap.size 0 C.toArray rfl rfl hthere.out (by rw [List.size_toArray, HC69.out]; exact Try.infoRing) HONE.out ?_; rw [HROW.out])
    | (go_at_call 17; refine (rlen HT.out).mono ?_; rintro e w1 ⟨rfl, hB1⟩; have HT1 := Lib.hid (HT.out.below' hB1); have HB1 := Lib.hid (HB.out.trans (hB1.mono HB.out.size)); clear hB1)
    | (go_at_call 14; refine (rget HT1.out L.length HLE.out).mono ?_; rintro e w2 ⟨rfl, hG, hT2⟩; have HB2 := Lib.hid (hT2.below HB1.out (Nat.le_refl _) HB1.out.size); clear hG hT2; rw [List.take_length]))
  go_ret
  exact ⟨rfl, HB2.out⟩

set_option maxHeartbeats 400000 in
theorem bytes_nil (w : World) : Calls Try.prog 16 #[.pointer none] w fun e w' => e = .returned (.string ⟨#[]⟩) ∧ w' = w := by
  go_enter Try.func16, Try.ntmps16
  go_wp2
  go_ret
  exact ⟨rfl, rfl⟩
end
end Go.Proofs.Ytnkoahcneocgiaa
