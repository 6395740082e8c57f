/- Layer 4's laws: what 'shown' tells. -/
import Derived.Test.YtdkaaoboipphcaaSpImage
import Derived.Test.YtdkaaoboipphcaaPages
namespace Go.Proofs.Ytdkaaoboipphcaa
open Go.RowKit Go.Shelf

theorem made_65 : madeCells #[.int .u8 0] 65 = (Array.replicate 65 (.int .u8 0)) := by kernel_rfl
theorem make_65 (W : World) : (Instr.makeSlice 40 (.int .i64 65) (.int .i64 65)).run Try.prog W = .ok (.slice (some ⟨W.heap.size, 0, none⟩) 65 65) (W.alloc (.cells (Array.replicate 65 (.int .u8 0)) 5)) := by
  obtain ⟨i0, hi, hz0, hz1, hz2⟩ := info_parts Try.infoByteP
  have h := run_make (P := Try.prog) W 40 5 i0 _ Try.underlying40 hi hz0 .i64 .i64 65 65 (by omega) (by omega) (by rw [hz2]; omega) (by omega)
  rw [hz1] at h
  rw [h]
  simp only [Value.cells, Nat.mul_one]
  rw [← made_65]
  rfl
theorem conv_65 (W : World) (x : Nat) (hx : W.heap[x]? = some (.cells (Array.replicate 65 (.int .u8 0)) 5 (0, 0))) : (convert 40 9 (.slice (some ⟨x, 0, none⟩) 65 65)).run Try.prog W = .ok (.string ⟨(List.replicate 65 (0 : UInt8)).toArray⟩) W := by
  refine conv_range _ _ _ _ _ (List.replicate 65 0) (by simp) ?_
  intro j v hv
  rw [cell_of_row _ _ _ _ 5 (0, 0) hx]
  rw [List.map_replicate, List.getElem?_replicate] at hv
  rw [Array.getElem?_replicate]
  split at hv
  · cases hv
    rw [if_pos (by omega)]
    rfl
  · cases hv

theorem left_12 : leftN 20 (loadS 20 (allocN 20 (fun _ => 0)) (rootS 20 (fun _ => 0) (fun _ => List.replicate 64 0)) 2 1 (((imgB (⟨(List.replicate 65 (0 : UInt8)).toArray⟩ : ByteArray).data.toList [100]).data.toList.drop 3).take 65) ((imgB (⟨(List.replicate 65 (0 : UInt8)).toArray⟩ : ByteArray).data.toList [100]).data.toList.drop (3 + 65))).R = 12 := by decide +kernel

set_option maxRecDepth 100000 in
set_option maxHeartbeats 4000000 in
theorem shown_any (w : World) : Calls Try.prog 4 #[] w fun e w' => e = .returned (.bool true) ∧ Below w.heap.size w w' := by
  go_enter Try.func4, Try.ntmps4
  go_wp2_with fail
  refine (new_ok 20 (by omega) (by omega) _).mono ?_
  rintro e w2 ⟨rfl, hM2, hB2⟩
  have HM2 := Lib.hid hM2; have HB2 := Lib.hid hB2
  clear hM2 hB2
  have hmk := make_65 w2
  have hcv := conv_65 (w2.alloc (.cells (Array.replicate 65 (.int .u8 0)) 5)) w2.heap.size (heap_alloc_new w2 _)
  generalize (Array.replicate 65 (Value.int .u8 0)) = Z at *
  have HL12 : Hid (leftN 20 (loadS 20 (allocN 20 (fun _ => 0)) (rootS 20 (fun _ => 0) (fun _ => List.replicate 64 0)) 2 1 (((imgB (⟨(List.replicate 65 (0 : UInt8)).toArray⟩ : ByteArray).data.toList [100]).data.toList.drop 3).take 65) ((imgB (⟨(List.replicate 65 (0 : UInt8)).toArray⟩ : ByteArray).data.toList [100]).data.toList.drop (3 + 65))).R = 12) := left_12
  have HT : Hid ((⟨(List.replicate 65 (0 : UInt8)).toArray⟩ : ByteArray).size = 65 ∧ (⟨(List.replicate 65 (0 : UInt8)).toArray⟩ : ByteArray).data.toList.length = 65) := ⟨by decide +kernel, by decide +kernel⟩
  generalize (⟨(List.replicate 65 (0 : UInt8)).toArray⟩ : ByteArray) = TX at *
  go_wp2_with fail
  refine (image_small TX _ (by have := HT.out; omega) (by decide) _).mono ?_
  rintro e w3 ⟨rfl, hB3⟩
  have HM3 : Hid (MemAt w3 (w.heap.size + 1) w.heap.size 20 (fun _ => 0) (fun _ => List.replicate 64 0)) := MemAt.below2 (HM2.out.alloc _) hB3
  have HB3 : Hid (Below w.heap.size w w3) := (HB2.out.alloc HB2.out.size _).trans (hB3.mono (by have := HB2.out.size; simp; omega))
  clear hB3
  go_wp2_with fail
  have HIL : Hid ((imgB TX.data.toList [100]).data.toList = [88, 65, 1] ++ TX.data.toList ++ [100]) := by
    unfold Hid imgB imgL
    rw [HT.out.2]; simp
  have HIS : Hid ((imgB TX.data.toList [100]).size = 3 + 65 + 1) := by
    have h1 := toList_length (imgB TX.data.toList [100])
    rw [HIL.out] at h1
    unfold Hid
    rw [← h1]
    simp [HT.out.2]
  have hex := exec_ok HM3.out (imgB TX.data.toList [100]) 65 1 HIS.out (by omega) (by omega) (by rw [HIL.out]; rfl) (by rw [HIL.out]; rfl) (by rw [HIL.out]; rfl) (by decide +kernel)
  rw [show (65 + 63) / 64 = 2 from rfl, show (1 + 63) / 64 = 1 from rfl] at hex
  refine hex.mono ?_
  clear hex
  rintro e w4 ⟨rfl, hM4, hG4⟩
  have HM4 := Lib.hid hM4
  have HB4 : Hid (Below w.heap.size w w4) := HB3.out.trans (below_of_grown hG4 HB3.out.size (fun k e => by cases e; exact Nat.le_refl _))
  clear hM4 hG4
  generalize (allocN 20 (fun _ => 0)) = RT at *
  generalize hSP : loadS 20 RT _ 2 1 _ _ = SP at *
  clear hSP HM3 HB3 HIL HIS hmk hcv
  go_wp2_with fail
  refine (exec_short _ (by decide) _).mono ?_
  rintro e w5 ⟨rfl, hB5⟩
  have hn5 := (hB5.block w4.heap.size (by simp)).trans (heap_alloc_new w4 _)
  have c1 : w5.cell? ⟨w4.heap.size, 1, none⟩ = some (.int .i64 2) := cell_of_heap hn5 rfl
  have c2 : w5.cell? ⟨w4.heap.size, 2, none⟩ = some (.int .i64 1) := cell_of_heap hn5 rfl
  have HM5 := Lib.hid (MemAt.below2 (MemAt.alloc HM4.out _) hB5)
  have HB5 : Hid (Below w.heap.size w w5) := (HB4.out.alloc HB4.out.size _).trans (hB5.mono (by have := HB4.out.size; simp; omega))
  clear hB5 hn5
  have c3 := cell_allocL (.cells #[.int .i64 0, .int .i64 0, .int .i64 0, .int .i64 0, .slice none 0 0] 32) c1
  have c4 := cell_allocL (.cells #[.int .i64 0, .int .i64 0, .int .i64 0, .int .i64 0, .slice none 0 0] 32) c2
  go_wp2_with fail
  refine (left_any (MemAt.alloc HM5.out _)).mono ?_
  rintro e w6 ⟨rfl, hB6⟩
  rw [HL12.out]
  have HB6 : Hid (Below w.heap.size w w6) := (HB5.out.alloc HB5.out.size _).trans (hB6.mono (by have := HB5.out.size; simp; omega))
  clear hB6
  go_wp2
  go_ret
  exact ⟨rfl, HB6.out⟩

end Go.Proofs.Ytdkaaoboipphcaa
