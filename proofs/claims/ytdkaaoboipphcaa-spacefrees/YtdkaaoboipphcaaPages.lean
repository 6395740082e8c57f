/- string(make([]byte, 64)): a text of sixty-four bytes 0. -/
import Derived.Test.YtdkaaoboipphcaaFramesMach
namespace Go.Proofs.Ytdkaaoboipphcaa
open Go.RowKit

theorem Try.infoByteP : (Try.prog.info? 5).map (fun i => (i.zero, i.size, i.bytes)) = some (some (.int .u8 0), 1, 1) := by kernel_rfl
theorem made_page : madeCells #[.int .u8 0] 64 = zeroCells64 := by kernel_rfl
theorem make_page (W : World) : (Instr.makeSlice 40 (.int .i64 64) (.int .i64 64)).run Try.prog W = .ok (.slice (some ⟨W.heap.size, 0, none⟩) 64 64) (W.alloc (.cells zeroCells64 5)) := by
  obtain ⟨i0, hi, hz0, hz1, hz2⟩ := info_parts Try.infoByteP
  have h := run_make (P := Try.prog) W 40 5 i0 _ Try.underlying40 hi hz0 .i64 .i64 64 64 (by omega) (by omega) (by rw [hz2]; omega) (by omega)
  rw [hz1] at h
  rw [h]
  simp only [Value.cells, Nat.mul_one]
  rw [← made_page]
  rfl
theorem conv_page (W : World) (x : Nat) (hx : W.heap[x]? = some (.cells zeroCells64 5 (0, 0))) : (convert 40 9 (.slice (some ⟨x, 0, none⟩) 64 64)).run Try.prog W = .ok (.string ⟨zeroPage.toArray⟩) W := by
  refine conv_range _ _ _ _ _ zeroPage (by simp [zeroPage]) ?_
  intro j v hv
  rw [cell_of_row _ _ _ zeroCells64 5 (0, 0) hx]
  simpa [zeroCells64] using hv

end Go.Proofs.Ytdkaaoboipphcaa
