/- The statements' shared example of package cred, walked: may a group read, and not write? -/
import Derived.Test.YtpankbmlidnoaaaCredSet
namespace Go.Proofs.Ytpankbmlidnoaaa
open Go.RowKit

set_option maxRecDepth 100000 in
set_option maxHeartbeats 1000000 in
theorem shown5_any (w : World) : Calls Try.prog 10 #[] w fun e w' => e = .returned (.bool true) ∧ Below w.heap.size w w' := by
  have E1 : Hid (allowN 7 1 7 9 7 9 416 2 = 0) := by unfold Hid; decide
  have E2 : Hid (allowN 8 9 7 9 7 9 416 4 = 0) := by unfold Hid; decide
  have E3 : Hid (allowN 8 9 7 9 7 9 416 2 = 51) := by unfold Hid; decide
  have EP : Hid (permB 7 9 7 9 416 = true) := by unfold Hid; decide
  have HB0 := Lib.hid (Below.refl w.heap.size w)
  go_enter Try.func10, Try.ntmps10
  go_wp2_with fail
  refine (make_ok 7 9 416 EP.out _).mono ?_
  rintro e w1 ⟨rfl, hB⟩
  have HB1 := Lib.hid (HB0.out.trans (hB.mono HB0.out.size))
  clear hB 
  have aQ := BoxA.new w1 25 #[.int .i64 7, .int .i64 9, .int .i64 7, .int .i64 9, .int .i64 416]
  have HB2 := Lib.hid (HB1.out.alloc HB1.out.size (.cells #[.int .i64 7, .int .i64 9, .int .i64 7, .int .i64 9, .int .i64 416] 25))
  have q0 := aQ.at 0 rfl; have q1 := aQ.at 1 rfl; have q2 := aQ.at 2 rfl; have q3 := aQ.at 3 rfl; have q4 := aQ.at 4 rfl
  have BQ2 := Lib.hid aQ; clear aQ
  go_wp2_with fail
  refine (allowed_any 7 1 7 9 7 9 416 2 _).mono ?_
  rintro e w3 ⟨rfl, hB⟩
  rw [E1.out]
  have bQ := BQ2.out.below' hB
  have HB3 := Lib.hid (HB2.out.trans (hB.mono HB2.out.size))
  clear hB q0 q1 q2 q3 q4 BQ2
  have q0 := bQ.at 0 rfl; have q1 := bQ.at 1 rfl; have q2 := bQ.at 2 rfl; have q3 := bQ.at 3 rfl; have q4 := bQ.at 4 rfl
  have BQ3 := Lib.hid bQ; clear bQ
  go_wp2_with fail
  refine (allowed_any 8 9 7 9 7 9 416 4 _).mono ?_
  rintro e w4 ⟨rfl, hB⟩
  rw [E2.out]
  have bQ := BQ3.out.below' hB
  have HB4 := Lib.hid (HB3.out.trans (hB.mono HB3.out.size))
  clear hB q0 q1 q2 q3 q4 BQ3
  have q0 := bQ.at 0 rfl; have q1 := bQ.at 1 rfl; have q2 := bQ.at 2 rfl; have q3 := bQ.at 3 rfl; have q4 := bQ.at 4 rfl
  have BQ4 := Lib.hid bQ; clear bQ
  go_wp2_with fail
  refine (allowed_any 8 9 7 9 7 9 416 2 _).mono ?_
  rintro e w5 ⟨rfl, hB⟩
  rw [E3.out]
  have bQ := BQ4.out.below' hB
  have HB5 := Lib.hid (HB4.out.trans (hB.mono HB4.out.size))
  clear hB q0 q1 q2 q3 q4 BQ4
  have q0 := bQ.at 0 rfl; have q1 := bQ.at 1 rfl; have q2 := bQ.at 2 rfl; have q3 := bQ.at 3 rfl; have q4 := bQ.at 4 rfl
  have BQ5 := Lib.hid bQ; clear bQ
  go_wp2
  go_ret
  exact ⟨rfl, HB5.out⟩

end Go.Proofs.Ytpankbmlidnoaaa
