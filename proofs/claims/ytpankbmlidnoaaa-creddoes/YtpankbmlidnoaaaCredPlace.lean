/- Package cred: place, walked. -/
import Derived.Test.YtpankbmlidnoaaaCredMake
namespace Go.Proofs.Ytpankbmlidnoaaa
open Go.RowKit

set_option maxRecDepth 100000 in
set_option maxHeartbeats 1000000 in
theorem place_any (u g a b c d m : Int) (w : World) : Calls Try.prog 27 #[.agg #[.int .i64 u, .int .i64 g], .agg #[.int .i64 a, .int .i64 b, .int .i64 c, .int .i64 d, .int .i64 m]] w fun e w' =>
    e = .returned (.int .i64 (placeN u g a b c d)) ∧ Below w.heap.size w w' := by
  have HB0 := Lib.hid (((Below.refl w.heap.size w).alloc (Nat.le_refl _) (.cells (cr u g) 23)).alloc (by simp) (.cells (pm a b c d m) 25))
  have HB1 := Lib.hid (HB0.out.alloc (by simp; omega) (.cells #[.int .i64 a, .int .i64 c] 3))
  have HB2 := Lib.hid (HB1.out.alloc (by simp; omega) (.cells #[.int .i64 b, .int .i64 d] 3))
  have bA := Lib.hid (BoxA.new ((w.alloc (.cells (cr u g) 23)).alloc (.cells (pm a b c d m) 25)) 3 #[.int .i64 a, .int .i64 c])
  have bD := Lib.hid (BoxA.new (((w.alloc (.cells (cr u g) 23)).alloc (.cells (pm a b c d m) 25)).alloc (.cells #[.int .i64 a, .int .i64 c] 3)) 3 #[.int .i64 b, .int .i64 d])
  have hs1 : ((w.alloc (.cells (cr u g) 23)).alloc (.cells (pm a b c d m) 25)).heap.size = w.heap.size + 1 + 1 := by simp
  have hs2 : (((w.alloc (.cells (cr u g) 23)).alloc (.cells (pm a b c d m) 25)).alloc (.cells #[.int .i64 a, .int .i64 c] 3)).heap.size = w.heap.size + 1 + 1 + 1 := by simp
  rw [hs1] at bA
  rw [hs2] at bD
  clear hs1 hs2
  by_cases h0 : u = 0
  · have HP : Hid (placeN u g a b c d = 4) := by unfold Hid placeN; rw [if_pos h0]
    have hb : (u == 0) = true := by simpa using h0
    clear h0
    go_enter Try.func27, Try.ntmps27
    go_wp2
    go_ret
    exact ⟨by rw [HP.out]; rfl, HB0.out⟩
  · have hb : (u == 0) = false := by simpa using h0
    by_cases h1 : u = a ∨ u = c
    · have HP : Hid (placeN u g a b c d = 3) := by unfold Hid placeN; rw [if_neg h0, if_pos h1]
      have HA := Lib.hid (decide_eq_true h1)
      clear h0 h1
      go_enter Try.func27, Try.ntmps27
      go_wp2_with fail
      refine (among_two _ a c _ _ _ ?_ ?_).mono ?_
      case refine_1 => exact bA.out.at 0 rfl
      case refine_2 => exact bA.out.at 1 rfl
      rintro e w1 ⟨rfl, rfl⟩
      rw [HA.out]
      go_wp2
      go_ret
      exact ⟨by rw [HP.out]; rfl, HB1.out⟩
    · have HA := Lib.hid (decide_eq_false h1)
      by_cases h2 : g = b ∨ g = d
      · have HP : Hid (placeN u g a b c d = 2) := by unfold Hid placeN; rw [if_neg h0, if_neg h1, if_pos h2]
        have HG := Lib.hid (decide_eq_true h2)
        clear h0 h1 h2
        go_enter Try.func27, Try.ntmps27
        go_wp2_with fail
        refine (among_two _ a c _ _ _ ?_ ?_).mono ?_
        case refine_1 => exact bA.out.at 0 rfl
        case refine_2 => exact bA.out.at 1 rfl
        rintro e w1 ⟨rfl, rfl⟩
        rw [HA.out]
        go_wp2_with fail
        refine (among_two _ b d _ _ _ ?_ ?_).mono ?_
        case refine_1 => exact bD.out.at 0 rfl
        case refine_2 => exact bD.out.at 1 rfl
        rintro e w1 ⟨rfl, rfl⟩
        rw [HG.out]
        go_wp2
        go_ret
        exact ⟨by rw [HP.out]; rfl, HB2.out⟩
      · have HP : Hid (placeN u g a b c d = 1) := by unfold Hid placeN; rw [if_neg h0, if_neg h1, if_neg h2]
        have HG := Lib.hid (decide_eq_false h2)
        clear h0 h1 h2
        go_enter Try.func27, Try.ntmps27
        go_wp2_with fail
        refine (among_two _ a c _ _ _ ?_ ?_).mono ?_
        case refine_1 => exact bA.out.at 0 rfl
        case refine_2 => exact bA.out.at 1 rfl
        rintro e w1 ⟨rfl, rfl⟩
        rw [HA.out]
        go_wp2_with fail
        refine (among_two _ b d _ _ _ ?_ ?_).mono ?_
        case refine_1 => exact bD.out.at 0 rfl
        case refine_2 => exact bD.out.at 1 rfl
        rintro e w1 ⟨rfl, rfl⟩
        rw [HG.out]
        go_wp2
        go_ret
        exact ⟨by rw [HP.out]; rfl, HB2.out⟩

end Go.Proofs.Ytpankbmlidnoaaa
