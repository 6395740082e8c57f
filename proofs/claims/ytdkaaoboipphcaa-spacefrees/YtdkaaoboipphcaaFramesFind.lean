/- Package frames: find, Total, Refs, Share, Free, walked. -/
import Derived.Test.YtdkaaoboipphcaaFramesLeaf
import Derived.Test.YtdkaaoboipphcaaFramesBase
namespace Go.Proofs.Ytdkaaoboipphcaa
open Go.RowKit

theorem within_one (m x : Int) (b : Nat) (w : World) (cap : Nat) (hm0 : -1 ≤ m) (hm : m ≤ 1000000) (hc : w.cell? ⟨b, 0, none⟩ = some (.int .i64 x)) :
    Calls Try.prog 65 #[.int .i64 m, .slice (some ⟨b, 0, none⟩) 1 cap] w fun e w' => e = .returned (.bool (decide (0 ≤ x ∧ x ≤ m))) ∧ w = w' := by
  refine (within_any m b [x] w hm0 hm (by simp) (fun j hj => by
    obtain rfl : j = 0 := by simp at hj; omega
    exact hc) cap).mono ?_
  rintro e w' ⟨rfl, rfl⟩
  refine ⟨?_, rfl⟩
  congr 2
  simp only [withinL]
  by_cases h : x < 0 ∨ m < x
  · rw [if_pos h]; symm; simp; omega
  · rw [if_neg h]; symm; simp; omega

theorem within_two (m x y : Int) (b : Nat) (w : World) (cap : Nat) (hm0 : -1 ≤ m) (hm : m ≤ 1000000) (hc0 : w.cell? ⟨b, 0, none⟩ = some (.int .i64 x)) (hc1 : w.cell? ⟨b, 1, none⟩ = some (.int .i64 y)) :
    Calls Try.prog 65 #[.int .i64 m, .slice (some ⟨b, 0, none⟩) 2 cap] w fun e w' => e = .returned (.bool (decide (0 ≤ x ∧ 0 ≤ y ∧ x + y ≤ m))) ∧ w = w' := by
  refine (within_any m b [x, y] w hm0 hm (by simp) (fun j hj => by
    match j, hj with
    | 0, _ => exact hc0
    | 1, _ => exact hc1) cap).mono ?_
  rintro e w' ⟨rfl, rfl⟩
  refine ⟨?_, rfl⟩
  congr 2
  simp only [withinL]
  by_cases h : x < 0 ∨ m < x
  · rw [if_pos h]; symm; simp; omega
  · rw [if_neg h]
    by_cases h' : y < 0 ∨ m - x < y
    · rw [if_pos h']; symm; simp; omega
    · rw [if_neg h']; symm; simp; omega

section
variable {w : World} {p g n : Nat} {R : Nat → Int} {B : Nat → List UInt8}

set_option maxHeartbeats 400000 in
theorem find_nil (k : Int) (w : World) :
    Calls Try.prog 51 #[.pointer none, .int .i64 k] w fun e w' => e = .returned (.tuple #[.pointer none, .int .i64 1]) ∧ w = w' := by
  go_enter Try.func51, Try.ntmps51
  go_wp2
  go_ret2
  exact ⟨rfl, rfl⟩

set_option maxHeartbeats 400000 in
theorem find_out (h : MemAt w p g n R B) (k : Int) (hk : k < 0 ∨ (n : Int) ≤ k) :
    Calls Try.prog 51 #[.pointer (some ⟨p, 0, none⟩), .int .i64 k] w fun e w' => e = .returned (.tuple #[.pointer none, .int .i64 10]) ∧ w.alloc (.cells #[.int .i64 k] 3) = w' := by
  have hc := h.cellP
  have hn := h.hn
  have h1 := h.h1
  have hd : decide (0 ≤ k ∧ k ≤ (n : Int) - 1) = false := by simp; omega
  go_enter Try.func51, Try.ntmps51
  go_wp2_with fail
  refine (within_one _ k _ _ _ (by omega) (by omega) (by simp)).mono ?_
  rintro e w' ⟨rfl, rfl⟩
  rw [hd]
  go_wp2
  go_ret2
  exact ⟨rfl, rfl⟩

set_option maxHeartbeats 400000 in
theorem find_free (h : MemAt w p g n R B) (k : Nat) (hk : k < n) (hr : R k = 0) :
    Calls Try.prog 51 #[.pointer (some ⟨p, 0, none⟩), .int .i64 k] w fun e w' => e = .returned (.tuple #[.pointer none, .int .i64 10]) ∧ w.alloc (.cells #[.int .i64 k] 3) = w' := by
  have hc := h.cellP
  have hc2 := (h.alloc (.cells #[.int .i64 k] 3)).cellP
  have hcR := (h.alloc (.cells #[.int .i64 k] 3)).cellR hk
  rw [hr] at hcR
  have hn := h.hn
  have hd : decide (0 ≤ (k : Int) ∧ (k : Int) ≤ (n : Int) - 1) = true := by simp; omega
  clear hr
  go_enter Try.func51, Try.ntmps51
  go_wp2_with fail
  refine (within_one _ k _ _ _ (by omega) (by omega) (by simp)).mono ?_
  rintro e w' ⟨rfl, rfl⟩
  rw [hd]
  go_wp2_with fail
  refine (inUse_any _ _ _ _ hcR).mono ?_
  rintro e w' ⟨rfl, rfl⟩
  go_wp2
  go_ret2
  exact ⟨rfl, rfl⟩

set_option maxHeartbeats 400000 in
theorem find_ok (h : MemAt w p g n R B) (k : Nat) (hk : k < n) (hr : 0 < R k) :
    Calls Try.prog 51 #[.pointer (some ⟨p, 0, none⟩), .int .i64 k] w fun e w' => e = .returned (.tuple #[.pointer (some ⟨g, k * 65, none⟩), .int .i64 0]) ∧ w.alloc (.cells #[.int .i64 k] 3) = w' := by
  have hc := h.cellP
  have hc2 := (h.alloc (.cells #[.int .i64 k] 3)).cellP
  have hcR := (h.alloc (.cells #[.int .i64 k] 3)).cellR hk
  have hn := h.hn
  have hd : decide (0 ≤ (k : Int) ∧ (k : Int) ≤ (n : Int) - 1) = true := by simp; omega
  have hr' : decide (0 < R k) = true := by simpa using hr
  go_enter Try.func51, Try.ntmps51
  go_wp2_with fail
  refine (within_one _ k _ _ _ (by omega) (by omega) (by simp)).mono ?_
  rintro e w' ⟨rfl, rfl⟩
  rw [hd]
  go_wp2_with fail
  refine (inUse_any _ _ _ _ hcR).mono ?_
  rintro e w' ⟨rfl, rfl⟩
  rw [hr']
  go_wp2
  go_ret2
  exact ⟨rfl, rfl⟩

end
end Go.Proofs.Ytdkaaoboipphcaa
