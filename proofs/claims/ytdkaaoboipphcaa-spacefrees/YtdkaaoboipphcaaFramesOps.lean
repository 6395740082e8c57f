/- Package frames: Total, Refs, Share, Free, walked, over the plain machine. -/
import Derived.Test.YtdkaaoboipphcaaFramesFind
namespace Go.Proofs.Ytdkaaoboipphcaa
open Go.RowKit

/-- is frame k in use? -/
def liveB (n : Nat) (R : Nat → Int) (k : Int) : Bool := decide (0 ≤ k ∧ k < n ∧ 0 < R k.toNat)
def shareE (n : Nat) (R : Nat → Int) (k : Int) : Int := if liveB n R k = true then (if 1000 ≤ R k.toNat then 2 else 0) else 10
def shareR (n : Nat) (R : Nat → Int) (k : Int) : Nat → Int := if shareE n R k = 0 then updR R k.toNat (R k.toNat + 1) else R
def freeE (n : Nat) (R : Nat → Int) (k : Int) : Int := if liveB n R k = true then 0 else 10
def freeR (n : Nat) (R : Nat → Int) (k : Int) : Nat → Int := if liveB n R k = true then updR R k.toNat (R k.toNat - 1) else R
def refsN (n : Nat) (R : Nat → Int) (k : Int) : Int := if liveB n R k = true then R k.toNat else 0

section
variable {w : World} {p g n : Nat} {R : Nat → Int} {B : Nat → List UInt8}

theorem live_nat {k : Int} (hl : liveB n R k = true) : ∃ j : Nat, k = j ∧ j < n ∧ 0 < R j := by
  simp only [liveB, decide_eq_true_eq] at hl
  refine ⟨k.toNat, by omega, by omega, hl.2.2⟩

/-- find, whatever the number. -/
theorem find_no (h : MemAt w p g n R B) (k : Int) (hl : liveB n R k = false) :
    Calls Try.prog 51 #[.pointer (some ⟨p, 0, none⟩), .int .i64 k] w fun e w' => e = .returned (.tuple #[.pointer none, .int .i64 10]) ∧ w.alloc (.cells #[.int .i64 k] 3) = w' := by
  simp only [liveB, decide_eq_false_iff_not] at hl
  by_cases hk : k < 0 ∨ (n : Int) ≤ k
  · exact find_out h k hk
  · obtain ⟨j, rfl⟩ := Int.eq_ofNat_of_zero_le (show 0 ≤ k by omega)
    have hj : j < n := by omega
    have := (h.hR j hj).1
    exact find_free h j hj (by simp at hl; omega)

set_option maxHeartbeats 400000 in
theorem total_nil (w : World) : Calls Try.prog 30 #[.pointer none] w fun e w' => e = .returned (.int .i64 0) ∧ w = w' := by
  go_enter Try.func30, Try.ntmps30
  go_wp2
  go_ret
  exact ⟨rfl, rfl⟩

set_option maxHeartbeats 400000 in
theorem total_any (h : MemAt w p g n R B) : Calls Try.prog 30 #[.pointer (some ⟨p, 0, none⟩)] w fun e w' => e = .returned (.int .i64 n) ∧ w = w' := by
  have hc := h.cellP
  go_enter Try.func30, Try.ntmps30
  go_wp2
  go_ret
  exact ⟨rfl, rfl⟩

set_option maxHeartbeats 400000 in
theorem refs_nil (k : Int) (w : World) : Calls Try.prog 37 #[.pointer none, .int .i64 k] w fun e w' => e = .returned (.int .i64 0) ∧ w = w' := by
  go_enter Try.func37, Try.ntmps37
  go_wp2_with fail
  refine (find_nil k _).mono ?_
  rintro e w' ⟨rfl, rfl⟩
  go_wp2
  go_ret
  exact ⟨rfl, rfl⟩

set_option maxHeartbeats 400000 in
theorem refs_any (h : MemAt w p g n R B) (k : Int) : Calls Try.prog 37 #[.pointer (some ⟨p, 0, none⟩), .int .i64 k] w fun e w' => e = .returned (.int .i64 (refsN n R k)) ∧ w.alloc (.cells #[.int .i64 k] 3) = w' := by
  cases hl : liveB n R k with
  | false =>
    have HE := Lib.hid (show refsN n R k = 0 by simp [refsN, hl])
    have HL := Lib.hid hl; clear hl
    go_enter Try.func37, Try.ntmps37
    go_wp2_with fail
    refine (find_no h k HL.out).mono ?_
    rintro e w' ⟨rfl, rfl⟩
    go_wp2
    go_ret
    exact ⟨by rw [HE.out]; rfl, rfl⟩
  | true =>
    have HE := Lib.hid (show refsN n R k = R k.toNat by simp [refsN, hl])
    obtain ⟨j, rfl, hj, hr⟩ := live_nat hl
    clear hl
    rw [Int.toNat_natCast] at HE
    have hc := (h.alloc (.cells #[.int .i64 j] 3)).cellR hj
    go_enter Try.func37, Try.ntmps37
    go_wp2_with fail
    refine (find_ok h j hj hr).mono ?_
    rintro e w' ⟨rfl, rfl⟩
    go_wp2
    go_ret
    exact ⟨by rw [HE.out]; rfl, rfl⟩

set_option maxHeartbeats 400000 in
theorem share_nil (k : Int) (w : World) : Calls Try.prog 52 #[.pointer none, .int .i64 k] w fun e w' => e = .returned (.int .i64 1) ∧ w = w' := by
  go_enter Try.func52, Try.ntmps52
  go_wp2_with fail
  refine (find_nil k _).mono ?_
  rintro e w' ⟨rfl, rfl⟩
  go_wp2
  go_ret
  exact ⟨rfl, rfl⟩

set_option maxHeartbeats 400000 in
theorem free_nil (k : Int) (w : World) : Calls Try.prog 54 #[.pointer none, .int .i64 k] w fun e w' => e = .returned (.int .i64 1) ∧ w = w' := by
  go_enter Try.func54, Try.ntmps54
  go_wp2_with fail
  refine (find_nil k _).mono ?_
  rintro e w' ⟨rfl, rfl⟩
  go_wp2
  go_ret
  exact ⟨rfl, rfl⟩

set_option maxHeartbeats 800000 in
theorem share_mem (h : MemAt w p g n R B) (k : Int) : Calls Try.prog 52 #[.pointer (some ⟨p, 0, none⟩), .int .i64 k] w fun e w' =>
    e = .returned (.int .i64 (shareE n R k)) ∧ MemAt w' p g n (shareR n R k) B ∧ w.grownBy w' (some g) := by
  have hgr := World.grownBy_alloc w (.cells #[.int .i64 k] 3) (some g)
  cases hl : liveB n R k with
  | false =>
    have HE := Lib.hid (show shareE n R k = 10 by simp [shareE, hl])
    have HR := Lib.hid (show shareR n R k = R by simp [shareR, HE.out])
    have HL := Lib.hid hl; clear hl
    have HG := Lib.hid hgr; clear hgr
    go_enter Try.func52, Try.ntmps52
    go_wp2_with fail
    refine (find_no h k HL.out).mono ?_
    rintro e w' ⟨rfl, rfl⟩
    go_wp2
    go_ret
    exact ⟨by rw [HE.out]; rfl, by rw [HR.out]; exact h.alloc _, HG.out⟩
  | true =>
    obtain ⟨j, rfl, hj, hr⟩ := live_nat hl
    have hb := h.hR j hj
    have h' := h.alloc (.cells #[.int .i64 j] 3)
    have hc := h'.cellR hj
    have hf := h'.frozen (j * 65)
    by_cases hfu : 1000 ≤ R j
    · have HE := Lib.hid (show shareE n R j = 2 by simp [shareE, hl, hfu])
      have HR := Lib.hid (show shareR n R j = R by simp [shareR, HE.out])
      have HL := Lib.hid hl; clear hl
      have HG := Lib.hid hgr; clear hgr
      go_enter Try.func52, Try.ntmps52
      go_wp2_with fail
      refine (find_ok h j hj hr).mono ?_
      rintro e w' ⟨rfl, rfl⟩
      go_wp2_with fail
      refine (full_any _ _ _ _ hc).mono ?_
      rintro e w' ⟨rfl, rfl⟩
      go_wp2
      go_ret
      exact ⟨by rw [HE.out]; rfl, by rw [HR.out]; exact h', HG.out⟩
    · have HE := Lib.hid (show shareE n R j = 0 by simp [shareE, hl, hfu])
      have HR := Lib.hid (show shareR n R j = updR R j (R j + 1) by simp [shareR, HE.out])
      have HL := Lib.hid hl; clear hl
      have HG := Lib.hid hgr; clear hgr
      have HM := Lib.hid (h'.setR hj (r := R j + 1) (by omega) (by omega))
      have hd : decide (1000 ≤ R j) = false := by simpa using hfu
      go_enter Try.func52, Try.ntmps52
      go_wp2_with fail
      refine (find_ok h j hj hr).mono ?_
      rintro e w' ⟨rfl, rfl⟩
      go_wp2_with fail
      refine (full_any _ _ _ _ hc).mono ?_
      rintro e w' ⟨rfl, rfl⟩
      rw [hd]
      go_wp2_with fail
      refine (share_any _ _ _ _ hc hf hb.1 hb.2).mono ?_
      rintro e w' ⟨rfl, rfl⟩
      go_wp2
      go_ret
      exact ⟨by rw [HE.out]; rfl, by rw [HR.out]; exact HM.out, grown_trans HG.out (grown_setCell _ _ _ _)⟩

set_option maxHeartbeats 800000 in
theorem free_mem (h : MemAt w p g n R B) (k : Int) : Calls Try.prog 54 #[.pointer (some ⟨p, 0, none⟩), .int .i64 k] w fun e w' =>
    e = .returned (.int .i64 (freeE n R k)) ∧ MemAt w' p g n (freeR n R k) B ∧ w.grownBy w' (some g) := by
  have hgr := World.grownBy_alloc w (.cells #[.int .i64 k] 3) (some g)
  cases hl : liveB n R k with
  | false =>
    have HE := Lib.hid (show freeE n R k = 10 by simp [freeE, hl])
    have HR := Lib.hid (show freeR n R k = R by simp [freeR, hl])
    have HL := Lib.hid hl; clear hl
    have HG := Lib.hid hgr; clear hgr
    go_enter Try.func54, Try.ntmps54
    go_wp2_with fail
    refine (find_no h k HL.out).mono ?_
    rintro e w' ⟨rfl, rfl⟩
    go_wp2
    go_ret
    exact ⟨by rw [HE.out]; rfl, by rw [HR.out]; exact h.alloc _, HG.out⟩
  | true =>
    obtain ⟨j, rfl, hj, hr⟩ := live_nat hl
    have hb := h.hR j hj
    have h' := h.alloc (.cells #[.int .i64 j] 3)
    have hc := h'.cellR hj
    have hf := h'.frozen (j * 65)
    have HE := Lib.hid (show freeE n R j = 0 by simp [freeE, hl])
    have HR := Lib.hid (show freeR n R j = updR R j (R j - 1) by simp [freeR, hl])
    have HL := Lib.hid hl; clear hl
    have HG := Lib.hid hgr; clear hgr
    have HM := Lib.hid (h'.setR hj (r := R j - 1) (by omega) (by omega))
    go_enter Try.func54, Try.ntmps54
    go_wp2_with fail
    refine (find_ok h j hj hr).mono ?_
    rintro e w' ⟨rfl, rfl⟩
    go_wp2_with fail
    refine (Go.Proofs.Ytdkaaoboipphcaa.free_any _ _ _ _ hc hf hb.1 hb.2).mono ?_
    rintro e w' ⟨rfl, rfl⟩
    go_wp2
    go_ret
    exact ⟨by rw [HE.out]; rfl, by rw [HR.out]; exact HM.out, grown_trans HG.out (grown_setCell _ _ _ _)⟩

end
end Go.Proofs.Ytdkaaoboipphcaa
