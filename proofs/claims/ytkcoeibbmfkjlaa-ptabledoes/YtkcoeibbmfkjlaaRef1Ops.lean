/- Package taffrailref01: used, Refs, Left, Read, walked. -/
import Derived.Test.YtkcoeibbmfkjlaaRef1Base
namespace Go.Proofs.Ytkcoeibbmfkjlaa
open Go.RowKit

section
variable {w : World} {q gb gr n : Nat} {R : Nat → Int} {B : Nat → List UInt8}

set_option maxRecDepth 100000 in
set_option maxHeartbeats 800000 in
theorem rused (h : RefAt w q gb gr n R B) (k : Int) : Calls Try.prog 51 #[.pointer (some ⟨q, 0, none⟩), .int .i64 k] w fun e w' => e = .returned (.bool (liveB n R k)) ∧ w = w' := by
  obtain ⟨cr, hc⟩ := h.cellR
  have hn := h.hn
  by_cases h0 : 0 ≤ k
  · obtain ⟨j, rfl⟩ := Int.eq_ofNat_of_zero_le h0
    by_cases hj : j < n
    · have hcj := h.refs hj
      have HL : Hid (liveB n R j = decide (0 < R j)) := by
        unfold Hid liveB
        rw [Int.toNat_natCast]
        by_cases hr : 0 < R j
        · simp [hr, hj]
        · simp [hr]
      have hdj : decide ((j : Int) < (n : Int)) = true := by simp; omega
      go_enter Try.func51, Try.ntmps51
      go_wp2
      go_ret
      exact ⟨by rw [HL.out]; rfl, rfl⟩
    · have HL : Hid (liveB n R j = false) := by unfold Hid liveB; simp; omega
      have hdj : decide ((j : Int) < (n : Int)) = false := by simp; omega
      go_enter Try.func51, Try.ntmps51
      go_wp2
      go_ret
      exact ⟨by rw [HL.out]; rfl, rfl⟩
  · have HL : Hid (liveB n R k = false) := by unfold Hid liveB; simp; omega
    have hdj : decide (0 ≤ k) = false := by simp; omega
    go_enter Try.func51, Try.ntmps51
    go_wp2
    go_ret
    exact ⟨by rw [HL.out]; rfl, rfl⟩

set_option maxRecDepth 100000 in
set_option maxHeartbeats 800000 in
theorem rrefs (h : RefAt w q gb gr n R B) (k : Int) : Calls Try.prog 57 #[.pointer (some ⟨q, 0, none⟩), .int .i64 k] w fun e w' => e = .returned (.int .i64 (refsN n R k)) ∧ w = w' := by
  obtain ⟨cr, hc⟩ := h.cellR
  have hn := h.hn
  by_cases h0 : 0 ≤ k
  · obtain ⟨j, rfl⟩ := Int.eq_ofNat_of_zero_le h0
    by_cases hj : j < n
    · have hcj := h.refs hj
      have HL : Hid (refsN n R j = R j) := by
        have := (h.hR j hj).1
        unfold Hid refsN liveB
        simp only [decide_eq_true_eq, Int.toNat_natCast]
        split <;> omega
      have hdj : decide ((n : Int) ≤ (j : Int)) = false := by simp; omega
      go_enter Try.func57, Try.ntmps57
      go_wp2
      go_ret
      exact ⟨by rw [HL.out]; rfl, rfl⟩
    · have HL : Hid (refsN n R j = 0) := by unfold Hid refsN liveB; rw [if_neg]; simp; omega
      have hdj : decide ((n : Int) ≤ (j : Int)) = true := by simp; omega
      go_enter Try.func57, Try.ntmps57
      go_wp2
      go_ret
      exact ⟨by rw [HL.out]; rfl, rfl⟩
  · have HL : Hid (refsN n R k = 0) := by unfold Hid refsN liveB; rw [if_neg]; simp; omega
    have hdj : decide (k < 0) = true := by simp; omega
    go_enter Try.func57, Try.ntmps57
    go_wp2
    go_ret
    exact ⟨by rw [HL.out]; rfl, rfl⟩

set_option maxRecDepth 100000 in
set_option maxHeartbeats 800000 in
theorem rleft (h : RefAt w q gb gr n R B) : Calls Try.prog 24 #[.pointer (some ⟨q, 0, none⟩)] w fun e w' => e = .returned (.int .i64 (leftN n R : Nat)) ∧ w = w' := by
  obtain ⟨cr, hc⟩ := h.cellR
  have hn := h.hn
  go_enter Try.func24, Try.ntmps24
  go_wp2
  go_loop [3, 4] (fun c i => ∃ k : Nat, k ≤ n ∧ i = .int .i64 k ∧ c = .int .i64 (freeL R (List.range k) : Nat)) (fun _ i => n - (intOf i).toNat)
  case atStart => exact ⟨0, Nat.zero_le _, rfl, rfl⟩
  case round =>
    obtain ⟨k, hk, rfl, rfl⟩ := hrel
    have hfl := freeL_le R (List.range k)
    rw [List.length_range] at hfl
    by_cases hlt : k < n
    · have hcj := h.refs hlt
      have hRk := h.hR k hlt
      have HF : Hid (freeL R (List.range (k + 1)) = freeL R (List.range k) + if 0 < R k then 0 else 1) := by unfold Hid; rw [List.range_succ, freeL_snoc]
      by_cases hz : 0 < R k
      · have hbz : (R k == 0) = false := by rw [beq_eq_false_iff_ne]; omega
        go_wp2
        go_round
        case rel => exact ⟨k + 1, by omega, by go_num, by rw [HF.out, if_pos hz]; rfl⟩
        case measure => simp [intOf]; omega
      · have hbz : (R k == 0) = true := by rw [beq_iff_eq]; omega
        go_wp2
        go_round
        case rel => exact ⟨k + 1, by omega, by go_num, by rw [HF.out, if_neg (by omega)]; rfl⟩
        case measure => simp [intOf]; omega
    · obtain rfl : k = n := by omega
      go_wp2
      go_ret
      exact ⟨rfl, rfl⟩

theorem readS_len (h : RefAt w q gb gr n R B) {k : Nat} (hk : k < n) : (tx (B k)).size = 64 := by rw [tx_size]; exact h.hB k hk

set_option maxRecDepth 100000 in
set_option maxHeartbeats 800000 in
theorem rread (h : RefAt w q gb gr n R B) (k o m : Int) : Calls Try.prog 26 #[.pointer (some ⟨q, 0, none⟩), .int .i64 k, .int .i64 o, .int .i64 m] w fun e w' =>
    e = .returned (.tuple #[.string (tx (readS n R B k o m)), .int .i64 (readE n R k o m)]) ∧ w = w' := by
  obtain ⟨cb, hc⟩ := h.cellB
  have hn := h.hn
  cases hl : liveB n R k with
  | false =>
    have HE : Hid (readE n R k o m = 10) := by unfold Hid readE; rw [hl]; simp
    have HS : Hid (tx (readS n R B k o m) = ⟨#[]⟩) := by unfold Hid readS; rw [HE.out]; simp [tx]
    have HL := Lib.hid hl; clear hl
    go_enter Try.func26, Try.ntmps26
    go_wp2_with fail
    refine (rused h _).mono ?_
    rintro e w' ⟨rfl, rfl⟩
    rw [HL.out]
    go_wp2
    go_ret2
    exact ⟨by rw [HE.out, HS.out]; rfl, rfl⟩
  | true =>
    obtain ⟨j, rfl, hj, hr⟩ := live_nat hl
    have HL := Lib.hid hl
    cases hs : spanB o m with
    | false =>
      have HE : Hid (readE n R j o m = 2) := by unfold Hid readE; rw [hl, hs]; simp
      have HS : Hid (tx (readS n R B j o m) = ⟨#[]⟩) := by unfold Hid readS; rw [HE.out]; simp [tx]
      have hcases : o < 0 ∨ (0 ≤ o ∧ m < 0) ∨ (0 ≤ o ∧ 0 ≤ m ∧ 64 < o) ∨ (0 ≤ o ∧ 0 ≤ m ∧ o ≤ 64 ∧ 64 - o < m) := by
        simp only [spanB, decide_eq_false_iff_not] at hs; omega
      clear hs hl
      rcases hcases with c | ⟨c1, c2⟩ | ⟨c1, c2, c3⟩ | ⟨c1, c2, c3, c4⟩
      all_goals
        go_enter Try.func26, Try.ntmps26
        go_wp2_with fail
        refine (rused h _).mono ?_
        rintro e w' ⟨rfl, rfl⟩
        rw [HL.out]
        go_wp2
        go_ret2
        exact ⟨by rw [HE.out, HS.out]; rfl, rfl⟩
    | true =>
      have HE : Hid (readE n R j o m = 0) := by unfold Hid readE; rw [hl, hs]; simp
      obtain ⟨a, b, rfl, rfl, hab⟩ := span_nat hs
      have ht := h.text hj
      have hsz := h.hB j hj
      have hsz2 := readS_len h hj
      have HS : Hid (tx (readS n R B j a b) = (tx (B j)).extract a (a + b)) := by
        unfold Hid readS; rw [HE.out, if_pos rfl]
        simp only [Int.toNat_natCast]
        apply ByteArray.ext
        simp [tx, ByteArray.data_extract]
      clear hs hl
      generalize tx (B j) = T at *
      go_enter Try.func26, Try.ntmps26
      go_wp2_with fail
      refine (rused h _).mono ?_
      rintro e w' ⟨rfl, rfl⟩
      rw [HL.out]
      go_wp2
      go_ret2
      exact ⟨by rw [HE.out, HS.out]; rfl, rfl⟩

end
end Go.Proofs.Ytkcoeibbmfkjlaa
