/- SlotsGone and SlotsRound, under Works11: one slot, used over and over. -/
import Derived.Test.YteannfenkmejjaaSlWorksI
import Derived.Test.YteannfenkmejjaaSlShown
import Derived.Test.YteannfenkmejjaaSlLaws
namespace Go.Proofs.Yteannfenkmejjaa
open Go.RowKit

section
variable {g : Nat} {Sl : World → (Nat → Prop) → Nat → SlT Int → Prop} {W0 W W' : World} {p q : Nat}
theorem one_add (K : Works11I g Sl) (h : SsI g Sl W0 W p (oneS q)) (x : Int) : Calls Try.prog 13 #[.pointer (some ⟨p, 0, none⟩), .int .i64 x] W fun e W' => e = .returned (.tuple #[.int .i64 (8 * (q : Int)), .int .i64 0]) ∧ SsI g Sl W0 W' p (heldS q x) := by
  have := ss_addI K h x
  rw [addE_one, addN_one, addL_one] at this
  exact this
theorem held_get (K : Works11I g Sl) {x : Int} (h : SsI g Sl W0 W p (heldS q x)) (d : Int) (hd : d = 8 * (q : Int)) : Calls Try.prog 15 #[.pointer (some ⟨p, 0, none⟩), .int .i64 d] W fun e W' => e = .returned (.tuple #[.int .i64 x, .int .i64 0]) ∧ SsI g Sl W0 W' p (heldS q x) := by
  subst hd
  have := ss_getI K h (8 * (q : Int))
  rw [getE_held, getV_held] at this
  exact this
theorem held_get_no (K : Works11I g Sl) {x : Int} (h : SsI g Sl W0 W p (heldS q x)) (d : Int) (hd : d ≠ 8 * (q : Int)) : Calls Try.prog 15 #[.pointer (some ⟨p, 0, none⟩), .int .i64 d] W fun e W' => e = .returned (.tuple #[.int .i64 0, .int .i64 100]) ∧ SsI g Sl W0 W' p (heldS q x) := by
  have := ss_getI K h d
  rw [getE_held_no hd, getV_held_no hd] at this
  exact this
theorem held_rem (K : Works11I g Sl) {x : Int} (h : SsI g Sl W0 W p (heldS q x)) (d : Int) (hd : d = 8 * (q : Int)) : Calls Try.prog 19 #[.pointer (some ⟨p, 0, none⟩), .int .i64 d] W fun e W' => e = .returned (.tuple #[.int .i64 x, .int .i64 0]) ∧ SsI g Sl W0 W' p (oneS ((q + 1) % 4096)) := by
  subst hd
  have := ss_remI K h (8 * (q : Int))
  rw [getE_held, getV_held, remL_held] at this
  exact this
end

set_option maxRecDepth 100000 in
set_option maxHeartbeats 8000000 in
theorem gone_of {g : Nat} {Sl : World → (Nat → Prop) → Nat → SlT Int → Prop} {Sl2 : World → (Nat → Prop) → Nat → SlT ByteArray → Prop} (K : Works11I g Sl) (K2 : Works11S g Sl2) (W : World) (N : New11I g Sl W) (N2 : New11S g Sl2 W) (n v : Int) :
    Calls Try.prog 5 #[.int .i64 n, .int .i64 v] W fun e W' => e = .returned (.bool true) ∧ Below W.heap.size W W' := by
  have HS := Lib.hid (shown11 K2 W N2)
  have HK := Lib.hid K
  have HN := Lib.hid N
  clear K N K2 N2
  by_cases hbad : n < 0 ∨ 300 < n
  · have hs : n < 0 ∨ (¬ n < 0 ∧ 300 < n) := by omega
    clear hbad
    rcases hs with h1 | ⟨h1, h2⟩
    all_goals
      go_enter Try.func5, Try.ntmps5
      go_wp2_with (go_at_call 9; refine HS.out.mono ?_; rintro e w1 ⟨rfl, hB⟩; have HB := Lib.hid hB; clear hB)
      go_ret
      exact ⟨rfl, HB.out⟩
  obtain ⟨m, rfl⟩ : ∃ m : Nat, n = m := ⟨n.toNat, by omega⟩
  have hm : m ≤ 300 := by omega
  clear hbad
  go_enter Try.func5, Try.ntmps5
  go_wp2_with (first
    | (go_at_call 9; refine HS.out.mono ?_; rintro e w1 ⟨rfl, hB⟩; have HB := Lib.hid hB; clear hB)
    | (go_at_call 10; refine (ss_newI HN.out HB.out).mono ?_; rintro e w2 ⟨p, rfl, h2⟩; have A0 := one_add (q := 0) HK.out h2 v; rw [show 8 * ((0 : Nat) : Int) = 0 from rfl] at A0; have A0 := Lib.hid A0; clear h2)
    | (go_at_call 13; refine A0.out.mono ?_; rintro e w3 ⟨rfl, h3⟩; have R0 := Lib.hid (held_rem HK.out h3 0 rfl); clear h3 A0)
    | (go_at_call 19; refine R0.out.mono ?_; rintro e w4 ⟨rfl, h4⟩; have H4 := Lib.hid h4; clear h4 R0))
  go_loopw [11] (fun i wr => ∃ k : Nat, k ≤ m ∧ i = .int .i64 k ∧ SsI g Sl W wr p (oneS (k + 1))) (fun i _ => m - (intOf i).toNat)
  case atStart => exact ⟨0, by omega, rfl, H4.out⟩
  case round =>
    obtain ⟨k, hk, rfl, hT⟩ := hrel
    have HT := Lib.hid hT
    clear hT
    by_cases hkm : k < m
    · obtain ⟨d, hd⟩ : ∃ d : Int, 8 * ((k + 1 : Nat) : Int) = d := ⟨_, rfl⟩
      have d0 : (d == 0) = false := by rw [beq_eq_false_iff_ne]; omega
      have dm : d.tmod 8 = 0 := by rw [Int.tmod_eq_emod_of_nonneg (by omega)]; omega
      have d8 : (d.tmod 8 == 0) = true := by rw [dm]; rfl
      have d8' : (d.tmod 8 != 0) = false := by rw [dm]; rfl
      clear dm
      have A1 : ∀ x : Int, Calls Try.prog 13 #[.pointer (some ⟨p, 0, none⟩), .int .i64 x] wr fun e W' => e = .returned (.tuple #[.int .i64 d, .int .i64 0]) ∧ SsI g Sl W W' p (heldS (k + 1) x) := fun x => by rw [← hd]; exact one_add HK.out HT.out x
      have G1 : ∀ (x : Int) (w5 : World), SsI g Sl W w5 p (heldS (k + 1) x) → Calls Try.prog 15 #[.pointer (some ⟨p, 0, none⟩), .int .i64 d] w5 fun e W' => e = .returned (.tuple #[.int .i64 x, .int .i64 0]) ∧ SsI g Sl W W' p (heldS (k + 1) x) := fun x w5 h => held_get HK.out h d hd.symm
      have G2 : ∀ (x : Int) (w5 : World), SsI g Sl W w5 p (heldS (k + 1) x) → Calls Try.prog 15 #[.pointer (some ⟨p, 0, none⟩), .int .i64 0] w5 fun e W' => e = .returned (.tuple #[.int .i64 0, .int .i64 100]) ∧ SsI g Sl W W' p (heldS (k + 1) x) := fun x w5 h => held_get_no HK.out h 0 (by omega)
      have R1 : ∀ (x : Int) (w5 : World), SsI g Sl W w5 p (heldS (k + 1) x) → Calls Try.prog 19 #[.pointer (some ⟨p, 0, none⟩), .int .i64 d] w5 fun e W' => e = .returned (.tuple #[.int .i64 x, .int .i64 0]) ∧ SsI g Sl W W' p (oneS (k + 1 + 1)) := fun x w5 h => by
        have := held_rem HK.out h d hd.symm
        rw [show (k + 1 + 1) % 4096 = k + 1 + 1 by omega] at this
        exact this
      have HA1 := Lib.hid A1; have HG1 := Lib.hid G1; have HG2 := Lib.hid G2; have HR1 := Lib.hid R1
      clear A1 G1 G2 R1 hd
      go_wp2_with (first
        | (go_at_call 13; refine (HA1.out _).mono ?_; rintro e w5 ⟨rfl, h5⟩; have H5 := Lib.hid h5; clear h5)
        | (go_at_call 15; with_reducible refine (HG1.out _ _ H5.out).mono ?_; rintro e w6 ⟨rfl, h6⟩; have H6 := Lib.hid h6; clear h6 H5)
        | (go_at_call 15; refine (HG2.out _ _ H6.out).mono ?_; rintro e w7 ⟨rfl, h7⟩; have H7 := Lib.hid h7; clear h7)
        | (go_at_call 19; refine (HR1.out _ _ H7.out).mono ?_; rintro e w8 ⟨rfl, h8⟩; have H8 := Lib.hid h8; clear h8))
      go_roundw
      case rel => exact ⟨k + 1, by omega, by go_num, H8.out⟩
      case measure => simp [intOf]; omega
    · obtain rfl : k = m := by omega
      have I1 := ss_idsI HK.out HT.out
      rw [ids_one] at I1
      have HI := Lib.hid I1
      clear I1
      go_wp2_with (go_at_call 22; refine HI.out.mono ?_; rintro e w9 ⟨_, rfl, ⟨a, cap, rfl, -⟩, h9, -⟩; have H9 := Lib.hid h9; clear h9)
      go_ret
      exact ⟨rfl, H9.out.bel⟩

set_option maxRecDepth 100000 in
set_option maxHeartbeats 8000000 in
theorem round_of {g : Nat} {Sl : World → (Nat → Prop) → Nat → SlT Int → Prop} {Sl2 : World → (Nat → Prop) → Nat → SlT ByteArray → Prop} (K : Works11I g Sl) (K2 : Works11S g Sl2) (W : World) (N : New11I g Sl W) (N2 : New11S g Sl2 W) (v : Int) :
    Calls Try.prog 6 #[.int .i64 v] W fun e W' => e = .returned (.bool true) ∧ Below W.heap.size W W' := by
  have HS := Lib.hid (shown11 K2 W N2)
  have HK := Lib.hid K
  have HN := Lib.hid N
  clear K N K2 N2
  go_enter Try.func6, Try.ntmps6
  go_wp2_with (first
    | (go_at_call 9; refine HS.out.mono ?_; rintro e w1 ⟨rfl, hB⟩; have HB := Lib.hid hB; clear hB)
    | (go_at_call 10; refine (ss_newI HN.out HB.out).mono ?_; rintro e w2 ⟨p, rfl, h2⟩; have H2 : Hid (SsI g Sl W w2 p (oneS 0)) := h2; clear h2))
  obtain ⟨M, hM⟩ : ∃ M : Nat, M = 4096 := ⟨_, rfl⟩
  have HM := Lib.hid hM
  clear hM
  go_loopw [5] (fun i wr => ∃ k : Nat, k ≤ 4096 ∧ i = .int .i64 k ∧ SsI g Sl W wr p (oneS (k % 4096))) (fun i _ => 4096 - (intOf i).toNat)
  case atStart => exact ⟨0, by omega, rfl, H2.out⟩
  case round =>
    obtain ⟨k, hk, rfl, hT⟩ := hrel
    by_cases hkm : k < 4096
    · rw [show k % 4096 = k by omega] at hT
      have HT := Lib.hid hT
      clear hT
      obtain ⟨d, hd⟩ : ∃ d : Int, 8 * (k : Int) = d := ⟨_, rfl⟩
      have hw : IntKind.i64.wrap (8 * (k : Int)) = d := by rw [IntKind.wrap_i64, ← hd]; omega
      have hkl : (k : Int) < 4096 := by omega
      have A1 := one_add HK.out HT.out v
      rw [hd] at A1
      have R1 : ∀ (w5 : World), SsI g Sl W w5 p (heldS k v) → Calls Try.prog 19 #[.pointer (some ⟨p, 0, none⟩), .int .i64 d] w5 fun e W' => e = .returned (.tuple #[.int .i64 v, .int .i64 0]) ∧ SsI g Sl W W' p (oneS ((k + 1) % 4096)) := fun w5 h => held_rem HK.out h d hd.symm
      have HA1 := Lib.hid A1; have HR1 := Lib.hid R1
      clear A1 R1 hd
      go_wp2_with (first
        | (go_at_call 13; refine HA1.out.mono ?_; rintro e w5 ⟨rfl, h5⟩; have H5 := Lib.hid h5; clear h5)
        | (go_at_call 19; refine (HR1.out _ H5.out).mono ?_; rintro e w8 ⟨rfl, h8⟩; have H8 := Lib.hid h8; clear h8))
      go_roundw
      case rel => exact ⟨k + 1, by omega, by go_num, H8.out⟩
      case measure => simp [intOf]; omega
    · obtain rfl : k = 4096 := by omega
      rw [show 4096 % 4096 = 0 from rfl] at hT
      have A1 := one_add HK.out hT v
      rw [show 8 * ((0 : Nat) : Int) = 0 from rfl] at A1
      have HA1 := Lib.hid A1
      clear A1 hT
      go_wp2_with (go_at_call 13; refine HA1.out.mono ?_; rintro e w5 ⟨rfl, h5⟩; have H5 := Lib.hid h5; clear h5)
      go_ret
      exact ⟨rfl, H5.out.bel⟩
end Go.Proofs.Yteannfenkmejjaa
