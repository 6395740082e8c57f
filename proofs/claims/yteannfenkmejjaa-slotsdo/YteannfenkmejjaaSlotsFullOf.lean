/- SlotsFull, under Works11: slots filled one by one; a nil one (Nil11). -/
import Derived.Test.YteannfenkmejjaaSlotsGoneOf
namespace Go.Proofs.Yteannfenkmejjaa
open Go.RowKit

/-- a nil Slots: every call answers that there is none. -/
structure Nil11 (W0 : World) : Prop where
  add : ∀ (W : World) (x : Int), Below W0.heap.size W0 W → Calls Try.prog 13 #[.pointer none, .int .i64 x] W fun e W' => e = .returned (.tuple #[.int .i64 0, .int .i64 1]) ∧ Below W.heap.size W W'
  get : ∀ (W : World) (x : Int), Below W0.heap.size W0 W → Calls Try.prog 15 #[.pointer none, .int .i64 x] W fun e W' => e = .returned (.tuple #[.int .i64 0, .int .i64 1]) ∧ Below W.heap.size W W'
  rem : ∀ (W : World) (x : Int), Below W0.heap.size W0 W → Calls Try.prog 19 #[.pointer none, .int .i64 x] W fun e W' => e = .returned (.tuple #[.int .i64 0, .int .i64 1]) ∧ Below W.heap.size W W'
  set : ∀ (W : World) (x y : Int), Below W0.heap.size W0 W → Calls Try.prog 17 #[.pointer none, .int .i64 x, .int .i64 y] W fun e W' => e = .returned (.int .i64 1) ∧ Below W.heap.size W W'
  ids : ∀ (W : World), Below W0.heap.size W0 W → Calls Try.prog 22 #[.pointer none] W fun e W' => (∃ a cap, e = .returned (.slice a 0 cap)) ∧ Below W.heap.size W W'

set_option maxRecDepth 100000 in
set_option maxHeartbeats 8000000 in
theorem full_of {g : Nat} {Sl : World → (Nat → Prop) → Nat → SlT Int → Prop} {Sl2 : World → (Nat → Prop) → Nat → SlT ByteArray → Prop} (K : Works11I g Sl) (K2 : Works11S g Sl2) (W : World) (N : New11I g Sl W) (N2 : New11S g Sl2 W) (Z : Nil11 W) (n : Int) :
    Calls Try.prog 7 #[.int .i64 n] W fun e W' => e = .returned (.bool true) ∧ Below W.heap.size W W' := by
  have HS := Lib.hid (shown11 K2 W N2)
  have HK := Lib.hid K
  have HN := Lib.hid N
  have HZ := Lib.hid Z
  clear K N K2 N2 Z
  by_cases hbad : n < 0 ∨ 12 < n
  · have hs : n < 0 ∨ (¬ n < 0 ∧ 12 < n) := by omega
    clear hbad
    rcases hs with h1 | ⟨h1, h2⟩
    all_goals
      go_enter Try.func7, Try.ntmps7
      go_wp2_with (go_at_call 9; refine HS.out.mono ?_; rintro e w1 ⟨rfl, hB⟩; have HB := Lib.hid hB; clear hB)
      go_ret
      exact ⟨rfl, HB.out⟩
  obtain ⟨m, rfl⟩ : ∃ m : Nat, n = m := ⟨n.toNat, by omega⟩
  have hm : m ≤ 12 := by omega
  clear hbad
  go_enter Try.func7, Try.ntmps7
  go_wp2_with (first
    | (go_at_call 9; refine HS.out.mono ?_; rintro e w1 ⟨rfl, hB⟩; have HB := Lib.hid hB; clear hB)
    | (go_at_call 10; refine (ss_newI HN.out HB.out).mono ?_; rintro e w2 ⟨p, rfl, h2⟩; have H2 := Lib.hid h2; clear h2))
  go_loopw [5] (fun i wr => ∃ k : Nat, k ≤ m ∧ i = .int .i64 k ∧ ∃ z : Nat, (k ≤ 8 ∧ z = k ∨ 8 < k ∧ z = 8) ∧ SsI g Sl W wr p (fillS z)) (fun i _ => m - (intOf i).toNat)
  case atStart => exact ⟨0, by omega, rfl, 0, .inl ⟨by omega, rfl⟩, by rw [← fill_new]; exact H2.out⟩
  case round =>
    obtain ⟨k, hk, rfl, z, hz, hT⟩ := hrel
    by_cases hkm : k < m
    · by_cases h8 : k < 8
      · obtain rfl : z = k := by omega
        have A1 := ss_addI HK.out hT (z : Int)
        obtain ⟨e1, e2, e3⟩ := fill_add (n := z) h8
        rw [e1, e2, e3] at A1
        have HA := Lib.hid A1
        have HZZ := Lib.hid hz
        clear A1 e1 e2 e3 hT hz
        go_wp2_with (go_at_call 13; refine HA.out.mono ?_; rintro e w3 ⟨rfl, h3⟩; have H3 := Lib.hid h3; clear h3)
        go_roundw
        case rel => exact ⟨z + 1, by omega, by go_num, z + 1, .inl ⟨by omega, rfl⟩, H3.out⟩
        case measure => simp [intOf]; omega
      · obtain rfl : z = 8 := by omega
        have A1 := ss_addI HK.out hT (k : Int)
        obtain ⟨e1, e2, e3⟩ := fill_full
        rw [e1, e2, e3] at A1
        have HA := Lib.hid A1
        clear A1 e1 e2 e3 hT hz
        go_wp2_with (go_at_call 13; refine HA.out.mono ?_; rintro e w3 ⟨rfl, h3⟩; have H3 := Lib.hid h3; clear h3)
        go_roundw
        case rel => exact ⟨k + 1, by omega, by go_num, 8, .inr ⟨by omega, rfl⟩, H3.out⟩
        case measure => simp [intOf]; omega
    · obtain rfl : k = m := by omega
      have HT := Lib.hid hT
      have hl := fill_ids z (by omega)
      have hzz : (8 : Int) < (k : Int) ∧ z = 8 ∨ ¬ (8 : Int) < (k : Int) ∧ z = k := by omega
      clear hT hz hkm
      rcases hzz with ⟨c, rfl⟩ | ⟨c, rfl⟩
      all_goals
        go_wp2_with (first
          | (go_at_call 13; refine (HZ.out.add _ _ HT.out.bel).mono ?_; rintro e w3 ⟨rfl, h3⟩; have B3 := Lib.hid (HT.out.bel.trans (h3.mono HT.out.bel.size)); have T3 := Lib.hid (HT.out.below HK.out h3); clear h3)
          | (go_at_call 15; refine (HZ.out.get _ _ B3.out).mono ?_; rintro e w4 ⟨rfl, h4⟩; have B4 := Lib.hid (B3.out.trans (h4.mono B3.out.size)); have T4 := Lib.hid (T3.out.below HK.out h4); clear h4)
          | (go_at_call 19; refine (HZ.out.rem _ _ B4.out).mono ?_; rintro e w5 ⟨rfl, h5⟩; have B5 := Lib.hid (B4.out.trans (h5.mono B4.out.size)); have T5 := Lib.hid (T4.out.below HK.out h5); clear h5)
          | (go_at_call 22; refine (ss_idsI HK.out T5.out).mono ?_; rintro e w6 ⟨_, rfl, ⟨a, cap, rfl, -⟩, h6, -⟩; rw [hl]; have B6 := Lib.hid h6.bel; clear h6 T5)
          | (go_at_call 17; refine (HZ.out.set _ _ _ B6.out).mono ?_; rintro e w7 ⟨rfl, h7⟩; have B7 := Lib.hid (B6.out.trans (h7.mono B6.out.size)); clear h7)
          | (go_at_call 22; refine (HZ.out.ids _ B7.out).mono ?_; rintro e w8 ⟨⟨a2, cap2, rfl⟩, h8⟩; have B8 := Lib.hid (B7.out.trans (h8.mono B7.out.size)); clear h8))
        go_ret
        exact ⟨rfl, B8.out⟩
end Go.Proofs.Yteannfenkmejjaa
