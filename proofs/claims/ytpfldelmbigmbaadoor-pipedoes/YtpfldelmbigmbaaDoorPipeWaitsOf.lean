/- PipeWaits, under Works10: one must wait just if it can't be done: CanRead and CanWrite tell so. -/
import Derived.Test.YtpfldelmbigmbaaDoorPipeStreamsOf
namespace Go.Proofs.YtpfldelmbigmbaaDoor
open Go.RowKit

theorem six (d : Int) (y : Nat) (h : (IntKind.u64.wrap d).tmod 6 = (y : Int)) : ((IntKind.u64.wrap d).tmod 6 == 0) = decide (y = 0) ∧ ((IntKind.u64.wrap d).tmod 6 == 1) = decide (y = 1) ∧ ((IntKind.u64.wrap d).tmod 6 == 2) = decide (y = 2) ∧ ((IntKind.u64.wrap d).tmod 6 == 3) = decide (y = 3) ∧ ((IntKind.u64.wrap d).tmod 6 == 4) = decide (y = 4) ∧ ((IntKind.u64.wrap d).tmod 6 == 5) = decide (y = 5) := by
  rw [h]
  refine ⟨?_, ?_, ?_, ?_, ?_, ?_⟩ <;> rw [Bool.eq_iff_iff] <;> simp <;> omega

set_option maxRecDepth 100000 in
set_option maxHeartbeats 8000000 in
theorem waits_of {g : Nat} {Pi : World → (Nat → Prop) → Nat → List UInt8 → Nat → Nat → Prop} (K : Works10 g Pi) (w0 : World) (N : NewP g Pi w0) (a : Option Addr) (len cap : Nat) (s : ByteArray) (hA : ActsAt w0 a len) (hs : s.size ≤ maxLen) :
    Calls Tryd.prog 5 #[.slice a len cap, .string s] w0 fun e w' => e = .returned (.bool true) ∧ Below w0.heap.size w0 w' := by
  have HA := Lib.hid hA.2
  have hlen := hA.1
  have HS := Lib.hid (shown10 K w0 N)
  have HK := Lib.hid K
  have HN := Lib.hid N
  have TX := fun w => text10 s hs w
  have hT : (textS10 s).size ≤ 50 := by rw [textS10_size]; omega
  generalize textS10 s = T at *
  obtain ⟨X, hX⟩ : ∃ X : ByteArray, (⟨(T.data.toList ++ [120]).toArray⟩ : ByteArray) = X := ⟨_, rfl⟩
  have hXl : X.data.toList = T.data.toList ++ [120] := by rw [← hX]
  have hXn : X.data.toList ≠ [] := by rw [hXl]; simp
  have hXz : X.size ≤ 51 := by rw [← size_list, hXl, List.length_append, size_list]; show T.size + 1 ≤ 51; omega
  have hadd := join_known (X := T) (Y := ⟨#[120]⟩) (Z := X) (by rw [hXl]) (by omega)
  have HTX := Lib.hid TX; have HXN := Lib.hid hXn; have HXZ := Lib.hid hXz
  unfold maxLen at hlen
  clear hA K N TX hs hT hX hXl hXn hXz
  go_enter Tryd.func5, Tryd.ntmps5
  go_wp2_with (first
    | (go_at_call 10; refine HS.out.mono ?_; rintro e w1 ⟨rfl, hB⟩; have HB := Lib.hid hB; clear hB)
    | (go_at_call 11; refine (sp_new HN.out HB.out).mono ?_; rintro e w2 ⟨p, rfl, h2⟩; have H2 := Lib.hid h2; clear h2))
  go_loopw [7] (fun i wr => ∃ j : Nat, j ≤ len ∧ j ≤ 100 ∧ i = .int .i64 (j : Int) ∧ ∃ (L : List UInt8) (r v : Nat), Sp Pi w0 wr p L r v) (fun i _ => 100 - (intOf i).toNat)
  case atStart => exact ⟨0, Nat.zero_le _, by omega, rfl, [], 1, 1, H2.out⟩
  case round =>
    obtain ⟨j, hj, hj2, rfl, L, r, v, hR⟩ := hrel
    have HR := Lib.hid hR
    have HL := Lib.hid (hR.ok HK.out).len
    clear hR
    by_cases hlt : j < len ∧ j < 100
    · obtain ⟨l1, l2⟩ := hlt
      have l3 : (j : Int) < (len : Int) := by omega
      have l4 : (j : Int) < 100 := by omega
      obtain ⟨b, off, rfl, hb, hcs⟩ := HA.out (by omega)
      obtain ⟨d, k, n, s', hA⟩ := hcs j l1
      have HA1 := Lib.hid hA
      have hA0 := hA.below HR.out.bel hb
      have c0 := hA0.c0
      have c1 := hA0.c1
      have c2 := hA0.c2
      obtain ⟨y, hy, hd⟩ := mod6 d
      have hx := six d y hd
      clear hcs hA hA0 hd
      rcases (show (y = 0 ∨ y = 1) ∨ (y = 2 ∨ y = 3) ∨ y = 4 ∨ y = 5 by omega) with hyy | hyy | rfl | rfl
      · obtain ⟨m, hm, hmm⟩ : ∃ m : Int, 1 ≤ m ∧ ((1 < n ∧ m = n) ∨ (n < 1 ∧ m = 1) ∨ (n = 1 ∧ m = 1)) := by
          rcases Int.lt_trichotomy n 1 with c | c | c
          · exact ⟨1, by omega, .inr (.inl ⟨c, rfl⟩)⟩
          · exact ⟨1, by omega, .inr (.inr ⟨c, rfl⟩)⟩
          · exact ⟨n, by omega, .inl ⟨c, rfl⟩⟩
        have hmx : m ≤ 9223372036854775807 := by have := HA1.out.hn; omega
        have hcan := canR_iff (L := L) (w := v) hm
        obtain ⟨g, hg⟩ : ∃ g, rdE L v m = g := ⟨_, rfl⟩
        have KC := sp_canR HK.out HR.out
        rw [hcan, hg] at KC
        have KR : ∀ w2, Sp Pi w0 w2 p L r v → Calls Tryd.prog 12 #[.pointer (some ⟨p, 0, none⟩), .int .i64 m] w2 fun e w' => ∃ x L2, e = .returned (.tuple #[.string x, .int .i64 g]) ∧ Sp Pi w0 w' p L2 r v := fun w2 h => by
          refine (sp_read HK.out h m hmx).mono ?_
          rintro e w' ⟨rfl, h⟩
          rw [hg]
          exact ⟨_, _, rfl, h⟩
        have HKC := Lib.hid KC; have HKR := Lib.hid KR
        clear KC KR hcan hg hmx hm
        rcases hyy with rfl | rfl
        all_goals
          obtain ⟨x0, x1, x2, x3, x4, x5⟩ := hx
          simp only [Nat.reduceEqDiff, decide_true, decide_false, Nat.zero_ne_one, Nat.one_ne_zero] at x0 x1 x2 x3 x4 x5
          rcases (show (g == 0) = true ∨ (g == 0) = false by cases (g == 0) <;> simp) with hg0 | hg0
          all_goals
            rcases hmm with ⟨q1, rfl⟩ | ⟨q1, rfl⟩ | ⟨rfl, rfl⟩
            all_goals
              go_wp2_with (first
                | (go_at_call 23; refine HKC.out.mono ?_; rintro e w2 ⟨rfl, h2⟩; have d2 := (HA1.out.below h2.bel hb).c2; have H3 := Lib.hid h2; clear h2)
                | (go_at_call 12; refine (HKR.out _ H3.out).mono ?_; rintro e w3 ⟨x, L2, rfl, h3⟩; have H4 := Lib.hid h3; clear h3))
              go_roundw
              case rel => exact ⟨j + 1, by omega, by omega, by go_num, _, _, _, H4.out⟩
              case measure => simp [intOf]; omega
      · have hcan := canW_iff (r := r) HL.out HXN.out
        obtain ⟨g, hg⟩ : ∃ g, wrE L r X.data.toList = g := ⟨_, rfl⟩
        have KC := sp_canW HK.out HR.out
        rw [hcan, hg] at KC
        have KW : ∀ w2, Sp Pi w0 w2 p L r v → Calls Tryd.prog 14 #[.pointer (some ⟨p, 0, none⟩), .string X] w2 fun e w' => ∃ (x : Int) (L2 : List UInt8), e = .returned (.tuple #[.int .i64 x, .int .i64 g]) ∧ Sp Pi w0 w' p L2 r v := fun w2 h => by
          refine (sp_write HK.out h X (.inl (by have := HXZ.out; omega))).mono ?_
          rintro e w' ⟨rfl, h⟩
          rw [hg]
          exact ⟨_, _, rfl, h⟩
        have HKC := Lib.hid KC; have HKW := Lib.hid KW
        clear KC KW hcan hg
        rcases hyy with rfl | rfl
        all_goals
          obtain ⟨x0, x1, x2, x3, x4, x5⟩ := hx
          simp only [Nat.reduceEqDiff, decide_true, decide_false] at x0 x1 x2 x3 x4 x5
          rcases (show ((g == 63) = true ∧ (g != 63) = false) ∨ ((g == 63) = false ∧ (g != 63) = true) by unfold bne; cases (g == 63) <;> simp) with ⟨hg0, hg1⟩ | ⟨hg0, hg1⟩
          all_goals
            go_wp2_with (first
              | (go_at_call 15; refine (HTX.out _).mono ?_; rintro e wt ⟨rfl, rfl⟩)
              | (go_at_call 24; refine HKC.out.mono ?_; rintro e w2 ⟨rfl, h2⟩; have H3 := Lib.hid h2; clear h2)
              | (go_at_call 14; refine (HKW.out _ H3.out).mono ?_; rintro e w3 ⟨x, L2, rfl, h3⟩; have H4 := Lib.hid h3; clear h3))
            go_roundw
            case rel => exact ⟨j + 1, by omega, by omega, by go_num, _, _, _, H4.out⟩
            case measure => simp [intOf]; omega
      · obtain ⟨x0, x1, x2, x3, x4, x5⟩ := hx
        simp only [Nat.reduceEqDiff, decide_true, decide_false] at x0 x1 x2 x3 x4 x5
        go_wp2_with (go_at_call 17; refine (sp_open HK.out HR.out k).mono ?_; rintro e w3 ⟨rfl, h3⟩; have H4 := Lib.hid h3; clear h3)
        go_roundw
        case rel => exact ⟨j + 1, by omega, by omega, by go_num, _, _, _, H4.out⟩
        case measure => simp [intOf]; omega
      · obtain ⟨x0, x1, x2, x3, x4, x5⟩ := hx
        simp only [Nat.reduceEqDiff, decide_true, decide_false] at x0 x1 x2 x3 x4 x5
        go_wp2_with (go_at_call 19; refine (sp_cls HK.out HR.out k).mono ?_; rintro e w3 ⟨rfl, h3⟩; have H4 := Lib.hid h3; clear h3)
        go_roundw
        case rel => exact ⟨j + 1, by omega, by omega, by go_num, _, _, _, H4.out⟩
        case measure => simp [intOf]; omega
    · have hor : ¬ ((j : Int) < (len : Int)) ∨ ((j : Int) < (len : Int) ∧ ¬ ((j : Int) < 100)) := by omega
      clear hlt
      rcases hor with e1 | ⟨e1, e2⟩
      all_goals
        go_wp2
        go_ret
        exact ⟨rfl, HR.out.bel⟩
end Go.Proofs.YtpfldelmbigmbaaDoor
