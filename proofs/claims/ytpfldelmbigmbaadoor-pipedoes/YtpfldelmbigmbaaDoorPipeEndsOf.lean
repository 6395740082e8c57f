/- PipeEnds, under Works10: a pipe is gone just when its last end is closed. -/
import Derived.Test.YtpfldelmbigmbaaDoorPiShown
namespace Go.Proofs.YtpfldelmbigmbaaDoor
open Go.RowKit

theorem op_one {r w : Nat} (h : r < 100) : opE r w 1 = 0 ∧ opR r w 1 = r + 1 ∧ opW r w 1 = w := by
  have e : opE r w 1 = 0 := by unfold opE; rw [if_pos (.inl ⟨rfl, h⟩)]
  unfold opR opW
  rw [e, if_pos ⟨rfl, rfl⟩, if_neg (by omega)]
  exact ⟨rfl, rfl, rfl⟩
theorem op_two {r w : Nat} (h : w < 100) : opE r w 2 = 0 ∧ opR r w 2 = r ∧ opW r w 2 = w + 1 := by
  have e : opE r w 2 = 0 := by unfold opE; rw [if_pos (.inr ⟨rfl, h⟩)]
  unfold opR opW
  rw [e, if_neg (by omega), if_pos ⟨rfl, rfl⟩]
  exact ⟨rfl, rfl, rfl⟩
theorem cl_one {r w : Nat} (h : 0 < r) : clE r w 1 = 0 ∧ clR r w 1 = r - 1 ∧ clW r w 1 = w ∧ clB r w 1 = decide (r - 1 + w = 0) := by
  have e : clE r w 1 = 0 := by unfold clE; rw [if_pos (.inl ⟨rfl, h⟩)]
  have e1 : clR r w 1 = r - 1 := by unfold clR; rw [e, if_pos ⟨rfl, rfl⟩]
  have e2 : clW r w 1 = w := by unfold clW; rw [e, if_neg (by omega)]
  refine ⟨e, e1, e2, ?_⟩
  unfold clB
  rw [e, e1, e2, Bool.eq_iff_iff]
  simp
theorem cl_two {r w : Nat} (h : 0 < w) : clE r w 2 = 0 ∧ clR r w 2 = r ∧ clW r w 2 = w - 1 ∧ clB r w 2 = decide (r + (w - 1) = 0) := by
  have e : clE r w 2 = 0 := by unfold clE; rw [if_pos (.inr ⟨rfl, h⟩)]
  have e1 : clR r w 2 = r := by unfold clR; rw [e, if_neg (by omega)]
  have e2 : clW r w 2 = w - 1 := by unfold clW; rw [e, if_pos ⟨rfl, rfl⟩]
  refine ⟨e, e1, e2, ?_⟩
  unfold clB
  rw [e, e1, e2, Bool.eq_iff_iff]
  simp

set_option maxRecDepth 100000 in
set_option maxHeartbeats 8000000 in
theorem ends_of {g : Nat} {Pi : World → (Nat → Prop) → Nat → List UInt8 → Nat → Nat → Prop} (K : Works10 g Pi) (W : World) (N : NewP g Pi W) (x y : Int) :
    Calls Tryd.prog 9 #[.int .i64 x, .int .i64 y] W fun e W' => e = .returned (.bool true) ∧ Below W.heap.size W W' := by
  have HS := Lib.hid (shown10 K W N)
  have HK := Lib.hid K
  have HN := Lib.hid N
  clear K N
  by_cases hbad : x < 0 ∨ y < 0 ∨ 10 < x ∨ 10 < y
  · have hs : x < 0 ∨ (¬ x < 0 ∧ y < 0) ∨ (¬ x < 0 ∧ ¬ y < 0 ∧ 10 < x) ∨ (¬ x < 0 ∧ ¬ y < 0 ∧ ¬ 10 < x ∧ 10 < y) := by omega
    clear hbad
    rcases hs with h1 | ⟨h1, h2⟩ | ⟨h1, h2, h3⟩ | ⟨h1, h2, h3, h4⟩
    all_goals
      go_enter Tryd.func9, Tryd.ntmps9
      go_wp2_with (go_at_call 10; refine HS.out.mono ?_; rintro e w1 ⟨rfl, hB⟩; have HB := Lib.hid hB; clear hB)
      go_ret
      exact ⟨rfl, HB.out⟩
  obtain ⟨a, rfl⟩ : ∃ a : Nat, x = a := ⟨x.toNat, by omega⟩
  obtain ⟨b, rfl⟩ : ∃ b : Nat, y = b := ⟨y.toNat, by omega⟩
  have ha : a ≤ 10 := by omega
  have hb : b ≤ 10 := by omega
  clear hbad
  go_enter Tryd.func9, Tryd.ntmps9
  go_wp2_with (first
    | (go_at_call 10; refine HS.out.mono ?_; rintro e w1 ⟨rfl, hB⟩; have HB := Lib.hid hB; clear hB)
    | (go_at_call 11; refine (sp_new HN.out HB.out).mono ?_; rintro e w2 ⟨p, rfl, h2⟩; have H2 := Lib.hid h2; clear h2))
  go_loopw [7] (fun i wr => ∃ v : Nat, v ≤ a ∧ i = .int .i64 v ∧ Sp Pi W wr p [] (1 + v) 1) (fun i _ => a - (intOf i).toNat)
  case atStart => exact ⟨0, by omega, rfl, H2.out⟩
  case round =>
    obtain ⟨v, hv, rfl, hT⟩ := hrel
    have HT := Lib.hid hT
    clear hT
    by_cases hva : v < a
    · have hO := sp_open HK.out HT.out 1
      obtain ⟨e1, e2, e3⟩ := op_one (r := 1 + v) (w := 1) (by omega)
      rw [e1, e2, e3] at hO
      have HO := Lib.hid hO
      clear hO e1 e2 e3
      go_wp2_with (go_at_call 17; refine HO.out.mono ?_; rintro e w3 ⟨rfl, h3⟩; have H3 := Lib.hid h3; clear h3)
      go_roundw
      case rel => exact ⟨v + 1, by omega, by go_num, H3.out⟩
      case measure => simp [intOf]; omega
    · obtain rfl : v = a := by omega
      go_wp2
      go_loopw [8] (fun i wr => ∃ u : Nat, u ≤ b ∧ i = .int .i64 u ∧ Sp Pi W wr p [] (1 + v) (1 + u)) (fun i _ => b - (intOf i).toNat)
      case atStart => exact ⟨0, by omega, rfl, HT.out⟩
      case round =>
        obtain ⟨u, hu, rfl, hT2⟩ := hrel
        have HT2 := Lib.hid hT2
        clear hT2
        by_cases hub : u < b
        · have hO := sp_open HK.out HT2.out 2
          obtain ⟨e1, e2, e3⟩ := op_two (r := 1 + v) (w := 1 + u) (by omega)
          rw [e1, e2, e3] at hO
          have HO := Lib.hid hO
          clear hO e1 e2 e3
          go_wp2_with (go_at_call 17; refine HO.out.mono ?_; rintro e w3 ⟨rfl, h3⟩; have H3 := Lib.hid h3; clear h3)
          go_roundw
          case rel => exact ⟨u + 1, by omega, by go_num, H3.out⟩
          case measure => simp [intOf]; omega
        · obtain rfl : u = b := by omega
          have hE := sp_ends HK.out HT2.out
          rw [show ((1 + v : Nat) : Int) = (v : Int) + 1 by omega, show ((1 + u : Nat) : Int) = (u : Int) + 1 by omega] at hE
          have HE := Lib.hid hE
          clear hE
          go_wp2_with (go_at_call 21; refine HE.out.mono ?_; rintro e w4 ⟨rfl, h4⟩; have H4 := Lib.hid h4; clear h4)
          go_loopw [11] (fun i wr => ∃ s : Nat, s ≤ v + 1 ∧ i = .int .i64 s ∧ Sp Pi W wr p [] (1 + v - s) (1 + u)) (fun i _ => v + 1 - (intOf i).toNat)
          case atStart => exact ⟨0, by omega, rfl, H4.out⟩
          case round =>
            obtain ⟨s, hs, rfl, hT3⟩ := hrel
            have HT3 := Lib.hid hT3
            clear hT3
            by_cases hsv : s < v + 1
            · have hC := sp_cls HK.out HT3.out 1
              obtain ⟨e1, e2, e3, e4⟩ := cl_one (r := 1 + v - s) (w := 1 + u) (by omega)
              rw [e1, e2, e3, e4, show decide (1 + v - s - 1 + (1 + u) = 0) = false from decide_eq_false (by omega)] at hC
              have HC := Lib.hid hC
              clear hC e1 e2 e3 e4
              go_wp2_with (go_at_call 19; refine HC.out.mono ?_; rintro e w3 ⟨rfl, h3⟩; have H3 := Lib.hid h3; clear h3)
              go_roundw
              case rel => exact ⟨s + 1, by omega, by go_num, by rw [show 1 + v - (s + 1) = 1 + v - s - 1 by omega]; exact H3.out⟩
              case measure => simp [intOf]; omega
            · rw [show 1 + v - s = 0 by omega] at HT3
              go_wp2
              rw [show decide (s ≤ v) = false from decide_eq_false (by omega)]
              go_loopw [14] (fun i wr => ∃ z : Nat, z ≤ u + 1 ∧ i = .int .i64 z ∧ Sp Pi W wr p [] 0 (1 + u - z)) (fun i _ => u + 1 - (intOf i).toNat)
              case atStart => exact ⟨0, by omega, rfl, HT3.out⟩
              case round =>
                obtain ⟨z, hz, rfl, hT4⟩ := hrel
                have HT4 := Lib.hid hT4
                clear hT4
                by_cases hzu : z < u + 1
                · have hC := sp_cls HK.out HT4.out 2
                  obtain ⟨e1, e2, e3, e4⟩ := cl_two (r := 0) (w := 1 + u - z) (by omega)
                  by_cases hlast : z = u
                  · have hq : ((z : Int) == (u : Int)) = true := by simp; omega
                    rw [e1, e2, e3, e4, show decide (0 + (1 + u - z - 1) = 0) = true from decide_eq_true (by omega)] at hC
                    have HC := Lib.hid hC
                    clear hC e1 e2 e3 e4 hlast
                    go_wp2_with (go_at_call 19; refine HC.out.mono ?_; rintro e w3 ⟨rfl, h3⟩; have H3 := Lib.hid h3; clear h3)
                    go_roundw
                    case rel => exact ⟨z + 1, by omega, by go_num, by rw [show 1 + u - (z + 1) = 1 + u - z - 1 by omega]; exact H3.out⟩
                    case measure => simp [intOf]; omega
                  · have hq : ((z : Int) == (u : Int)) = false := by rw [beq_eq_false_iff_ne]; omega
                    rw [e1, e2, e3, e4, show decide (0 + (1 + u - z - 1) = 0) = false from decide_eq_false (by omega)] at hC
                    have HC := Lib.hid hC
                    clear hC e1 e2 e3 e4 hlast
                    go_wp2_with (go_at_call 19; refine HC.out.mono ?_; rintro e w3 ⟨rfl, h3⟩; have H3 := Lib.hid h3; clear h3)
                    go_roundw
                    case rel => exact ⟨z + 1, by omega, by go_num, by rw [show 1 + u - (z + 1) = 1 + u - z - 1 by omega]; exact H3.out⟩
                    case measure => simp [intOf]; omega
                · obtain rfl : z = u + 1 := by omega
                  rw [show 1 + u - (u + 1) = 0 by omega] at HT4
                  have hC := sp_cls HK.out HT4.out 1
                  rw [show clE 0 0 1 = 2 from rfl, show clB 0 0 1 = false from rfl] at hC
                  have HC := Lib.hid hC
                  clear hC
                  go_wp2_with (go_at_call 19; refine HC.out.mono ?_; rintro e w3 ⟨rfl, h3⟩; have H3 := Lib.hid h3; clear h3)
                  go_ret
                  exact ⟨rfl, H3.out.bel⟩
end Go.Proofs.YtpfldelmbigmbaaDoor
