/- FilesDups, under Works: a duplicate is of the same, and both must be closed. -/
import Derived.Test.YtfgigofmmapbmaaFiDone
import Derived.Test.YtfgigofmmapbmaaFiActs
import Derived.Test.YtfgigofmmapbmaaRef9Same
namespace Go.Proofs.Ytfgigofmmapbmaa
open Go.RowKit Go.ChangeShapes Go.WideShapes Go.ChangeAt

theorem dups_open {k t : Int} (hk : 1 ≤ k) (ht : 0 ≤ t) : openE [] 0 3 k t = 0 ∧ openN [] 0 3 k t = 0 ∧ openL [] 0 3 k t = dupsL k t 0 1 ∧ openG [] 0 3 k t = 1 := by
  have hE : openE [] 0 3 k t = 0 := by
    unfold openE
    rw [if_neg (by omega), if_neg (by decide), if_neg (by decide)]
  refine ⟨hE, ?_, ?_, ?_⟩
  · unfold openN; rw [hE]; decide
  · unfold openL; rw [hE, if_pos rfl, show freeI [] 3 = 0 by decide]; rfl
  · unfold openG; rw [hE]; rfl

set_option maxRecDepth 100000 in
set_option maxHeartbeats 4000000 in
theorem dups_of {Fi : World → (Nat → Prop) → Nat → List FV → Nat → Prop} (W : Works Fi) (N : NewOf Fi) (k t x : Int) (w : World) :
    Calls Try.prog 9 #[.agg #[.int .i64 k, .int .i64 t], .int .i64 x] w fun e w' => e = .returned (.bool true) ∧ Below w.heap.size w w' := by
  have HW := Lib.hid W
  have HNew := Lib.hid N
  have HB0 := Lib.hid ((Below.refl w.heap.size w).alloc (Nat.le_refl _) (.cells #[.int .i64 k, .int .i64 t] 32))
  have HS := Lib.hid (shown9 W N (w.alloc (.cells #[.int .i64 k, .int .i64 t] 32)))
  have HX0 := Lib.hid (BoxA.new w 32 #[.int .i64 k, .int .i64 t])
  clear W N
  by_cases hx0 : x < 0
  · go_enter Try.func9, Try.ntmps9
    go_wp2_with (go_at_call 10; refine HS.out.mono ?_; rintro e w1 ⟨rfl, hB⟩; have HB := Lib.hid (HB0.out.trans (hB.mono HB0.out.size)); clear hB)
    go_ret
    exact ⟨rfl, HB.out⟩
  by_cases hx10 : 10 < x
  · go_enter Try.func9, Try.ntmps9
    go_wp2_with (go_at_call 10; refine HS.out.mono ?_; rintro e w1 ⟨rfl, hB⟩; have HB := Lib.hid (HB0.out.trans (hB.mono HB0.out.size)); clear hB)
    go_ret
    exact ⟨rfl, HB.out⟩
  obtain ⟨N, rfl⟩ : ∃ N : Nat, x = N := ⟨x.toNat, by omega⟩
  by_cases hok : 1 ≤ k ∧ 0 ≤ t
  · obtain ⟨hk, ht⟩ := hok
    obtain ⟨o1, o2, o3, o4⟩ := dups_open hk ht
    have HO : Hid (∀ (w1 w2 : World) (p : Nat), St Fi w1 w2 p [] 0 → Calls Try.prog 17 #[.pointer (some ⟨p, 0, none⟩), .int .i64 3, .agg #[.int .i64 k, .int .i64 t]] w2 fun e w' => e = .returned (.tuple #[.int .i64 0, .int .i64 0]) ∧ St Fi w1 w' p (dupsL k t 0 1) 1) := fun w1 w2 p h => by
      have := st_open HW.out h (by decide) (by decide) 3 k t
      rw [o1, o2, o3, o4] at this
      exact this
    clear o1 o2 o3 o4
    go_enter Try.func9, Try.ntmps9
    go_wp2_with (first
      | (go_at_call 10; refine HS.out.mono ?_; rintro e w1 ⟨rfl, hB⟩; have HB := Lib.hid (HB0.out.trans (hB.mono HB0.out.size)); have HX1 := Lib.hid (HX0.out.below' hB); clear hB)
      | (go_at_call 11; refine (st_new (w0 := w1) HNew.out (Below.refl _ w1)).mono ?_; rintro e w2 ⟨p, rfl, h2⟩; have H2 := Lib.hid h2; have x20 := (HX1.out.below' h2.bel).at 0 rfl; have x21 := (HX1.out.below' h2.bel).at 1 rfl; clear h2)
      | (go_at_call 17; refine (HO.out w1 w2 p H2.out).mono ?_; rintro e w3 ⟨rfl, h3⟩; have H3 := Lib.hid h3; clear h3))
    go_loopw [9] (fun i wr => ∃ j : Nat, 1 ≤ j ∧ j ≤ N + 1 ∧ i = .int .i64 j ∧ St Fi w1 wr p (dupsL k t 0 (min j 8)) 1) (fun i _ => N + 1 - (intOf i).toNat)
    case atStart => exact ⟨1, by omega, by omega, rfl, H3.out⟩
    case round =>
      obtain ⟨j, hj1, hj, rfl, hT⟩ := hrel
      have HT := Lib.hid hT
      clear hT
      by_cases hlt : j ≤ N
      · have hd := st_dup HW.out HT.out (by rw [dups_len]; omega) (by decide) 3 0
        rw [(dups_dup (by omega) (by omega)).1, (dups_dup (by omega) (by omega)).2] at hd
        by_cases c8 : j < 8
        · have hm : min j 8 = j := by omega
          have hm1 : min (j + 1) 8 = j + 1 := by omega
          have hN : dupN (dupsL k t 0 j) 3 0 = j := by
            unfold dupN
            rw [(dups_dup (by omega) (by omega)).1, if_pos c8, if_pos rfl, dups_free c8]
          rw [hm] at hd HT
          rw [hN, if_pos c8, if_pos c8] at hd
          have HD := Lib.hid hd
          clear hd hN
          go_wp2_with (go_at_call 18; refine HD.out.mono ?_; rintro e w4 ⟨rfl, h4⟩; have H4 := Lib.hid h4; clear h4)
          go_roundw
          case rel => exact ⟨j + 1, by omega, by omega, by go_num, by rw [hm1]; exact H4.out⟩
          case measure => simp [intOf]; omega
        · have hm : min j 8 = 8 := by omega
          have hm1 : min (j + 1) 8 = 8 := by omega
          have hN : dupN (dupsL k t 0 8) 3 0 = 0 := by
            unfold dupN
            rw [(dups_dup (by omega) (by omega)).1]
            rfl
          rw [hm] at hd HT
          rw [hN, if_neg (by decide), if_neg (by decide)] at hd
          have HD := Lib.hid hd
          clear hd hN
          go_wp2_with (go_at_call 18; refine HD.out.mono ?_; rintro e w4 ⟨rfl, h4⟩; have H4 := Lib.hid h4; clear h4)
          go_roundw
          case rel => exact ⟨j + 1, by omega, by omega, by go_num, by rw [hm1]; exact H4.out⟩
          case measure => simp [intOf]; omega
      · obtain rfl : j = N + 1 := by omega
        have hm : min (N + 1) 8 = min N 7 + 1 := by omega
        rw [hm] at HT
        obtain ⟨K, hK⟩ : ∃ K : Nat, K = min N 7 := ⟨_, rfl⟩
        rw [← hK] at HT
        have hcase : ((N : Int) ≤ 7 ∧ ¬ (7 : Int) < (N : Int) ∧ K = N ∧ N ≤ 7) ∨ (¬ (N : Int) ≤ 7 ∧ (7 : Int) < (N : Int) ∧ K = 7 ∧ K ≤ 7) := by omega
        clear hm hK
        rcases hcase with ⟨q1, q2, rfl, hK7⟩ | ⟨q1, q2, rfl, hK7⟩
        · skip
          go_wp2
          go_loopw [13] (fun i wr2 => ∃ v : Nat, v ≤ K + 1 ∧ i = .int .i64 v ∧ St Fi w1 wr2 p (dupsL k t v (K + 1 - v)) 1) (fun i _ => K + 1 - (intOf i).toNat)
          case atStart => exact ⟨0, by omega, rfl, HT.out⟩
          case round =>
            obtain ⟨v, hv, rfl, hT2⟩ := hrel
            have HT2 := Lib.hid hT2
            clear hT2
            by_cases hvK : v ≤ K
            · have hc := st_cls HW.out HT2.out (by rw [dups_len]; omega) (by decide) 3 v
              rw [show K + 1 - v = (K - v) + 1 by omega, dups_close.1, dups_close.2.1, dups_close.2.2.1, dups_close.2.2.2] at hc
              have hq := neq_opened k t k t
              have HC := Lib.hid hc
              have HX2 := Lib.hid (HX1.out.below' HT2.out.bel)
              have hs2 := HX1.out.lt
              have hs3 := HT2.out.bel.size
              clear hc
              by_cases hvk : v = K
              · subst hvk
                rw [Nat.sub_self] at HC
                go_wp2_with (go_at_call 19; refine HC.out.mono ?_; rintro e w4 ⟨rfl, h4⟩; have x40 := ((HX1.out.below' h4.bel).alloc (.cells #[.int .i64 k, .int .i64 t] 32)).at 0 rfl; have x41 := ((HX1.out.below' h4.bel).alloc (.cells #[.int .i64 k, .int .i64 t] 32)).at 1 rfl; have H4 := Lib.hid (St.alloc HW.out h4 (.cells #[.int .i64 k, .int .i64 t] 32)); clear h4)
                go_roundw
                case rel => exact ⟨v + 1, by omega, by go_num, by rw [show v + 1 - (v + 1) = 0 by omega]; exact H4.out⟩
                case measure => simp [intOf]
              · have hb : (K - v == 0) = false := by rw [beq_eq_false_iff_ne]; omega
                have hvI : ¬ (v : Int) = (K : Int) := by omega
                rw [hb] at HC
                go_wp2_with (go_at_call 19; refine HC.out.mono ?_; rintro e w4 ⟨rfl, h4⟩; have x40 := ((HX1.out.below' h4.bel).alloc (.cells #[.int .i64 k, .int .i64 t] 32)).at 0 rfl; have x41 := ((HX1.out.below' h4.bel).alloc (.cells #[.int .i64 k, .int .i64 t] 32)).at 1 rfl; have H4 := Lib.hid (St.alloc HW.out h4 (.cells #[.int .i64 k, .int .i64 t] 32)); clear h4)
                go_roundw
                case rel => exact ⟨v + 1, by omega, by go_num, by rw [show K + 1 - (v + 1) = K - v by omega]; exact H4.out⟩
                case measure => simp [intOf]; omega
            · obtain rfl : v = K + 1 := by omega
              rw [Nat.sub_self] at HT2
              go_wp2_with (go_at_call 13; refine (st_count HW.out HT2.out (by rw [dups_len]; decide) (by decide)).mono ?_; rintro e w5 ⟨rfl, h6⟩; have H6 := Lib.hid h6; clear h6; rw [show cntN (dupsL k t (K + 1) 0) 1 = 0 from rfl])
              go_ret
              exact ⟨rfl, HB.out.trans (H6.out.bel.mono HB.out.size)⟩
        · skip
          go_wp2
          go_loopw [13] (fun i wr2 => ∃ v : Nat, v ≤ 8 ∧ i = .int .i64 v ∧ St Fi w1 wr2 p (dupsL k t v (8 - v)) 1) (fun i _ => 8 - (intOf i).toNat)
          case atStart => exact ⟨0, by omega, rfl, HT.out⟩
          case round =>
            obtain ⟨v, hv, rfl, hT2⟩ := hrel
            have HT2 := Lib.hid hT2
            clear hT2
            by_cases hvK : v ≤ 7
            · have hc := st_cls HW.out HT2.out (by rw [dups_len]; omega) (by decide) 3 v
              rw [show 8 - v = (7 - v) + 1 by omega, dups_close.1, dups_close.2.1, dups_close.2.2.1, dups_close.2.2.2] at hc
              have hq := neq_opened k t k t
              have HC := Lib.hid hc
              have HX2 := Lib.hid (HX1.out.below' HT2.out.bel)
              have hs2 := HX1.out.lt
              have hs3 := HT2.out.bel.size
              clear hc
              by_cases hvk : v = 7
              · subst hvk
                rw [Nat.sub_self] at HC
                go_wp2_with (go_at_call 19; refine HC.out.mono ?_; rintro e w4 ⟨rfl, h4⟩; have x40 := ((HX1.out.below' h4.bel).alloc (.cells #[.int .i64 k, .int .i64 t] 32)).at 0 rfl; have x41 := ((HX1.out.below' h4.bel).alloc (.cells #[.int .i64 k, .int .i64 t] 32)).at 1 rfl; have H4 := Lib.hid (St.alloc HW.out h4 (.cells #[.int .i64 k, .int .i64 t] 32)); clear h4)
                go_roundw
                case rel => exact ⟨8, by omega, by go_num, H4.out⟩
                case measure => simp [intOf]
              · have hb : (7 - v == 0) = false := by rw [beq_eq_false_iff_ne]; omega
                have hvI : ¬ (v : Int) = (7 : Int) := by omega
                rw [hb] at HC
                go_wp2_with (go_at_call 19; refine HC.out.mono ?_; rintro e w4 ⟨rfl, h4⟩; have x40 := ((HX1.out.below' h4.bel).alloc (.cells #[.int .i64 k, .int .i64 t] 32)).at 0 rfl; have x41 := ((HX1.out.below' h4.bel).alloc (.cells #[.int .i64 k, .int .i64 t] 32)).at 1 rfl; have H4 := Lib.hid (St.alloc HW.out h4 (.cells #[.int .i64 k, .int .i64 t] 32)); clear h4)
                go_roundw
                case rel => exact ⟨v + 1, by omega, by go_num, by rw [show 8 - (v + 1) = 7 - v by omega]; exact H4.out⟩
                case measure => simp [intOf]; omega
            · obtain rfl : v = 8 := by omega
              rw [Nat.sub_self] at HT2
              go_wp2_with (go_at_call 13; refine (st_count HW.out HT2.out (by rw [dups_len]; decide) (by decide)).mono ?_; rintro e w5 ⟨rfl, h6⟩; have H6 := Lib.hid h6; clear h6; rw [show cntN (dupsL k t 8 0) 1 = 0 from rfl])
              go_ret
              exact ⟨rfl, HB.out.trans (H6.out.bel.mono HB.out.size)⟩
  · have hE : openE [] 0 3 k t = 2 := by unfold openE; rw [if_pos (by omega)]
    have HO : Hid (∀ (w1 w2 : World) (p : Nat), St Fi w1 w2 p [] 0 → Calls Try.prog 17 #[.pointer (some ⟨p, 0, none⟩), .int .i64 3, .agg #[.int .i64 k, .int .i64 t]] w2 fun e w' => e = .returned (.tuple #[.int .i64 0, .int .i64 2]) ∧ St Fi w1 w' p [] 0) := fun w1 w2 p h => by
      have := st_open HW.out h (by decide) (by decide) 3 k t
      unfold openN openL openG at this
      rw [hE] at this
      exact this
    clear hE hok
    go_enter Try.func9, Try.ntmps9
    go_wp2_with (first
      | (go_at_call 10; refine HS.out.mono ?_; rintro e w1 ⟨rfl, hB⟩; have HB := Lib.hid (HB0.out.trans (hB.mono HB0.out.size)); have HX1 := Lib.hid (HX0.out.below' hB); clear hB)
      | (go_at_call 11; refine (st_new (w0 := w1) HNew.out (Below.refl _ w1)).mono ?_; rintro e w2 ⟨p, rfl, h2⟩; have H2 := Lib.hid h2; have x20 := (HX1.out.below' h2.bel).at 0 rfl; have x21 := (HX1.out.below' h2.bel).at 1 rfl; clear h2)
      | (go_at_call 17; refine (HO.out w1 w2 p H2.out).mono ?_; rintro e w3 ⟨rfl, h3⟩; have H3 := Lib.hid h3; clear h3)
      | (go_at_call 13; refine (st_count HW.out H3.out (by decide) (by decide)).mono ?_; rintro e w5 ⟨rfl, h6⟩; have H6 := Lib.hid h6; clear h6; rw [show cntN [] 0 = 0 from rfl]))
    go_ret
    exact ⟨rfl, HB.out.trans (H6.out.bel.mono HB.out.size)⟩
end Go.Proofs.Ytfgigofmmapbmaa
