/- FramesMany: for every n and refs the law answers true: New tells ErrArg unless n is 1 to 256; the first frame can be shared until it has 1000 references. No conditions. -/
import Derived.Test.YtgbgjnhdoedboaaFramesMach
import Derived.Test.YtgbgjnhdoedboaaLaw
namespace Go.Proofs.Ytgbgjnhdoedboaa
open Go.RowKit Go.ChangeShapes Go.WideShapes Go.ChangeAt

theorem allocF_zero (n : Nat) (h : 1 ≤ n) : allocF n (fun _ => 0) = some 0 := allocF_some (by omega) rfl (fun j hj => by omega)

set_option maxRecDepth 100000 in
set_option maxHeartbeats 1000000 in
theorem many_in (n : Nat) (r : Int) (h1 : 1 ≤ n) (hn : n ≤ 256) (hr0 : 990 ≤ r) (hr1 : r ≤ 1010) (w : World) :
    Calls Try.prog 8 #[.int .i64 n, .int .i64 r] w fun e w' => e = .returned (.bool true) ∧ Below w.heap.size w w' := by
  go_enter Try.func8, Try.ntmps8
  go_wp2_with fail
  refine (shown_any _).mono ?_
  rintro e w1 ⟨rfl, hB1⟩
  have HB1 := Lib.hid hB1; clear hB1
  go_wp2_with fail
  refine (new_ok n h1 hn _).mono ?_
  rintro e w2 ⟨rfl, hM2, hB2⟩
  have HB2 := Lib.hid hB2; clear hB2
  go_wp2_with fail
  refine (alloc_fn hM2).mono ?_
  rintro e w3 ⟨rfl, hM3, hG3⟩
  have hs := allocF_zero n h1
  have HG3 := Lib.hid hG3; clear hG3
  have hR : allocR n (fun _ => 0) = updR (fun _ => 0) 0 1 := by simp [allocR, allocN, hs]
  rw [hR] at hM3
  clear hs hR
  go_wp2_with fail
  have hB3 : Hid (Below w.heap.size w w3) := (HB1.out.trans (HB2.out.mono HB1.out.size)).trans (below_of_grown HG3.out (by have := HB1.out.size; have := HB2.out.size; omega) (fun k e => by cases e; exact HB1.out.size))
  clear hM2
  go_loopw [8] (fun i wr => ∃ (k : Nat) (R : Nat → Int) (B : Nat → List UInt8), 1 ≤ k ∧ (k : Int) ≤ r ∧ i = .int .i64 k ∧ R 0 = min (k : Int) 1000 ∧ MemAt wr (w1.heap.size + 1) w1.heap.size n R B ∧ Below w.heap.size w wr) (fun i _ => (r - intOf i).toNat)
  case atStart => exact ⟨1, _, _, Nat.le_refl _, by omega, rfl, by simp; omega, hM3, hB3.out⟩
  case round =>
    obtain ⟨k, R, B, hk1, hkr, rfl, hR0, hM, hB⟩ := hrel
    have HR0 := Lib.hid hR0
    have HB := Lib.hid hB; clear hB
    have hlive : Hid (liveB n R 0 = true) := by unfold Hid; simp only [liveB, decide_eq_true_eq]; exact ⟨by omega, by omega, by show 0 < R 0; omega⟩
    have hsz : Hid (w.heap.size ≤ w1.heap.size) := HB1.out.size
    by_cases hlt : (k : Int) < r
    · by_cases hk2 : k < 1000
      · have hE : shareE n R 0 = 0 := by
          unfold shareE; rw [if_pos hlive.out, if_neg (by show ¬ 1000 ≤ R 0; omega)]
        have hSR : Hid (shareR n R 0 0 = min ((k + 1 : Nat) : Int) 1000) := by
          unfold Hid shareR; rw [if_pos hE]; show updR R 0 (R 0 + 1) 0 = _; rw [updR_same]; omega
        have HE := Lib.hid hE
        clear hR0 hE
        have hd : decide ((k : Int) < 1000) = true := by simp; omega
        go_wp2_with fail
        refine (share_mem hM 0).mono ?_
        rintro e w4 ⟨rfl, hM4, hG4⟩
        rw [HE.out]
        have HG4 := Lib.hid hG4; clear hG4
        go_wp2
        go_roundw
        case rel => exact ⟨k + 1, _, _, by omega, by omega, by go_num, hSR.out, hM4, HB.out.trans (below_of_grown HG4.out HB.out.size (fun j e => by cases e; exact hsz.out))⟩
        case measure => simp [intOf]; omega
      · have hE : shareE n R 0 = 2 := by
          unfold shareE; rw [if_pos hlive.out, if_pos (by show 1000 ≤ R 0; omega)]
        have hSR : Hid (shareR n R 0 0 = min ((k + 1 : Nat) : Int) 1000) := by
          unfold Hid shareR; rw [if_neg (by rw [hE]; omega), hR0]; omega
        have HE := Lib.hid hE
        clear hR0 hE
        have hd : decide ((k : Int) < 1000) = false := by simp; omega
        go_wp2_with fail
        refine (share_mem hM 0).mono ?_
        rintro e w4 ⟨rfl, hM4, hG4⟩
        rw [HE.out]
        have HG4 := Lib.hid hG4; clear hG4
        go_wp2
        go_roundw
        case rel => exact ⟨k + 1, _, _, by omega, by omega, by go_num, hSR.out, hM4, HB.out.trans (below_of_grown HG4.out HB.out.size (fun j e => by cases e; exact hsz.out))⟩
        case measure => simp [intOf]; omega
    · obtain rfl : r = k := by omega
      have HV : Hid (refsN n R 0 = min (k : Int) 1000) := by unfold Hid refsN; rw [if_pos hlive.out]; exact hR0
      clear hR0
      go_wp2_with fail
      refine (refs_fn hM 0).mono ?_
      rintro e w4 ⟨rfl, hB4⟩
      have HB4 := Lib.hid hB4; clear hB4
      rw [HV.out]
      go_wp2
      all_goals
        go_ret
        exact ⟨ret_true (by rw [beq_iff_eq]; omega), HB.out.trans (HB4.out.mono HB.out.size)⟩

set_option maxRecDepth 100000 in
set_option maxHeartbeats 1000000 in
theorem many_walk (n r : Int) (w : World) :
    Calls Try.prog 8 #[.int .i64 n, .int .i64 r] w fun e w' => e = .returned (.bool true) ∧ Below w.heap.size w w' := by
  by_cases hin : (0 ≤ n ∧ n ≤ 300) ∧ 990 ≤ r ∧ r ≤ 1010
  · by_cases hn : 1 ≤ n ∧ n ≤ 256
    · obtain ⟨k, rfl⟩ := Int.eq_ofNat_of_zero_le (show 0 ≤ n by omega)
      exact many_in k r (by omega) (by omega) (by omega) (by omega) w
    · obtain ⟨⟨a1, a2⟩, a3, a4⟩ := hin
      have hbad : n < 1 ∨ 256 < n := by omega
      have b1 : decide (n < 0) = false := by simp; omega
      have b2 : decide (300 < n) = false := by simp; omega
      have b3 : decide (r < 990) = false := by simp; omega
      have b4 : decide (1010 < r) = false := by simp; omega
      clear hn a1 a2 a3 a4
      by_cases c : n < 1
      all_goals
        go_enter Try.func8, Try.ntmps8
        go_wp2_with fail
        refine (shown_any _).mono ?_
        rintro e w1 ⟨rfl, hB1⟩
        have HB1 := Lib.hid hB1; clear hB1
        go_wp2_with fail
        refine (new_bad n hbad _).mono ?_
        rintro e w2 ⟨rfl, rfl⟩
        go_wp2
        go_ret
        exact ⟨rfl, HB1.out⟩
  · have hc : n < 0 ∨ (0 ≤ n ∧ 300 < n) ∨ ((0 ≤ n ∧ n ≤ 300) ∧ r < 990) ∨ ((0 ≤ n ∧ n ≤ 300) ∧ 990 ≤ r ∧ 1010 < r) := by omega
    clear hin
    rcases hc with c | ⟨c1, c2⟩ | ⟨⟨c1, c2⟩, c3⟩ | ⟨⟨c1, c2⟩, c3, c4⟩
    all_goals
      go_enter Try.func8, Try.ntmps8
      go_wp2_with fail
      refine (shown_any _).mono ?_
      rintro e w1 ⟨rfl, hB1⟩
      have HB1 := Lib.hid hB1; clear hB1
      go_wp2
      go_ret
      exact ⟨rfl, HB1.out⟩

set_option maxRecDepth 100000 in
theorem many_lifted (os : Os) (started : os.Started) (H : Type) (enc : TypeId × Value → H) :
    ReturnsInHanded {} Try.checked os 8 .any (Rows.framesManySpec.pre6 enc Try.prog Try.f8 Rows.framesManyRow.domain false) (Rows.framesManySpec.post enc Try.prog Try.f8 false true false false) := by
  refine returnsInHanded_of_change (C := Try.checked) own started (by kernel_rfl) Try.func8
    (ChangeSpec.witness6 (enc := enc) (C := Try.checked) false ⟨#[], #[.int .i64 0, .int .i64 0], []⟩ 8 (by kernel_rfl) (by kernel_rfl) (by kernel_rfl) (by kernel_rfl)) ?_
  intro W base args ds gs before hval0 hW _ _
  have hval : ∀ (j : Nat) t v, Try.f8.params[j]? = some t → args[j]? = some v → Value.okWide Try.prog W .any base t v := hval0
  have hW' := hW
  obtain ⟨p, q, hA0, hV, rfl, hfz, hnd⟩ := hW
  have hA : DataW.TrodAll enc Try.prog W 0 (fun _ => true) true Try.f8.params.toList args.toList ds p := hA0
  rw [Try.params8] at hA hval
  obtain ⟨v0, vs0, d0, ds0, p0, q0, hargs, rfl, rfl, h0, r0⟩ := trodAll_cons hA
  obtain ⟨v1, vs1, d1, ds1, p1, q1, rfl, rfl, rfl, h1, r1⟩ := trodAll_cons r0
  obtain ⟨rfl, rfl, rfl⟩ := trodAll_nil r1
  obtain rfl : args = #[v0, v1] := by cases args; simp_all
  obtain ⟨a0, rfl, -, -, w0⟩ := open_int Try.underlying3 (hval 0 3 v0 rfl rfl) h0
  obtain ⟨a1, rfl, -, -, w1⟩ := open_int Try.underlying3 (hval 1 3 v1 rfl rfl) h1
  refine (many_walk a0 a1 W).mono fun e W' ⟨he, bel⟩ => ⟨_, he, ?_⟩
  exact law_post laidOut (of_decide_eq_true (by kernel_rfl)) rfl Try.underlying4 rfl hW' (fun ds' e => by subst e; rfl) bel

theorem framesMany_holds : Rows.FramesManySaid :=
  OpenClaim.holds_of_wide 8 Try.f8 rfl rfl rfl rfl rfl rfl rfl ⟨rfl, rfl, rfl, rfl, rfl⟩ rfl rfl rfl rfl rfl (by kernel_rfl) Try.func8 (by kernel_rfl)
    (of_decide_eq_true (by kernel_rfl)) (by unfold Func.isWrapper; rw [if_neg (by decide +kernel)]; exact ⟨rfl, rfl⟩)
    (fun os started H enc _ => many_lifted os started H enc)

#print axioms framesMany_holds
end Go.Proofs.Ytgbgjnhdoedboaa
