/- CredMakers: for every credentials, mode, user, group and other mode: a maker owns a thing for ever, whoever it is given to; no condition. -/
import Derived.Test.YtpankbmlidnoaaaCredShown
import Derived.Test.YtpankbmlidnoaaaCredArgs
namespace Go.Proofs.Ytpankbmlidnoaaa
open Go.ChangeShapes Go.WideShapes Go.ChangeAt Go.RowKit

theorem maker_place (u g a b d : Int) : 3 ≤ placeN u g a b u d := by unfold placeN; split <;> simp
theorem owns_maker {u g a b d m : Int} (hr : rightB u g = true) (hp : permB a b u d m = true) : ownsB u g a b u d m = true := by
  unfold ownsB; rw [hr, hp]; simpa using maker_place u g a b d

set_option maxRecDepth 100000 in
set_option maxHeartbeats 1000000 in
theorem makers_walk (u g m a b x : Int) (w : World) : Calls Try.prog 6 #[.agg #[.int .i64 u, .int .i64 g], .int .i64 m, .int .i64 a, .int .i64 b, .int .i64 x] w fun e w' => e = .returned (.bool true) ∧ Below w.heap.size w w' := by
  by_cases hp : permB u g u g m = true
  · have hr : rightB u g = true := by simp only [permB, Bool.and_eq_true] at hp; unfold rightB; rw [hp.1.1.1.1, hp.1.1.1.2]; rfl
    have HO := Lib.hid (owns_maker hr hp)
    by_cases hq : permB a b u g x = true
    · have HE : Hid (setE u g u g u g m a b x = 0) := by unfold Hid setE; rw [hr, hp, hq, HO.out]; rfl
      have HO2 := Lib.hid (owns_maker hr hq)
      have HP := Lib.hid hp; clear hp hr hq
      have bC := BoxA.new w 23 #[.int .i64 u, .int .i64 g]
      have HB0 := Lib.hid ((Below.refl w.heap.size w).alloc (by first | exact Nat.le_refl _ | (simp; done) | (simp; omega)) (.cells #[.int .i64 u, .int .i64 g] 23))
      have BC0 := Lib.hid bC; clear bC
      go_enter Try.func6, Try.ntmps6
      go_wp2_with fail
      refine (shown5_any _).mono ?_
      rintro e w1 ⟨rfl, hB⟩
      have bC := BC0.out.below' hB
      have HB1 := Lib.hid (HB0.out.trans (hB.mono HB0.out.size))
      clear hB BC0
      have c0 := bC.at 0 rfl; have c1 := bC.at 1 rfl
      have BC1 := Lib.hid bC; clear bC
      go_wp2_with fail
      refine (make_ok u g m HP.out _).mono ?_
      rintro e w2 ⟨rfl, hB⟩
      have bC := BC1.out.below' hB
      have HB2 := Lib.hid (HB1.out.trans (hB.mono HB1.out.size))
      clear hB c0 c1 BC1
      have aC := bC.alloc (.cells #[.int .i64 u, .int .i64 g, .int .i64 u, .int .i64 g, .int .i64 m] 25)
      have aQ := BoxA.new w2 25 #[.int .i64 u, .int .i64 g, .int .i64 u, .int .i64 g, .int .i64 m]
      have HB3 := Lib.hid (HB2.out.alloc HB2.out.size (.cells #[.int .i64 u, .int .i64 g, .int .i64 u, .int .i64 g, .int .i64 m] 25))
      clear bC
      have c0 := aC.at 0 rfl; have c1 := aC.at 1 rfl; have q0 := aQ.at 0 rfl; have q1 := aQ.at 1 rfl; have q2 := aQ.at 2 rfl; have q3 := aQ.at 3 rfl; have q4 := aQ.at 4 rfl
      have BC3 := Lib.hid aC; have BQ3 := Lib.hid aQ; clear aC aQ
      go_wp2_with fail
      refine (set_ok u g u g u g m a b x HE.out _).mono ?_
      rintro e w4 ⟨rfl, hB⟩
      have bC := BC3.out.below' hB; have bQ := BQ3.out.below' hB
      have HB4 := Lib.hid (HB3.out.trans (hB.mono HB3.out.size))
      clear hB c0 c1 q0 q1 q2 q3 q4 BC3 BQ3
      have aC := bC.alloc (.cells #[.int .i64 a, .int .i64 b, .int .i64 u, .int .i64 g, .int .i64 x] 25); have aQ := bQ.alloc (.cells #[.int .i64 a, .int .i64 b, .int .i64 u, .int .i64 g, .int .i64 x] 25)
      have aS := BoxA.new w4 25 #[.int .i64 a, .int .i64 b, .int .i64 u, .int .i64 g, .int .i64 x]
      have HB5 := Lib.hid (HB4.out.alloc HB4.out.size (.cells #[.int .i64 a, .int .i64 b, .int .i64 u, .int .i64 g, .int .i64 x] 25))
      clear bC bQ
      have c0 := aC.at 0 rfl; have c1 := aC.at 1 rfl; have q0 := aQ.at 0 rfl; have q1 := aQ.at 1 rfl; have q2 := aQ.at 2 rfl; have q3 := aQ.at 3 rfl; have q4 := aQ.at 4 rfl; have s0 := aS.at 0 rfl; have s1 := aS.at 1 rfl; have s2 := aS.at 2 rfl; have s3 := aS.at 3 rfl; have s4 := aS.at 4 rfl
      have BC5 := Lib.hid aC; have BQ5 := Lib.hid aQ; have BS5 := Lib.hid aS; clear aC aQ aS
      go_wp2_with fail
      refine (owns_any u g u g u g m _).mono ?_
      rintro e w6 ⟨rfl, hB⟩
      rw [HO.out]
      have bC := BC5.out.below' hB; have bQ := BQ5.out.below' hB; have bS := BS5.out.below' hB
      have HB6 := Lib.hid (HB5.out.trans (hB.mono HB5.out.size))
      clear hB c0 c1 q0 q1 q2 q3 q4 s0 s1 s2 s3 s4 BC5 BQ5 BS5
      have c0 := bC.at 0 rfl; have c1 := bC.at 1 rfl; have q0 := bQ.at 0 rfl; have q1 := bQ.at 1 rfl; have q2 := bQ.at 2 rfl; have q3 := bQ.at 3 rfl; have q4 := bQ.at 4 rfl; have s0 := bS.at 0 rfl; have s1 := bS.at 1 rfl; have s2 := bS.at 2 rfl; have s3 := bS.at 3 rfl; have s4 := bS.at 4 rfl
      have BC6 := Lib.hid bC; have BQ6 := Lib.hid bQ; have BS6 := Lib.hid bS; clear bC bQ bS
      go_wp2_with fail
      refine (owns_any u g a b u g x _).mono ?_
      rintro e w7 ⟨rfl, hB⟩
      rw [HO2.out]
      have bC := BC6.out.below' hB; have bQ := BQ6.out.below' hB; have bS := BS6.out.below' hB
      have HB7 := Lib.hid (HB6.out.trans (hB.mono HB6.out.size))
      clear hB c0 c1 q0 q1 q2 q3 q4 s0 s1 s2 s3 s4 BC6 BQ6 BS6
      have c0 := bC.at 0 rfl; have c1 := bC.at 1 rfl; have q0 := bQ.at 0 rfl; have q1 := bQ.at 1 rfl; have q2 := bQ.at 2 rfl; have q3 := bQ.at 3 rfl; have q4 := bQ.at 4 rfl; have s0 := bS.at 0 rfl; have s1 := bS.at 1 rfl; have s2 := bS.at 2 rfl; have s3 := bS.at 3 rfl; have s4 := bS.at 4 rfl
      have BC7 := Lib.hid bC; have BQ7 := Lib.hid bQ; have BS7 := Lib.hid bS; clear bC bQ bS
      go_wp2
      go_ret
      exact ⟨rfl, HB7.out⟩
    · have HE : Hid (setE u g u g u g m a b x = 50) := by unfold Hid setE; rw [hr, hp, Bool.eq_false_iff.2 hq]; rfl
      have HP := Lib.hid hp; clear hp hr hq
      have bC := BoxA.new w 23 #[.int .i64 u, .int .i64 g]
      have HB0 := Lib.hid ((Below.refl w.heap.size w).alloc (by first | exact Nat.le_refl _ | (simp; done) | (simp; omega)) (.cells #[.int .i64 u, .int .i64 g] 23))
      have BC0 := Lib.hid bC; clear bC
      go_enter Try.func6, Try.ntmps6
      go_wp2_with fail
      refine (shown5_any _).mono ?_
      rintro e w1 ⟨rfl, hB⟩
      have bC := BC0.out.below' hB
      have HB1 := Lib.hid (HB0.out.trans (hB.mono HB0.out.size))
      clear hB BC0
      have c0 := bC.at 0 rfl; have c1 := bC.at 1 rfl
      have BC1 := Lib.hid bC; clear bC
      go_wp2_with fail
      refine (make_ok u g m HP.out _).mono ?_
      rintro e w2 ⟨rfl, hB⟩
      have bC := BC1.out.below' hB
      have HB2 := Lib.hid (HB1.out.trans (hB.mono HB1.out.size))
      clear hB c0 c1 BC1
      have aC := bC.alloc (.cells #[.int .i64 u, .int .i64 g, .int .i64 u, .int .i64 g, .int .i64 m] 25)
      have aQ := BoxA.new w2 25 #[.int .i64 u, .int .i64 g, .int .i64 u, .int .i64 g, .int .i64 m]
      have HB3 := Lib.hid (HB2.out.alloc HB2.out.size (.cells #[.int .i64 u, .int .i64 g, .int .i64 u, .int .i64 g, .int .i64 m] 25))
      clear bC
      have c0 := aC.at 0 rfl; have c1 := aC.at 1 rfl; have q0 := aQ.at 0 rfl; have q1 := aQ.at 1 rfl; have q2 := aQ.at 2 rfl; have q3 := aQ.at 3 rfl; have q4 := aQ.at 4 rfl
      have BC3 := Lib.hid aC; have BQ3 := Lib.hid aQ; clear aC aQ
      go_wp2_with fail
      refine (set_no u g u g u g m a b x (by rw [HE.out]; decide) _).mono ?_
      rintro e w4 ⟨rfl, hB⟩
      rw [HE.out]
      have bC := BC3.out.below' hB; have bQ := BQ3.out.below' hB
      have HB4 := Lib.hid (HB3.out.trans (hB.mono HB3.out.size))
      clear hB c0 c1 q0 q1 q2 q3 q4 BC3 BQ3
      have aC := bC.alloc (.cells #[.int .i64 0, .int .i64 0, .int .i64 0, .int .i64 0, .int .i64 0] 25); have aQ := bQ.alloc (.cells #[.int .i64 0, .int .i64 0, .int .i64 0, .int .i64 0, .int .i64 0] 25)
      have aS := BoxA.new w4 25 #[.int .i64 0, .int .i64 0, .int .i64 0, .int .i64 0, .int .i64 0]
      have HB5 := Lib.hid (HB4.out.alloc HB4.out.size (.cells #[.int .i64 0, .int .i64 0, .int .i64 0, .int .i64 0, .int .i64 0] 25))
      clear bC bQ
      have c0 := aC.at 0 rfl; have c1 := aC.at 1 rfl; have q0 := aQ.at 0 rfl; have q1 := aQ.at 1 rfl; have q2 := aQ.at 2 rfl; have q3 := aQ.at 3 rfl; have q4 := aQ.at 4 rfl; have s0 := aS.at 0 rfl; have s1 := aS.at 1 rfl; have s2 := aS.at 2 rfl; have s3 := aS.at 3 rfl; have s4 := aS.at 4 rfl
      have BC5 := Lib.hid aC; have BQ5 := Lib.hid aQ; have BS5 := Lib.hid aS; clear aC aQ aS
      go_wp2
      go_ret
      exact ⟨rfl, HB5.out⟩
  · have hq := eql_perm 0 0 0 0 0 0 0 0 0 0
    by_cases hr : rightB u g = true
    · have hm : m < 0 ∨ 511 < m := by
        simp only [permB, rightB, modB, usrB, Bool.and_eq_true, decide_eq_true_eq] at hp hr
        omega
      have HR := Lib.hid hr; have HP := Lib.hid (Bool.eq_false_iff.2 hp); clear hp hr
      rcases hm with hm | hm
      all_goals
        have bC := BoxA.new w 23 #[.int .i64 u, .int .i64 g]
        have HB0 := Lib.hid ((Below.refl w.heap.size w).alloc (by first | exact Nat.le_refl _ | (simp; done) | (simp; omega)) (.cells #[.int .i64 u, .int .i64 g] 23))
        have BC0 := Lib.hid bC; clear bC
        go_enter Try.func6, Try.ntmps6
        go_wp2_with fail
        refine (shown5_any _).mono ?_
        rintro e w1 ⟨rfl, hB⟩
        have bC := BC0.out.below' hB
        have HB1 := Lib.hid (HB0.out.trans (hB.mono HB0.out.size))
        clear hB BC0
        have c0 := bC.at 0 rfl; have c1 := bC.at 1 rfl
        have BC1 := Lib.hid bC; clear bC
        go_wp2_with fail
        refine (make_no u g m HP.out _).mono ?_
        rintro e w2 ⟨rfl, hB⟩
        have bC := BC1.out.below' hB
        have HB2 := Lib.hid (HB1.out.trans (hB.mono HB1.out.size))
        clear hB c0 c1 BC1
        have aC := bC.alloc (.cells #[.int .i64 0, .int .i64 0, .int .i64 0, .int .i64 0, .int .i64 0] 25)
        have aQ := BoxA.new w2 25 #[.int .i64 0, .int .i64 0, .int .i64 0, .int .i64 0, .int .i64 0]
        have HB3 := Lib.hid (HB2.out.alloc HB2.out.size (.cells #[.int .i64 0, .int .i64 0, .int .i64 0, .int .i64 0, .int .i64 0] 25))
        clear bC
        have c0 := aC.at 0 rfl; have c1 := aC.at 1 rfl; have q0 := aQ.at 0 rfl; have q1 := aQ.at 1 rfl; have q2 := aQ.at 2 rfl; have q3 := aQ.at 3 rfl; have q4 := aQ.at 4 rfl
        have BC3 := Lib.hid aC; have BQ3 := Lib.hid aQ; clear aC aQ
        go_wp2_with fail
        refine (right_any u g _).mono ?_
        rintro e w4 ⟨rfl, hB⟩
        rw [HR.out]
        have bC := BC3.out.below' hB; have bQ := BQ3.out.below' hB
        have HB4 := Lib.hid (HB3.out.trans (hB.mono HB3.out.size))
        clear hB c0 c1 q0 q1 q2 q3 q4 BC3 BQ3
        have c0 := bC.at 0 rfl; have c1 := bC.at 1 rfl; have q0 := bQ.at 0 rfl; have q1 := bQ.at 1 rfl; have q2 := bQ.at 2 rfl; have q3 := bQ.at 3 rfl; have q4 := bQ.at 4 rfl
        have BC4 := Lib.hid bC; have BQ4 := Lib.hid bQ; clear bC bQ
        go_wp2
        go_ret
        exact ⟨rfl, HB4.out⟩
    · have HR := Lib.hid (Bool.eq_false_iff.2 hr); have HP := Lib.hid (Bool.eq_false_iff.2 hp); clear hp hr
      have bC := BoxA.new w 23 #[.int .i64 u, .int .i64 g]
      have HB0 := Lib.hid ((Below.refl w.heap.size w).alloc (by first | exact Nat.le_refl _ | (simp; done) | (simp; omega)) (.cells #[.int .i64 u, .int .i64 g] 23))
      have BC0 := Lib.hid bC; clear bC
      go_enter Try.func6, Try.ntmps6
      go_wp2_with fail
      refine (shown5_any _).mono ?_
      rintro e w1 ⟨rfl, hB⟩
      have bC := BC0.out.below' hB
      have HB1 := Lib.hid (HB0.out.trans (hB.mono HB0.out.size))
      clear hB BC0
      have c0 := bC.at 0 rfl; have c1 := bC.at 1 rfl
      have BC1 := Lib.hid bC; clear bC
      go_wp2_with fail
      refine (make_no u g m HP.out _).mono ?_
      rintro e w2 ⟨rfl, hB⟩
      have bC := BC1.out.below' hB
      have HB2 := Lib.hid (HB1.out.trans (hB.mono HB1.out.size))
      clear hB c0 c1 BC1
      have aC := bC.alloc (.cells #[.int .i64 0, .int .i64 0, .int .i64 0, .int .i64 0, .int .i64 0] 25)
      have aQ := BoxA.new w2 25 #[.int .i64 0, .int .i64 0, .int .i64 0, .int .i64 0, .int .i64 0]
      have HB3 := Lib.hid (HB2.out.alloc HB2.out.size (.cells #[.int .i64 0, .int .i64 0, .int .i64 0, .int .i64 0, .int .i64 0] 25))
      clear bC
      have c0 := aC.at 0 rfl; have c1 := aC.at 1 rfl; have q0 := aQ.at 0 rfl; have q1 := aQ.at 1 rfl; have q2 := aQ.at 2 rfl; have q3 := aQ.at 3 rfl; have q4 := aQ.at 4 rfl
      have BC3 := Lib.hid aC; have BQ3 := Lib.hid aQ; clear aC aQ
      go_wp2_with fail
      refine (right_any u g _).mono ?_
      rintro e w4 ⟨rfl, hB⟩
      rw [HR.out]
      have bC := BC3.out.below' hB; have bQ := BQ3.out.below' hB
      have HB4 := Lib.hid (HB3.out.trans (hB.mono HB3.out.size))
      clear hB c0 c1 q0 q1 q2 q3 q4 BC3 BQ3
      have c0 := bC.at 0 rfl; have c1 := bC.at 1 rfl; have q0 := bQ.at 0 rfl; have q1 := bQ.at 1 rfl; have q2 := bQ.at 2 rfl; have q3 := bQ.at 3 rfl; have q4 := bQ.at 4 rfl
      have BC4 := Lib.hid bC; have BQ4 := Lib.hid bQ; clear bC bQ
      go_wp2
      go_ret
      exact ⟨rfl, HB4.out⟩

set_option maxRecDepth 100000 in
theorem credMakers_lifted (os : Os) (started : os.Started) (H : Type) (enc : TypeId × Value → H) :
    ReturnsInHanded {} Try.checked os 6 .any (Rows.credMakersSpec.pre6 enc Try.prog Try.f6 Rows.credMakersRow.domain false) (Rows.credMakersSpec.post enc Try.prog Try.f6 false true false false) := by
  refine returnsInHanded_of_change (C := Try.checked) own started (by kernel_rfl) Try.func6
    (ChangeSpec.witness6 (enc := enc) (C := Try.checked) false ⟨#[], #[.agg #[.int .i64 0, .int .i64 0], .int .i64 0, .int .i64 0, .int .i64 0, .int .i64 0], []⟩ 8 (by kernel_rfl) (by kernel_rfl) (by kernel_rfl) (by kernel_rfl)) ?_
  intro W base args ds gs before hval0 hW _ _
  have hval : ∀ (j : Nat) t v, Try.f6.params[j]? = some t → args[j]? = some v → Value.okWide Try.prog W .any base t v := hval0
  have hW' := hW
  obtain ⟨p, q, hA0, hV, rfl, hfz, hnd⟩ := hW
  have hA : DataW.TrodAll enc Try.prog W 0 (fun _ => true) true Try.f6.params.toList args.toList ds p := hA0
  rw [Try.params6] at hA hval
  obtain ⟨v0, vs0, d0, ds0, p0, q0, hargs, rfl, rfl, h0, r0⟩ := trodAll_cons hA
  obtain ⟨v1, vs1, d1, ds1, p1, q1, rfl, rfl, rfl, h1, r1⟩ := trodAll_cons r0
  obtain ⟨v2, vs2, d2, ds2, p2, q2, rfl, rfl, rfl, h2, r2⟩ := trodAll_cons r1
  obtain ⟨v3, vs3, d3, ds3, p3, q3, rfl, rfl, rfl, h3, r3⟩ := trodAll_cons r2
  obtain ⟨v4, vs4, d4, ds4, p4, q4, rfl, rfl, rfl, h4, r4⟩ := trodAll_cons r3
  obtain ⟨rfl, rfl, rfl⟩ := trodAll_nil r4
  obtain rfl : args = #[v0, v1, v2, v3, v4] := by cases args; simp_all
  obtain ⟨x0, x1, rfl⟩ := open_cred (hval 0 23 v0 rfl rfl) h0
  obtain ⟨x2, rfl, -, -, _⟩ := open_int Try.underlying3 (hval 1 3 v1 rfl rfl) h1
  obtain ⟨x3, rfl, -, -, _⟩ := open_int Try.underlying3 (hval 2 3 v2 rfl rfl) h2
  obtain ⟨x4, rfl, -, -, _⟩ := open_int Try.underlying3 (hval 3 3 v3 rfl rfl) h3
  obtain ⟨x5, rfl, -, -, _⟩ := open_int Try.underlying3 (hval 4 3 v4 rfl rfl) h4
  refine (makers_walk x0 x1 x2 x3 x4 x5 W).mono fun e W' ⟨he, bel⟩ => ⟨_, he, ?_⟩
  exact law_post laidOut (of_decide_eq_true (by kernel_rfl)) rfl Try.underlying4 rfl hW' (fun ds' e => by subst e; rfl) bel

theorem credMakers_holds : Rows.CredMakersSaid :=
  OpenClaim.holds_of_wide 6 Try.f6 rfl rfl rfl rfl rfl rfl rfl ⟨rfl, rfl, rfl, rfl, rfl⟩ rfl rfl rfl rfl rfl (by kernel_rfl) Try.func6 (by kernel_rfl)
    (of_decide_eq_true (by kernel_rfl)) (by unfold Func.isWrapper; rw [if_neg (by decide +kernel)]; exact ⟨rfl, rfl⟩)
    (fun os started H enc _ => credMakers_lifted os started H enc)

#print axioms credMakers_holds
end Go.Proofs.Ytpankbmlidnoaaa
