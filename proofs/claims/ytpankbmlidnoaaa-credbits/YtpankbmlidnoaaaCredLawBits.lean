/- CredBits: for every user, group, other user and mode: who makes a thing has the third digit's bits, another one of its group the second digit's; no condition. -/
import Derived.Test.YtpankbmlidnoaaaCredShown
import Derived.Test.YtpankbmlidnoaaaCredArgs
namespace Go.Proofs.Ytpankbmlidnoaaa
open Go.ChangeShapes Go.WideShapes Go.ChangeAt Go.RowKit

theorem bits_owner {u g m : Int} (hp : permB u g u g m = true) (hu : 1 ≤ u) : bitsN u 0 u g u g m = m / 64 := by
  have hr : rightB u 0 = true := by
    simp only [permB, rightB, usrB, Bool.and_eq_true, decide_eq_true_eq] at hp ⊢
    omega
  unfold bitsN
  rw [hr, hp]
  simp [placeN, digN]
  omega
theorem bits_group {u g o m : Int} (hp : permB u g u g m = true) (ho : 1 ≤ o) (ho2 : o ≤ 65535) (hne : o ≠ u) : bitsN o g u g u g m = m / 8 % 8 := by
  have hr : rightB o g = true := by
    simp only [permB, rightB, usrB, Bool.and_eq_true, decide_eq_true_eq] at hp ⊢
    omega
  unfold bitsN
  rw [hr, hp]
  have : o ≠ 0 := by omega
  simp [placeN, digN, hne, this]

set_option maxRecDepth 100000 in
set_option maxHeartbeats 1000000 in
theorem cbits_walk (u g o m : Int) (w : World) : Calls Try.prog 8 #[.int .i64 u, .int .i64 g, .int .i64 o, .int .i64 m] w fun e w' => e = .returned (.bool true) ∧ Below w.heap.size w w' := by
  by_cases hp : permB u g u g m = true
  · have hm : 0 ≤ m ∧ m ≤ 511 := by simp only [permB, modB, Bool.and_eq_true, decide_eq_true_eq] at hp; omega
    have HPM := Lib.hid hm; have HP := Lib.hid hp; clear hp
    by_cases h1 : u < 1
    · clear hm
      have HB0 := Lib.hid (Below.refl w.heap.size w)
      go_enter Try.func8, Try.ntmps8
      go_wp2_with fail
      refine (shown5_any _).mono ?_
      rintro e w1 ⟨rfl, hB⟩
      have HB1 := Lib.hid (HB0.out.trans (hB.mono HB0.out.size))
      clear hB 
      go_wp2_with fail
      refine (make_ok u g m HP.out _).mono ?_
      rintro e w2 ⟨rfl, hB⟩
      have HB2 := Lib.hid (HB1.out.trans (hB.mono HB1.out.size))
      clear hB 
      have aQ := BoxA.new w2 25 #[.int .i64 u, .int .i64 g, .int .i64 u, .int .i64 g, .int .i64 m]
      have HB3 := Lib.hid (HB2.out.alloc HB2.out.size (.cells #[.int .i64 u, .int .i64 g, .int .i64 u, .int .i64 g, .int .i64 m] 25))
      have q0 := aQ.at 0 rfl; have q1 := aQ.at 1 rfl; have q2 := aQ.at 2 rfl; have q3 := aQ.at 3 rfl; have q4 := aQ.at 4 rfl
      have BQ3 := Lib.hid aQ; clear aQ
      go_wp2
      go_ret
      exact ⟨rfl, HB3.out⟩
    · by_cases h2 : o < 1
      · clear hm
        have HB0 := Lib.hid (Below.refl w.heap.size w)
        go_enter Try.func8, Try.ntmps8
        go_wp2_with fail
        refine (shown5_any _).mono ?_
        rintro e w1 ⟨rfl, hB⟩
        have HB1 := Lib.hid (HB0.out.trans (hB.mono HB0.out.size))
        clear hB 
        go_wp2_with fail
        refine (make_ok u g m HP.out _).mono ?_
        rintro e w2 ⟨rfl, hB⟩
        have HB2 := Lib.hid (HB1.out.trans (hB.mono HB1.out.size))
        clear hB 
        have aQ := BoxA.new w2 25 #[.int .i64 u, .int .i64 g, .int .i64 u, .int .i64 g, .int .i64 m]
        have HB3 := Lib.hid (HB2.out.alloc HB2.out.size (.cells #[.int .i64 u, .int .i64 g, .int .i64 u, .int .i64 g, .int .i64 m] 25))
        have q0 := aQ.at 0 rfl; have q1 := aQ.at 1 rfl; have q2 := aQ.at 2 rfl; have q3 := aQ.at 3 rfl; have q4 := aQ.at 4 rfl
        have BQ3 := Lib.hid aQ; clear aQ
        go_wp2
        go_ret
        exact ⟨rfl, HB3.out⟩
      · by_cases h3 : o > 65535
        · clear hm
          have HB0 := Lib.hid (Below.refl w.heap.size w)
          go_enter Try.func8, Try.ntmps8
          go_wp2_with fail
          refine (shown5_any _).mono ?_
          rintro e w1 ⟨rfl, hB⟩
          have HB1 := Lib.hid (HB0.out.trans (hB.mono HB0.out.size))
          clear hB 
          go_wp2_with fail
          refine (make_ok u g m HP.out _).mono ?_
          rintro e w2 ⟨rfl, hB⟩
          have HB2 := Lib.hid (HB1.out.trans (hB.mono HB1.out.size))
          clear hB 
          have aQ := BoxA.new w2 25 #[.int .i64 u, .int .i64 g, .int .i64 u, .int .i64 g, .int .i64 m]
          have HB3 := Lib.hid (HB2.out.alloc HB2.out.size (.cells #[.int .i64 u, .int .i64 g, .int .i64 u, .int .i64 g, .int .i64 m] 25))
          have q0 := aQ.at 0 rfl; have q1 := aQ.at 1 rfl; have q2 := aQ.at 2 rfl; have q3 := aQ.at 3 rfl; have q4 := aQ.at 4 rfl
          have BQ3 := Lib.hid aQ; clear aQ
          go_wp2
          go_ret
          exact ⟨rfl, HB3.out⟩
        · by_cases h4 : o = u
          · have h4' : (o == u) = true := by simpa using h4
            clear h4 hm
            have HB0 := Lib.hid (Below.refl w.heap.size w)
            go_enter Try.func8, Try.ntmps8
            go_wp2_with fail
            refine (shown5_any _).mono ?_
            rintro e w1 ⟨rfl, hB⟩
            have HB1 := Lib.hid (HB0.out.trans (hB.mono HB0.out.size))
            clear hB 
            go_wp2_with fail
            refine (make_ok u g m HP.out _).mono ?_
            rintro e w2 ⟨rfl, hB⟩
            have HB2 := Lib.hid (HB1.out.trans (hB.mono HB1.out.size))
            clear hB 
            have aQ := BoxA.new w2 25 #[.int .i64 u, .int .i64 g, .int .i64 u, .int .i64 g, .int .i64 m]
            have HB3 := Lib.hid (HB2.out.alloc HB2.out.size (.cells #[.int .i64 u, .int .i64 g, .int .i64 u, .int .i64 g, .int .i64 m] 25))
            have q0 := aQ.at 0 rfl; have q1 := aQ.at 1 rfl; have q2 := aQ.at 2 rfl; have q3 := aQ.at 3 rfl; have q4 := aQ.at 4 rfl
            have BQ3 := Lib.hid aQ; clear aQ
            go_wp2
            go_ret
            exact ⟨rfl, HB3.out⟩
          · have h4' : (o == u) = false := by simpa using h4
            have EA := Lib.hid (bits_owner HP.out (by omega))
            have EB := Lib.hid (bits_group HP.out (by omega) (by omega) h4)
            clear h4
            have h7 := and7 (m / 8) (by omega) (by omega)
            have HB0 := Lib.hid (Below.refl w.heap.size w)
            go_enter Try.func8, Try.ntmps8
            go_wp2_with fail
            refine (shown5_any _).mono ?_
            rintro e w1 ⟨rfl, hB⟩
            have HB1 := Lib.hid (HB0.out.trans (hB.mono HB0.out.size))
            clear hB 
            go_wp2_with fail
            refine (make_ok u g m HP.out _).mono ?_
            rintro e w2 ⟨rfl, hB⟩
            have HB2 := Lib.hid (HB1.out.trans (hB.mono HB1.out.size))
            clear hB 
            have aQ := BoxA.new w2 25 #[.int .i64 u, .int .i64 g, .int .i64 u, .int .i64 g, .int .i64 m]
            have HB3 := Lib.hid (HB2.out.alloc HB2.out.size (.cells #[.int .i64 u, .int .i64 g, .int .i64 u, .int .i64 g, .int .i64 m] 25))
            have q0 := aQ.at 0 rfl; have q1 := aQ.at 1 rfl; have q2 := aQ.at 2 rfl; have q3 := aQ.at 3 rfl; have q4 := aQ.at 4 rfl
            have BQ3 := Lib.hid aQ; clear aQ
            go_wp2_with fail
            refine (bits_any u 0 u g u g m _).mono ?_
            rintro e w4 ⟨rfl, hB⟩
            rw [EA.out]
            have bQ := BQ3.out.below' hB
            have HB4 := Lib.hid (HB3.out.trans (hB.mono HB3.out.size))
            clear hB q0 q1 q2 q3 q4 BQ3
            have q0 := bQ.at 0 rfl; have q1 := bQ.at 1 rfl; have q2 := bQ.at 2 rfl; have q3 := bQ.at 3 rfl; have q4 := bQ.at 4 rfl
            have BQ4 := Lib.hid bQ; clear bQ
            go_wp2_with fail
            refine (bits_any o g u g u g m _).mono ?_
            rintro e w5 ⟨rfl, hB⟩
            rw [EB.out]
            have bQ := BQ4.out.below' hB
            have HB5 := Lib.hid (HB4.out.trans (hB.mono HB4.out.size))
            clear hB q0 q1 q2 q3 q4 BQ4
            have q0 := bQ.at 0 rfl; have q1 := bQ.at 1 rfl; have q2 := bQ.at 2 rfl; have q3 := bQ.at 3 rfl; have q4 := bQ.at 4 rfl
            have BQ5 := Lib.hid bQ; clear bQ
            go_wp2
            go_ret
            exact ⟨rfl, HB5.out⟩
  · have HP := Lib.hid (Bool.eq_false_iff.2 hp); clear hp
    have HB0 := Lib.hid (Below.refl w.heap.size w)
    go_enter Try.func8, Try.ntmps8
    go_wp2_with fail
    refine (shown5_any _).mono ?_
    rintro e w1 ⟨rfl, hB⟩
    have HB1 := Lib.hid (HB0.out.trans (hB.mono HB0.out.size))
    clear hB 
    go_wp2_with fail
    refine (make_no u g m HP.out _).mono ?_
    rintro e w2 ⟨rfl, hB⟩
    have HB2 := Lib.hid (HB1.out.trans (hB.mono HB1.out.size))
    clear hB 
    have aQ := BoxA.new w2 25 #[.int .i64 0, .int .i64 0, .int .i64 0, .int .i64 0, .int .i64 0]
    have HB3 := Lib.hid (HB2.out.alloc HB2.out.size (.cells #[.int .i64 0, .int .i64 0, .int .i64 0, .int .i64 0, .int .i64 0] 25))
    have q0 := aQ.at 0 rfl; have q1 := aQ.at 1 rfl; have q2 := aQ.at 2 rfl; have q3 := aQ.at 3 rfl; have q4 := aQ.at 4 rfl
    have BQ3 := Lib.hid aQ; clear aQ
    go_wp2
    go_ret
    exact ⟨rfl, HB3.out⟩

set_option maxRecDepth 100000 in
theorem credBits_lifted (os : Os) (started : os.Started) (H : Type) (enc : TypeId × Value → H) :
    ReturnsInHanded {} Try.checked os 8 .any (Rows.credBitsSpec.pre6 enc Try.prog Try.f8 Rows.credBitsRow.domain false) (Rows.credBitsSpec.post enc Try.prog Try.f8 false true false false) := by
  refine returnsInHanded_of_change (C := Try.checked) own started (by kernel_rfl) Try.func8
    (ChangeSpec.witness6 (enc := enc) (C := Try.checked) false ⟨#[], #[.int .i64 0, .int .i64 0, .int .i64 0, .int .i64 0], []⟩ 8 (by kernel_rfl) (by kernel_rfl) (by kernel_rfl) (by kernel_rfl)) ?_
  intro W base args ds gs before hval0 hW _ _
  have hval : ∀ (j : Nat) t v, Try.f8.params[j]? = some t → args[j]? = some v → Value.okWide Try.prog W .any base t v := hval0
  have hW' := hW
  obtain ⟨p, q, hA0, hV, rfl, hfz, hnd⟩ := hW
  have hA : DataW.TrodAll enc Try.prog W 0 (fun _ => true) true Try.f8.params.toList args.toList ds p := hA0
  rw [Try.params8] at hA hval
  obtain ⟨v0, vs0, d0, ds0, p0, q0, hargs, rfl, rfl, h0, r0⟩ := trodAll_cons hA
  obtain ⟨v1, vs1, d1, ds1, p1, q1, rfl, rfl, rfl, h1, r1⟩ := trodAll_cons r0
  obtain ⟨v2, vs2, d2, ds2, p2, q2, rfl, rfl, rfl, h2, r2⟩ := trodAll_cons r1
  obtain ⟨v3, vs3, d3, ds3, p3, q3, rfl, rfl, rfl, h3, r3⟩ := trodAll_cons r2
  obtain ⟨rfl, rfl, rfl⟩ := trodAll_nil r3
  obtain rfl : args = #[v0, v1, v2, v3] := by cases args; simp_all
  obtain ⟨x0, rfl, -, -, _⟩ := open_int Try.underlying3 (hval 0 3 v0 rfl rfl) h0
  obtain ⟨x1, rfl, -, -, _⟩ := open_int Try.underlying3 (hval 1 3 v1 rfl rfl) h1
  obtain ⟨x2, rfl, -, -, _⟩ := open_int Try.underlying3 (hval 2 3 v2 rfl rfl) h2
  obtain ⟨x3, rfl, -, -, _⟩ := open_int Try.underlying3 (hval 3 3 v3 rfl rfl) h3
  refine (cbits_walk x0 x1 x2 x3 W).mono fun e W' ⟨he, bel⟩ => ⟨_, he, ?_⟩
  exact law_post laidOut (of_decide_eq_true (by kernel_rfl)) rfl Try.underlying4 rfl hW' (fun ds' e => by subst e; rfl) bel

theorem credBits_holds : Rows.CredBitsSaid :=
  OpenClaim.holds_of_wide 8 Try.f8 rfl rfl rfl rfl rfl rfl rfl ⟨rfl, rfl, rfl, rfl, rfl⟩ rfl rfl rfl rfl rfl (by kernel_rfl) Try.func8 (by kernel_rfl)
    (of_decide_eq_true (by kernel_rfl)) (by unfold Func.isWrapper; rw [if_neg (by decide +kernel)]; exact ⟨rfl, rfl⟩)
    (fun os started H enc _ => credBits_lifted os started H enc)

#print axioms credBits_holds
end Go.Proofs.Ytpankbmlidnoaaa
