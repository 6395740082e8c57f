/- CredBoth: for every credentials and permission, what is wanted of both is allowed just if each is, and the user 0 is never refused; no condition. -/
import Derived.Test.YtpankbmlidnoaaaCredShown
import Derived.Test.YtpankbmlidnoaaaCredArgs
namespace Go.Proofs.Ytpankbmlidnoaaa
open Go.ChangeShapes Go.WideShapes Go.ChangeAt Go.RowKit

/-- what is told of 2, 4 and 6 together. -/
theorem allow_three (u g a b c d m : Int) :
    ((allowN u g a b c d m 2 = 50 ∧ allowN u g a b c d m 4 = 50 ∧ allowN u g a b c d m 6 = 50) ∨ (allowN u g a b c d m 2 = 0 ∧ allowN u g a b c d m 4 = 0 ∧ allowN u g a b c d m 6 = 0)) ∨
    (u ≠ 0 ∧ allowN u g a b c d m 6 = 51 ∧ ((allowN u g a b c d m 2 = 0 ∧ allowN u g a b c d m 4 = 51) ∨ (allowN u g a b c d m 2 = 51 ∧ allowN u g a b c d m 4 = 0) ∨ (allowN u g a b c d m 2 = 51 ∧ allowN u g a b c d m 4 = 51))) := by
  by_cases hr : (rightB u g && permB a b c d m) = true
  · have h2 : allowN u g a b c d m 2 = if decide (bitsN u g a b c d m / 2 % 2 = 1) then 0 else 51 := by unfold allowN; rw [hr]; rfl
    have h4 : allowN u g a b c d m 4 = if decide (bitsN u g a b c d m / 4 % 2 = 1) then 0 else 51 := by unfold allowN; rw [hr]; rfl
    have h6 : allowN u g a b c d m 6 = if decide (bitsN u g a b c d m / 2 % 2 = 1 ∧ bitsN u g a b c d m / 4 % 2 = 1) then 0 else 51 := by unfold allowN; rw [hr]; rfl
    have hu : u = 0 → bitsN u g a b c d m = 7 := by
      intro e
      unfold bitsN
      rw [hr]
      simp [placeN, digN, e]
    rw [h2, h4, h6]
    generalize bitsN u g a b c d m = n at *
    by_cases c2 : n / 2 % 2 = 1 <;> by_cases c4 : n / 4 % 2 = 1
    · simp [c2, c4]
    · refine .inr ⟨fun e => ?_, ?_⟩
      · have := hu e; omega
      · simp [c2, c4]
    · refine .inr ⟨fun e => ?_, ?_⟩
      · have := hu e; omega
      · simp [c2, c4]
    · refine .inr ⟨fun e => ?_, ?_⟩
      · have := hu e; omega
      · simp [c2, c4]
  · refine .inl (.inl ?_)
    have : ∀ x, allowN u g a b c d m x = 50 := fun x => by unfold allowN; rw [Bool.eq_false_iff.2 hr]; rfl
    exact ⟨this 2, this 4, this 6⟩

set_option maxRecDepth 100000 in
set_option maxHeartbeats 1000000 in
theorem both_walk (u g a b c d m : Int) (w : World) : Calls Try.prog 7 #[.agg #[.int .i64 u, .int .i64 g], .agg #[.int .i64 a, .int .i64 b, .int .i64 c, .int .i64 d, .int .i64 m]] w fun e w' => e = .returned (.bool true) ∧ Below w.heap.size w w' := by
  have key : ∃ A2 A4 A6 : Int, ∃ bu : Bool, allowN u g a b c d m 2 = A2 ∧ allowN u g a b c d m 4 = A4 ∧ allowN u g a b c d m 6 = A6 ∧ (u != 0) = bu ∧
      ((A2 = 50 ∧ A4 = 50 ∧ A6 = 50 ∧ bu = true) ∨ (A2 = 50 ∧ A4 = 50 ∧ A6 = 50 ∧ bu = false) ∨ (A2 = 0 ∧ A4 = 0 ∧ A6 = 0 ∧ bu = true) ∨ (A2 = 0 ∧ A4 = 0 ∧ A6 = 0 ∧ bu = false) ∨
        (A2 = 0 ∧ A4 = 51 ∧ A6 = 51 ∧ bu = true) ∨ (A2 = 51 ∧ A4 = 0 ∧ A6 = 51 ∧ bu = true) ∨ (A2 = 51 ∧ A4 = 51 ∧ A6 = 51 ∧ bu = true)) := by
    refine ⟨_, _, _, _, rfl, rfl, rfl, rfl, ?_⟩
    rcases allow_three u g a b c d m with (⟨h2, h4, h6⟩ | ⟨h2, h4, h6⟩) | ⟨hu, h6, (⟨h2, h4⟩ | ⟨h2, h4⟩ | ⟨h2, h4⟩)⟩
    · rw [h2, h4, h6]; by_cases c : u = 0 <;> simp [c]
    · rw [h2, h4, h6]; by_cases c : u = 0 <;> simp [c]
    · rw [h2, h4, h6]; simp [hu]
    · rw [h2, h4, h6]; simp [hu]
    · rw [h2, h4, h6]; simp [hu]
  obtain ⟨A2, A4, A6, bu, h2, h4, h6, hu, key⟩ := key
  have E2 := Lib.hid h2; have E4 := Lib.hid h4; have E6 := Lib.hid h6; clear h2 h4 h6
  rcases key with ⟨rfl, rfl, rfl, rfl⟩ | ⟨rfl, rfl, rfl, rfl⟩ | ⟨rfl, rfl, rfl, rfl⟩ | ⟨rfl, rfl, rfl, rfl⟩ | ⟨rfl, rfl, rfl, rfl⟩ | ⟨rfl, rfl, rfl, rfl⟩ | ⟨rfl, rfl, rfl, rfl⟩
  all_goals
    have bC := (BoxA.new w 23 #[.int .i64 u, .int .i64 g]).alloc (.cells #[.int .i64 a, .int .i64 b, .int .i64 c, .int .i64 d, .int .i64 m] 25)
    have bP := BoxA.new (w.alloc (.cells #[.int .i64 u, .int .i64 g] 23)) 25 #[.int .i64 a, .int .i64 b, .int .i64 c, .int .i64 d, .int .i64 m]
    simp only [World.size_alloc] at bP
    have HB0 := Lib.hid (((Below.refl w.heap.size w).alloc (by first | exact Nat.le_refl _ | (simp; done) | (simp; omega)) (.cells #[.int .i64 u, .int .i64 g] 23)).alloc (by first | exact Nat.le_refl _ | (simp; done) | (simp; omega)) (.cells #[.int .i64 a, .int .i64 b, .int .i64 c, .int .i64 d, .int .i64 m] 25))
    have BC0 := Lib.hid bC; have BP0 := Lib.hid bP; clear bC bP
    go_enter Try.func7, Try.ntmps7
    go_wp2_with fail
    refine (shown5_any _).mono ?_
    rintro e w1 ⟨rfl, hB⟩
    have bC := BC0.out.below' hB; have bP := BP0.out.below' hB
    have HB1 := Lib.hid (HB0.out.trans (hB.mono HB0.out.size))
    clear hB BC0 BP0
    have c0 := bC.at 0 rfl; have c1 := bC.at 1 rfl; have p0 := bP.at 0 rfl; have p1 := bP.at 1 rfl; have p2 := bP.at 2 rfl; have p3 := bP.at 3 rfl; have p4 := bP.at 4 rfl
    have BC1 := Lib.hid bC; have BP1 := Lib.hid bP; clear bC bP
    go_wp2_with fail
    refine (allowed_any u g a b c d m 2 _).mono ?_
    rintro e w2 ⟨rfl, hB⟩
    rw [E2.out]
    have bC := BC1.out.below' hB; have bP := BP1.out.below' hB
    have HB2 := Lib.hid (HB1.out.trans (hB.mono HB1.out.size))
    clear hB c0 c1 p0 p1 p2 p3 p4 BC1 BP1
    have c0 := bC.at 0 rfl; have c1 := bC.at 1 rfl; have p0 := bP.at 0 rfl; have p1 := bP.at 1 rfl; have p2 := bP.at 2 rfl; have p3 := bP.at 3 rfl; have p4 := bP.at 4 rfl
    have BC2 := Lib.hid bC; have BP2 := Lib.hid bP; clear bC bP
    go_wp2_with fail
    refine (allowed_any u g a b c d m 4 _).mono ?_
    rintro e w3 ⟨rfl, hB⟩
    rw [E4.out]
    have bC := BC2.out.below' hB; have bP := BP2.out.below' hB
    have HB3 := Lib.hid (HB2.out.trans (hB.mono HB2.out.size))
    clear hB c0 c1 p0 p1 p2 p3 p4 BC2 BP2
    have c0 := bC.at 0 rfl; have c1 := bC.at 1 rfl; have p0 := bP.at 0 rfl; have p1 := bP.at 1 rfl; have p2 := bP.at 2 rfl; have p3 := bP.at 3 rfl; have p4 := bP.at 4 rfl
    have BC3 := Lib.hid bC; have BP3 := Lib.hid bP; clear bC bP
    go_wp2_with fail
    refine (allowed_any u g a b c d m 6 _).mono ?_
    rintro e w4 ⟨rfl, hB⟩
    rw [E6.out]
    have bC := BC3.out.below' hB; have bP := BP3.out.below' hB
    have HB4 := Lib.hid (HB3.out.trans (hB.mono HB3.out.size))
    clear hB c0 c1 p0 p1 p2 p3 p4 BC3 BP3
    have c0 := bC.at 0 rfl; have c1 := bC.at 1 rfl; have p0 := bP.at 0 rfl; have p1 := bP.at 1 rfl; have p2 := bP.at 2 rfl; have p3 := bP.at 3 rfl; have p4 := bP.at 4 rfl
    have BC4 := Lib.hid bC; have BP4 := Lib.hid bP; clear bC bP
    go_wp2
    go_ret
    exact ⟨rfl, HB4.out⟩

set_option maxRecDepth 100000 in
theorem credBoth_lifted (os : Os) (started : os.Started) (H : Type) (enc : TypeId × Value → H) :
    ReturnsInHanded {} Try.checked os 7 .any (Rows.credBothSpec.pre6 enc Try.prog Try.f7 Rows.credBothRow.domain false) (Rows.credBothSpec.post enc Try.prog Try.f7 false true false false) := by
  refine returnsInHanded_of_change (C := Try.checked) own started (by kernel_rfl) Try.func7
    (ChangeSpec.witness6 (enc := enc) (C := Try.checked) false ⟨#[], #[.agg #[.int .i64 0, .int .i64 0], .agg #[.int .i64 0, .int .i64 0, .int .i64 0, .int .i64 0, .int .i64 0]], []⟩ 8 (by kernel_rfl) (by kernel_rfl) (by kernel_rfl) (by kernel_rfl)) ?_
  intro W base args ds gs before hval0 hW _ _
  have hval : ∀ (j : Nat) t v, Try.f7.params[j]? = some t → args[j]? = some v → Value.okWide Try.prog W .any base t v := hval0
  have hW' := hW
  obtain ⟨p, q, hA0, hV, rfl, hfz, hnd⟩ := hW
  have hA : DataW.TrodAll enc Try.prog W 0 (fun _ => true) true Try.f7.params.toList args.toList ds p := hA0
  rw [Try.params7] at hA hval
  obtain ⟨v0, vs0, d0, ds0, p0, q0, hargs, rfl, rfl, h0, r0⟩ := trodAll_cons hA
  obtain ⟨v1, vs1, d1, ds1, p1, q1, rfl, rfl, rfl, h1, r1⟩ := trodAll_cons r0
  obtain ⟨rfl, rfl, rfl⟩ := trodAll_nil r1
  obtain rfl : args = #[v0, v1] := by cases args; simp_all
  obtain ⟨x0, x1, rfl⟩ := open_cred (hval 0 23 v0 rfl rfl) h0
  obtain ⟨x2, x3, x4, x5, x6, rfl⟩ := open_perm (hval 1 25 v1 rfl rfl) h1
  refine (both_walk x0 x1 x2 x3 x4 x5 x6 W).mono fun e W' ⟨he, bel⟩ => ⟨_, he, ?_⟩
  exact law_post laidOut (of_decide_eq_true (by kernel_rfl)) rfl Try.underlying4 rfl hW' (fun ds' e => by subst e; rfl) bel

theorem credBoth_holds : Rows.CredBothSaid :=
  OpenClaim.holds_of_wide 7 Try.f7 rfl rfl rfl rfl rfl rfl rfl ⟨rfl, rfl, rfl, rfl, rfl⟩ rfl rfl rfl rfl rfl (by kernel_rfl) Try.func7 (by kernel_rfl)
    (of_decide_eq_true (by kernel_rfl)) (by unfold Func.isWrapper; rw [if_neg (by decide +kernel)]; exact ⟨rfl, rfl⟩)
    (fun os started H enc _ => credBoth_lifted os started H enc)

#print axioms credBoth_holds
end Go.Proofs.Ytpankbmlidnoaaa
