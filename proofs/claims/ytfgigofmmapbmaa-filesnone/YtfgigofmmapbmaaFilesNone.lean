/- FilesNone: for every act the law answers true: a nil Files has nothing. No conditions. -/
import Derived.Test.YtfgigofmmapbmaaFiNil
import Derived.Test.YtfgigofmmapbmaaFiAll
import Derived.Test.YtfgigofmmapbmaaFiActs
namespace Go.Proofs.Ytfgigofmmapbmaa
open Go.RowKit Go.ChangeShapes Go.WideShapes Go.ChangeAt

set_option maxRecDepth 100000 in
set_option maxHeartbeats 4000000 in
theorem none_walk (d P f k t : Int) (w : World) :
    Calls Try.prog 4 #[.agg #[.int .i64 d, .int .i64 P, .int .i64 f, .int .i64 k, .int .i64 t]] w fun e w' => e = .returned (.bool true) ∧ Below w.heap.size w w' := by
  have S := shown9 works9 fi_new9 (w.alloc (.cells #[.int .i64 d, .int .i64 P, .int .i64 f, .int .i64 k, .int .i64 t] 34))
  have HX := Lib.hid (BoxA.new w 34 #[.int .i64 d, .int .i64 P, .int .i64 f, .int .i64 k, .int .i64 t])
  have HB := Lib.hid ((Below.refl w.heap.size w).alloc (Nat.le_refl _) (.cells #[.int .i64 d, .int .i64 P, .int .i64 f, .int .i64 k, .int .i64 t] 34))
  go_enter Try.func4, Try.ntmps4
  go_wp2_with (first
    | (go_at_call 10; refine S.mono ?_; clear S; rintro e w0 ⟨rfl, hB⟩; have X1 := Lib.hid (HX.out.below' hB); have c1 := X1.out.at 1 (v := .int .i64 P) rfl; have c3 := X1.out.at 3 (v := .int .i64 k) rfl; have c4 := X1.out.at 4 (v := .int .i64 t) rfl; have B1 := Lib.hid (HB.out.trans (hB.mono HB.out.size)); clear hB)
    | (go_at_call 17; refine (open_nil P k t _).mono ?_; rintro e w1 ⟨rfl, hB⟩; have X2 := Lib.hid (X1.out.below' hB); have e1 := X2.out.at 1 (v := .int .i64 P) rfl; have e2 := X2.out.at 2 (v := .int .i64 f) rfl; have B2 := Lib.hid (B1.out.trans (hB.mono B1.out.size)); clear hB c1 c3 c4)
    | (go_at_call 18; refine (dup_nil _ _ _).mono ?_; rintro e w2 ⟨rfl, rfl⟩)
    | (go_at_call 19; refine (close_nil P f _).mono ?_; rintro e w3 ⟨rfl, hB⟩; have X3 := Lib.hid ((X2.out.below' hB).alloc (.cells #[.int .i64 0, .int .i64 0] 32)); have f1 := X3.out.at 1 (v := .int .i64 P) rfl; have f2 := X3.out.at 2 (v := .int .i64 f) rfl; have hs2 := B2.out.size; have B3 := Lib.hid ((B2.out.trans (hB.mono B2.out.size)).alloc (Nat.le_trans B2.out.size hB.size) (.cells #[.int .i64 0, .int .i64 0] 32)); clear hB e1 e2 hs2)
    | (go_at_call 15; refine (get_nil9 P f _).mono ?_; rintro e w4 ⟨rfl, hB⟩; have X4 := Lib.hid ((X3.out.below' hB).alloc (.cells #[.int .i64 0, .int .i64 0] 32)); have g1 := X4.out.at 1 (v := .int .i64 P) rfl; have g2 := X4.out.at 2 (v := .int .i64 f) rfl; have B4 := Lib.hid ((B3.out.trans (hB.mono B3.out.size)).alloc (Nat.le_trans B3.out.size hB.size) (.cells #[.int .i64 0, .int .i64 0] 32)); clear hB f1 f2)
    | (go_at_call 20; refine (fork_nil9 P f _).mono ?_; rintro e w5 ⟨rfl, hB⟩; have X5 := Lib.hid (X4.out.below' hB); have h1 := X5.out.at 1 (v := .int .i64 P) rfl; have B5 := Lib.hid (B4.out.trans (hB.mono B4.out.size)); clear hB g1 g2)
    | (go_at_call 21; refine (drop_nil9 _ _).mono ?_; rintro e w6 ⟨rfl, rfl⟩)
    | (go_at_call 13; refine (count_nil9 _).mono ?_; rintro e w7 ⟨rfl, rfl⟩))
  go_ret
  exact ⟨rfl, B5.out⟩

set_option maxRecDepth 100000 in
theorem none_lifted (os : Os) (started : os.Started) (H : Type) (enc : TypeId × Value → H) :
    ReturnsInHanded {} Try.checked os 4 .any (Rows.filesNoneSpec.pre6 enc Try.prog Try.f4 Rows.filesNoneRow.domain false) (Rows.filesNoneSpec.post enc Try.prog Try.f4 false true false false) := by
  refine returnsInHanded_of_change (C := Try.checked) own started (by kernel_rfl) Try.func4
    (ChangeSpec.witness6 (enc := enc) (C := Try.checked) false ⟨#[], #[.agg #[.int .i64 0, .int .i64 0, .int .i64 0, .int .i64 0, .int .i64 0]], []⟩ 8 (by kernel_rfl) (by kernel_rfl) (by kernel_rfl) (by kernel_rfl)) ?_
  intro W base args ds gs before hval0 hW _ _
  have hval : ∀ (j : Nat) t v, Try.f4.params[j]? = some t → args[j]? = some v → Value.okWide Try.prog W .any base t v := hval0
  have hW' := hW
  obtain ⟨p, q, hA0, hV, rfl, hfz, hnd⟩ := hW
  have hA : DataW.TrodAll enc Try.prog W 0 (fun _ => true) true Try.f4.params.toList args.toList ds p := hA0
  rw [Try.params4] at hA hval
  obtain ⟨v0, vs0, d0, ds0, p0, q0, hargs, rfl, rfl, h0, r0⟩ := trodAll_cons hA
  obtain ⟨rfl, rfl, rfl⟩ := trodAll_nil r0
  obtain rfl : args = #[v0] := by cases args; simp_all
  obtain ⟨e0, P0, F0, k0, t0, rfl⟩ := open_act (hval 0 34 v0 rfl rfl) h0
  have hwalk : Calls Try.prog 4 #[.agg #[.int .i64 e0, .int .i64 P0, .int .i64 F0, .int .i64 k0, .int .i64 t0]] W fun e w' => e = .returned (.bool true) ∧ Below W.heap.size W w' := none_walk e0 P0 F0 k0 t0 W 
  refine hwalk.mono fun e W' ⟨he, bel⟩ => ⟨_, he, ?_⟩
  exact law_post laidOut (of_decide_eq_true (by kernel_rfl)) rfl Try.underlying4 rfl hW' (fun ds' e => by subst e; rfl) bel

theorem filesNone_holds : Rows.FilesNoneSaid :=
  OpenClaim.holds_of_wide 4 Try.f4 rfl rfl rfl rfl rfl rfl rfl ⟨rfl, rfl, rfl, rfl, rfl⟩ rfl rfl rfl rfl rfl (by kernel_rfl) Try.func4 (by kernel_rfl)
    (of_decide_eq_true (by kernel_rfl)) (by unfold Func.isWrapper; rw [if_neg (by decide +kernel)]; exact ⟨rfl, rfl⟩)
    (fun os started H enc _ => none_lifted os started H enc)

#print axioms filesNone_holds
end Go.Proofs.Ytfgigofmmapbmaa
