/- FilesDups: for every thing and every number the law answers true: a duplicate is of the same, and both must be closed. No conditions. -/
import Derived.Test.YtfgigofmmapbmaaFilesDupsOf
import Derived.Test.YtfgigofmmapbmaaFiAll
namespace Go.Proofs.Ytfgigofmmapbmaa
open Go.RowKit Go.ChangeShapes Go.WideShapes Go.ChangeAt

theorem dups_walk (k t x : Int) (w : World) :
    Calls Try.prog 9 #[.agg #[.int .i64 k, .int .i64 t], .int .i64 x] w fun e w' => e = .returned (.bool true) ∧ Below w.heap.size w w' := dups_of works9 fi_new9 k t x w

set_option maxRecDepth 100000 in
theorem dups_lifted (os : Os) (started : os.Started) (H : Type) (enc : TypeId × Value → H) :
    ReturnsInHanded {} Try.checked os 9 .any (Rows.filesDupsSpec.pre6 enc Try.prog Try.f9 Rows.filesDupsRow.domain false) (Rows.filesDupsSpec.post enc Try.prog Try.f9 false true false false) := by
  refine returnsInHanded_of_change (C := Try.checked) own started (by kernel_rfl) Try.func9
    (ChangeSpec.witness6 (enc := enc) (C := Try.checked) false ⟨#[], #[.agg #[.int .i64 0, .int .i64 0], .int .i64 0], []⟩ 8 (by kernel_rfl) (by kernel_rfl) (by kernel_rfl) (by kernel_rfl)) ?_
  intro W base args ds gs before hval0 hW _ _
  have hval : ∀ (j : Nat) t v, Try.f9.params[j]? = some t → args[j]? = some v → Value.okWide Try.prog W .any base t v := hval0
  have hW' := hW
  obtain ⟨p, q, hA0, hV, rfl, hfz, hnd⟩ := hW
  have hA : DataW.TrodAll enc Try.prog W 0 (fun _ => true) true Try.f9.params.toList args.toList ds p := hA0
  rw [Try.params9] at hA hval
  obtain ⟨v0, vs0, d0, ds0, p0, q0, hargs, rfl, rfl, h0, r0⟩ := trodAll_cons hA
  obtain ⟨v1, vs1, d1, ds1, p1, q1, rfl, rfl, rfl, h1, r1⟩ := trodAll_cons r0
  obtain ⟨rfl, rfl, rfl⟩ := trodAll_nil r1
  obtain rfl : args = #[v0, v1] := by cases args; simp_all
  obtain ⟨k0, t0, rfl⟩ := open_opened (hval 0 32 v0 rfl rfl) h0
  obtain ⟨x1, rfl, -, -, wf1⟩ := open_int Try.underlying3 (hval 1 3 v1 rfl rfl) h1
  have hwalk : Calls Try.prog 9 #[.agg #[.int .i64 k0, .int .i64 t0], .int .i64 x1] W fun e w' => e = .returned (.bool true) ∧ Below W.heap.size W w' := dups_walk k0 t0 x1 W 
  refine hwalk.mono fun e W' ⟨he, bel⟩ => ⟨_, he, ?_⟩
  exact law_post laidOut (of_decide_eq_true (by kernel_rfl)) rfl Try.underlying4 rfl hW' (fun ds' e => by subst e; rfl) bel

theorem filesDups_holds : Rows.FilesDupsSaid :=
  OpenClaim.holds_of_wide 9 Try.f9 rfl rfl rfl rfl rfl rfl rfl ⟨rfl, rfl, rfl, rfl, rfl⟩ rfl rfl rfl rfl rfl (by kernel_rfl) Try.func9 (by kernel_rfl)
    (of_decide_eq_true (by kernel_rfl)) (by unfold Func.isWrapper; rw [if_neg (by decide +kernel)]; exact ⟨rfl, rfl⟩)
    (fun os started H enc _ => dups_lifted os started H enc)

#print axioms filesDups_holds
end Go.Proofs.Ytfgigofmmapbmaa
