/- SlotsDo: for every list of acts the law answers true: what the acts tell, and the numbers behind each of them. No conditions. -/
import Derived.Test.YteannfenkmejjaaSlotsDoOf
import Derived.Test.YteannfenkmejjaaSlAll
import Derived.Test.YteannfenkmejjaaLaw
import Derived.Test.YteannfenkmejjaaArgs
namespace Go.Proofs.Yteannfenkmejjaa
open Go.RowKit Go.ChangeShapes Go.WideShapes Go.ChangeAt

theorem do_walk (a : Option Addr) (len cap : Nat) (w : World) (hA : ActsAt w a len) :
    Calls Try.prog 3 #[.slice a len cap] w fun e w' => e = .returned (.bool true) ∧ Below w.heap.size w w' := do_of works11I works11S w (new11I w) (new11S w) a len cap hA

set_option maxRecDepth 100000 in
theorem do_lifted (os : Os) (started : os.Started) (H : Type) (enc : TypeId × Value → H) :
    ReturnsInHanded {} Try.checked os 3 .any (Rows.slotsDoSpec.pre6 enc Try.prog Try.f3 Rows.slotsDoRow.domain false) (Rows.slotsDoSpec.post enc Try.prog Try.f3 false true false false) := by
  refine returnsInHanded_of_change (C := Try.checked) own started (by kernel_rfl) Try.func3
    (ChangeSpec.witness6 (enc := enc) (C := Try.checked) false ⟨#[], #[.slice none 0 0], []⟩ 8 (by kernel_rfl) (by kernel_rfl) (by kernel_rfl) (by kernel_rfl)) ?_
  intro W base args ds gs before hval0 hW _ _
  have hval : ∀ (j : Nat) t v, Try.f3.params[j]? = some t → args[j]? = some v → Value.okWide Try.prog W .any base t v := hval0
  have hW' := hW
  obtain ⟨p, q, hA0, hV, rfl, hfz, hnd⟩ := hW
  have hA : DataW.TrodAll enc Try.prog W 0 (fun _ => true) true Try.f3.params.toList args.toList ds p := hA0
  rw [Try.params3] at hA hval
  obtain ⟨v0, vs0, d0, ds0, p0, q0, hargs, rfl, rfl, h0, r0⟩ := trodAll_cons hA
  obtain ⟨rfl, rfl, rfl⟩ := trodAll_nil r0
  obtain rfl : args = #[v0] := by cases args; simp_all
  obtain ⟨a0, len0, cap0, rfl, hacts0⟩ := open_acts (hval 0 22 v0 rfl rfl) h0
  have hwalk : Calls Try.prog 3 #[.slice a0 len0 cap0] W fun e w' => e = .returned (.bool true) ∧ Below W.heap.size W w' := do_walk a0 len0 cap0 W hacts0
  refine hwalk.mono fun e W' ⟨he, bel⟩ => ⟨_, he, ?_⟩
  exact law_post laidOut (of_decide_eq_true (by kernel_rfl)) rfl Try.underlying4 rfl hW' (fun ds' e => by subst e; rfl) bel

theorem slotsDo_holds : Rows.SlotsDoSaid :=
  OpenClaim.holds_of_wide 3 Try.f3 rfl rfl rfl rfl rfl rfl rfl ⟨rfl, rfl, rfl, rfl, rfl⟩ rfl rfl rfl rfl rfl (by kernel_rfl) Try.func3 (by kernel_rfl)
    (of_decide_eq_true (by kernel_rfl)) (by unfold Func.isWrapper; rw [if_neg (by decide +kernel)]; exact ⟨rfl, rfl⟩)
    (fun os started H enc _ => do_lifted os started H enc)

#print axioms slotsDo_holds
end Go.Proofs.Yteannfenkmejjaa
