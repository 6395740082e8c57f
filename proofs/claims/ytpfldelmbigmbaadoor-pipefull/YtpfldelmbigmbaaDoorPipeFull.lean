/- PipeFull, the tied card: for all two texts the law answers true: a pipe takes thirty-two bytes, and no more. Its condition, which the card ties to the program's text: package pipe's four error variables hold what their initialisers lay. -/
import Derived.Test.YtpfldelmbigmbaaDoorPipeFullOf
import Derived.Test.YtpfldelmbigmbaaDoorPiAll
import Derived.Test.YtpfldelmbigmbaaDoorPiLaid
import Derived.Test.YtpfldelmbigmbaaDoorPiActs
import Derived.Test.YtpfldelmbigmbaaDoorLaw
import Derived.Test.YtpfldelmbigmbaaDoorArgs
import Derived.Test.YtpfldelmbigmbaaDoorCards
import Derived.Test.YtpfldelmbigmbaaDoorTie
import Derived.Lay
import Derived.ChangeMaps5
import Derived.MakeChecks
import Derived.SevenTiedAt
namespace Go.Proofs.YtpfldelmbigmbaaDoor
open Go.RowKit Go.ChangeShapes Go.WideShapes Go.ChangeAt Go.ChangeMaps

theorem full_walk (s t : ByteArray) (W : World) {A : Fin 4 → Addr} (hs : Sen W.heap.size A W) (hs1 : s.size ≤ maxLen) (ht : t.size ≤ maxLen) :
    Calls Tryd.prog 8 #[.string s, .string t] W fun e w' => e = .returned (.bool true) ∧ Below W.heap.size W w' :=
  full_of works10 W (newP hs) s t hs1 ht

set_option maxRecDepth 100000 in
theorem full_lifted (os : Os) (started : os.Started) (H : Type) (enc : TypeId × Value → H) :
    ReturnsInHanded {} Tryd.checked os 8 .any (fun w args => (Rows.pipeFullSpec.pre enc Tryd.prog Tryd.f8 [] false w args ∧ laidMetH Tryd.prog Rows.pipeFullRow.laid w) ∧ sizedMet enc Tryd.prog Tryd.f8 (OpenSpec.ofChange Rows.pipeFullSpec) false w args)
      (Rows.pipeFullSpec.post enc Tryd.prog Tryd.f8 false true false false) := by
  refine returnsInHanded_of_change_and (C := Tryd.checked) (X := fun w _ => laidMetH Tryd.prog Rows.pipeFullRow.laid w) (fun _ _ _ hh h => h.of_heap hh) own started (by kernel_rfl) Tryd.func8
    (ChangeSpec.witness_shaped (enc := enc) (C := Tryd.checked) (os := os) (X := fun w _ => laidMetH Tryd.prog Rows.pipeFullRow.laid w) false (World.laidAll Tryd.prog os Rows.pipeFullRow.laid) #[.string ⟨#[]⟩, .string ⟨#[]⟩] 8 (World.laidAll_os _ _ _)
      (World.shaped_of_ZipB (by kernel_rfl) (by kernel_rfl)) (by kernel_rfl) (by kernel_rfl) (by kernel_rfl)
      (by rw [MakeChecks.laidMetH_plain _ _ _ (by kernel_rfl)]; exact laidMet_laidAll _ (by kernel_rfl) (by kernel_rfl))) ?_
  intro W base args ds gs before hval0 hW _ _ hL _
  have hL' : laidMet Tryd.prog Rows.pipeFullRow.laid W := by rw [MakeChecks.laidMetH_plain _ _ _ (by kernel_rfl)] at hL; exact hL
  obtain ⟨A, hs⟩ := sen_of_laid hL'
  have hval : ∀ (j : Nat) t v, Tryd.f8.params[j]? = some t → args[j]? = some v → Value.okWide Tryd.prog W .any base t v := hval0
  have hW' := hW
  obtain ⟨p, q, hA0, hV, rfl, hfz, hnd⟩ := hW
  have hA : DataW.TrodAll enc Tryd.prog W 0 (fun _ => true) true Tryd.f8.params.toList args.toList ds p := hA0
  rw [Tryd.params8] at hA hval
  obtain ⟨v0, vs0, d0, ds0, p0, q0, hargs, rfl, rfl, h0, r0⟩ := trodAll_cons hA
  obtain ⟨v1, vs1, d1, ds1, p1, q1, rfl, rfl, rfl, h1, r1⟩ := trodAll_cons r0
  obtain ⟨rfl, rfl, rfl⟩ := trodAll_nil r1
  obtain rfl : args = #[v0, v1] := by cases args; simp_all
  obtain ⟨s0, rfl, -, -, hs0⟩ := open_string Tryd.underlying9 (hval 0 9 v0 rfl rfl) h0
  obtain ⟨s1, rfl, -, -, hs1⟩ := open_string Tryd.underlying9 (hval 1 9 v1 rfl rfl) h1
  have hwalk : Calls Tryd.prog 8 #[.string s0, .string s1] W fun e w' => e = .returned (.bool true) ∧ Below W.heap.size W w' := full_walk s0 s1 W hs hs0 hs1
  refine hwalk.mono fun e W' ⟨he, bel⟩ => ⟨_, he, ?_⟩
  exact law_post laidOut (of_decide_eq_true (by kernel_rfl)) rfl Tryd.underlying4 rfl hW' (fun ds' e => by subst e; rfl) bel

theorem pipeFull_said : Rows.PipeFullSaid :=
  OpenClaim.holds_of_wide 8 Tryd.f8 rfl rfl rfl rfl rfl rfl rfl ⟨rfl, rfl, rfl, rfl, rfl⟩ rfl rfl rfl rfl rfl (by kernel_rfl) Tryd.func8 (by kernel_rfl)
    (of_decide_eq_true (by kernel_rfl)) (by unfold Func.isWrapper; rw [if_neg (by decide +kernel)]; exact ⟨rfl, rfl⟩)
    (fun os started H enc _ => full_lifted os started H enc)

theorem pipeFull_holds : Rows.PipeFullCardSaid :=
  Claim7.holds_tied_plain_at .later [] _ _ _ _ pipeFull_said (fun _ h => by cases h) (by kernel_rfl) (fun _ h => by cases h) pipeFull_row_tie rfl ⟨rfl, rfl⟩ (by kernel_rfl) rfl
    (fun f fn hf hfn => by
      obtain rfl : f = 8 := Option.some.inj ((show Tryd.prog.funcNamed "taffrail/taffraillaw10.PipeFull" = some 8 by kernel_rfl).symm.trans hf) |>.symm
      obtain rfl : fn = Tryd.f8 := (Option.some.inj (Tryd.func8.symm.trans hfn)).symm
      exact ⟨by kernel_rfl, fun j t ht => by
        have hm : t ∈ Tryd.f8.params.toList := by simpa using Array.mem_of_getElem? ht
        have hall : (Tryd.f8.params.toList.all fun u => !Tryd.prog.wantsStandIn u) = true := by kernel_rfl
        exact (show Tryd.prog.wantsStandIn t = false by simpa using List.all_eq_true.1 hall t hm)⟩)
    (by kernel_rfl)

#print axioms pipeFull_holds
end Go.Proofs.YtpfldelmbigmbaaDoor
