/- RingNone: for every act the law answers true: a nil ring has nothing. No conditions. -/
import Derived.Test.YtnkoahcneocgiaaRiShown
import Derived.Test.YtnkoahcneocgiaaLaw
import Derived.Test.YtnkoahcneocgiaaArgs
import Derived.Test.YtnkoahcneocgiaaCells
namespace Go.Proofs.Ytnkoahcneocgiaa
open Go.RowKit Go.ChangeShapes Go.WideShapes Go.ChangeAt

set_option maxRecDepth 100000 in
set_option maxHeartbeats 2000000 in
theorem none_walk (y : Bool) (s : ByteArray) (n : Int) (w : World) :
    Calls Try.prog 5 #[.agg #[.bool y, .string s, .int .i64 n]] w fun e w' => e = .returned (.bool true) ∧ Below w.heap.size w w' := by
  have S := shown8 (w.alloc (.cells #[.bool y, .string s, .int .i64 n] 29))
  have bX := BoxA.new w 29 #[.bool y, .string s, .int .i64 n]
  have HX := Lib.hid bX
  have HB := Lib.hid ((Below.refl w.heap.size w).alloc (Nat.le_refl _) (.cells #[.bool y, .string s, .int .i64 n] 29))
  clear bX
  go_enter Try.func5, Try.ntmps5
  go_wp2_with (first
    | (go_at_call 9; refine S.mono ?_; clear S; rintro e w0 ⟨rfl, hB⟩; have X1 := Lib.hid (HX.out.below' hB); have c1 := (HX.out.below' hB).at 1 (v := .string s) rfl; have B1 := Lib.hid (HB.out.trans (hB.mono HB.out.size)); clear hB)
    | (go_at_call 11; refine (put_nil s _).mono ?_; rintro e w1 ⟨rfl, hB⟩; have X2 := Lib.hid (X1.out.below' hB); have c2 := (X1.out.below' hB).at 2 (v := .int .i64 n) rfl; have B2 := Lib.hid (B1.out.trans (hB.mono B1.out.size)); clear hB)
    | (go_at_call 14; refine (get_nil n _).mono ?_; rintro e w2 ⟨rfl, hB⟩; have B3 := Lib.hid (B2.out.trans (hB.mono B2.out.size)); clear hB)
    | (go_at_call 17; refine (len_nil _).mono ?_; rintro e w3 ⟨rfl, rfl⟩)
    | (go_at_call 18; refine (room_nil _).mono ?_; rintro e w4 ⟨rfl, rfl⟩)
    | (go_at_call 16; refine (bytes_nil _).mono ?_; rintro e w5 ⟨rfl, rfl⟩))
  go_ret
  exact ⟨rfl, B3.out⟩

set_option maxRecDepth 100000 in
theorem none_lifted (os : Os) (started : os.Started) (H : Type) (enc : TypeId × Value → H) :
    ReturnsInHanded {} Try.checked os 5 .any (Rows.ringNoneSpec.pre6 enc Try.prog Try.f5 Rows.ringNoneRow.domain false) (Rows.ringNoneSpec.post enc Try.prog Try.f5 false true false false) := by
  refine returnsInHanded_of_change (C := Try.checked) own started (by kernel_rfl) Try.func5
    (ChangeSpec.witness6 (enc := enc) (C := Try.checked) false ⟨#[], #[.agg #[.bool false, .string ⟨#[]⟩, .int .i64 0]], []⟩ 8 (by kernel_rfl) (by kernel_rfl) (by kernel_rfl) (by kernel_rfl)) ?_
  intro W base args ds gs before hval0 hW _ _
  have hval : ∀ (j : Nat) t v, Try.f5.params[j]? = some t → args[j]? = some v → Value.okWide Try.prog W .any base t v := hval0
  have hW' := hW
  obtain ⟨p, q, hA0, hV, rfl, hfz, hnd⟩ := hW
  have hA : DataW.TrodAll enc Try.prog W 0 (fun _ => true) true Try.f5.params.toList args.toList ds p := hA0
  rw [Try.params5] at hA hval
  obtain ⟨v0, vs0, d0, ds0, p0, q0, hargs, rfl, rfl, h0, r0⟩ := trodAll_cons hA
  obtain ⟨rfl, rfl, rfl⟩ := trodAll_nil r0
  obtain rfl : args = #[v0] := by cases args; simp_all
  obtain ⟨cs, rfl, hlen, hf⟩ := open_struct Try.underlying29 (by kernel_rfl) (by kernel_rfl) (hval 0 29 v0 rfl rfl) h0
  obtain ⟨u0, e0, F0⟩ := hf 0 _ rfl
  obtain ⟨u1, e1, F1⟩ := hf 1 _ rfl
  obtain ⟨u2, e2, F2⟩ := hf 2 _ rfl
  obtain ⟨y, rfl⟩ := F0.bool Try.underlying4
  obtain ⟨s, rfl, _⟩ := F1.string Try.underlying9
  obtain ⟨n, rfl, _⟩ := F2.int Try.underlying3
  obtain rfl : cs = [.bool y, .string s, .int .i64 n] := by
    apply List.ext_getElem?
    intro i
    match i with
    | 0 => exact e0
    | 1 => exact e1
    | 2 => exact e2
    | i + 3 => rw [List.getElem?_eq_none (by rw [hlen]; show 3 ≤ i + 3; omega)]; rfl
  refine (none_walk y s n W).mono fun e W' ⟨he, bel⟩ => ⟨_, he, ?_⟩
  exact law_post laidOut (of_decide_eq_true (by kernel_rfl)) rfl Try.underlying4 rfl hW' (fun ds' e => by subst e; rfl) bel

theorem ringNone_holds : Rows.RingNoneSaid :=
  OpenClaim.holds_of_wide 5 Try.f5 rfl rfl rfl rfl rfl rfl rfl ⟨rfl, rfl, rfl, rfl, rfl⟩ rfl rfl rfl rfl rfl (by kernel_rfl) Try.func5 (by kernel_rfl)
    (of_decide_eq_true (by kernel_rfl)) (by unfold Func.isWrapper; rw [if_neg (by decide +kernel)]; exact ⟨rfl, rfl⟩)
    (fun os started H enc _ => none_lifted os started H enc)

#print axioms ringNone_holds
end Go.Proofs.Ytnkoahcneocgiaa
