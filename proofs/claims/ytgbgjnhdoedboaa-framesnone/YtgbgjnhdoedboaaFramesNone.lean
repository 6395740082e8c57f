/- FramesNone: for every act the law answers true: a nil memory tells ErrNil, and has nothing. No conditions. -/
import Derived.Test.YtgbgjnhdoedboaaFramesMach
import Derived.Test.YtgbgjnhdoedboaaLaw
import Derived.Test.YtgbgjnhdoedboaaArgs
namespace Go.Proofs.Ytgbgjnhdoedboaa
open Go.RowKit Go.ChangeShapes Go.WideShapes Go.ChangeAt

set_option maxRecDepth 100000 in
set_option maxHeartbeats 1000000 in
theorem none_walk (d f a n : Int) (s : ByteArray) (w : World) :
    Calls Try.prog 4 #[.agg #[.int .i64 d, .int .i64 f, .int .i64 a, .int .i64 n, .string s]] w fun e w' => e = .returned (.bool true) ∧ Below w.heap.size w w' := by
  go_enter Try.func4, Try.ntmps4
  go_wp2_with fail
  refine (shown_any _).mono ?_
  rintro e w1 ⟨rfl, hB1⟩
  rw [World.size_alloc] at hB1
  have c1 : w1.cell? ⟨w.heap.size, 1, none⟩ = some (.int .i64 f) := (hB1.cell (p := ⟨w.heap.size, 1, none⟩) (by simp)).trans (by simp)
  have c2 : w1.cell? ⟨w.heap.size, 2, none⟩ = some (.int .i64 a) := (hB1.cell (p := ⟨w.heap.size, 2, none⟩) (by simp)).trans (by simp)
  have c3 : w1.cell? ⟨w.heap.size, 3, none⟩ = some (.int .i64 n) := (hB1.cell (p := ⟨w.heap.size, 3, none⟩) (by simp)).trans (by simp)
  have c4 : w1.cell? ⟨w.heap.size, 4, none⟩ = some (.string s) := (hB1.cell (p := ⟨w.heap.size, 4, none⟩) (by simp)).trans (by simp)
  have HB1 := Lib.hid hB1; clear hB1
  go_wp2_with fail
  refine (alloc_nil _).mono ?_
  rintro e w' ⟨rfl, rfl⟩
  go_wp2_with fail
  refine (read_nil _ _ _ _).mono ?_
  rintro e w' ⟨rfl, rfl⟩
  go_wp2_with fail
  refine (share_nil _ _).mono ?_
  rintro e w' ⟨rfl, rfl⟩
  go_wp2_with fail
  refine (free_nil _ _).mono ?_
  rintro e w' ⟨rfl, rfl⟩
  go_wp2_with fail
  refine (write_nil _ _ _ _).mono ?_
  rintro e w' ⟨rfl, rfl⟩
  go_wp2_with fail
  refine (refs_nil _ _).mono ?_
  rintro e w' ⟨rfl, rfl⟩
  go_wp2_with fail
  refine (left_nil _).mono ?_
  rintro e w2 ⟨rfl, hB2⟩
  have HB2 := Lib.hid hB2; clear hB2
  go_wp2_with fail
  refine (total_nil _).mono ?_
  rintro e w' ⟨rfl, rfl⟩
  go_wp2
  go_ret
  have hA : Below w.heap.size w (w.alloc (.cells #[.int .i64 d, .int .i64 f, .int .i64 a, .int .i64 n, .string s] 33)) := (Below.refl _ _).alloc (Nat.le_refl _) _
  exact ⟨rfl, (hA.trans (HB1.out.mono (by omega))).trans (HB2.out.mono (by have := HB1.out.size; simp at this; omega))⟩

set_option maxRecDepth 100000 in
theorem none_lifted (os : Os) (started : os.Started) (H : Type) (enc : TypeId × Value → H) :
    ReturnsInHanded {} Try.checked os 4 .any (Rows.framesNoneSpec.pre6 enc Try.prog Try.f4 Rows.framesNoneRow.domain false) (Rows.framesNoneSpec.post enc Try.prog Try.f4 false true false false) := by
  refine returnsInHanded_of_change (C := Try.checked) own started (by kernel_rfl) Try.func4
    (ChangeSpec.witness6 (enc := enc) (C := Try.checked) false ⟨#[], #[.agg #[.int .i64 0, .int .i64 0, .int .i64 0, .int .i64 0, .string ⟨#[]⟩]], []⟩ 8 (by kernel_rfl) (by kernel_rfl) (by kernel_rfl) (by kernel_rfl)) ?_
  intro W base args ds gs before hval0 hW _ _
  have hval : ∀ (j : Nat) t v, Try.f4.params[j]? = some t → args[j]? = some v → Value.okWide Try.prog W .any base t v := hval0
  have hW' := hW
  obtain ⟨p, q, hA0, hV, rfl, hfz, hnd⟩ := hW
  have hA : DataW.TrodAll enc Try.prog W 0 (fun _ => true) true Try.f4.params.toList args.toList ds p := hA0
  rw [Try.params4] at hA hval
  obtain ⟨v0, vs0, d0, ds0, p0, q0, hargs, rfl, rfl, h0, r0⟩ := trodAll_cons hA
  obtain ⟨rfl, rfl, rfl⟩ := trodAll_nil r0
  obtain rfl : args = #[v0] := by cases args; simp_all
  obtain ⟨cs, rfl, hlen, hf⟩ := open_struct Try.underlying33 (by kernel_rfl) (by kernel_rfl) (hval 0 33 v0 rfl rfl) h0
  obtain ⟨u0, e0, F0⟩ := hf 0 _ rfl
  obtain ⟨u1, e1, F1⟩ := hf 1 _ rfl
  obtain ⟨u2, e2, F2⟩ := hf 2 _ rfl
  obtain ⟨u3, e3, F3⟩ := hf 3 _ rfl
  obtain ⟨u4, e4, F4⟩ := hf 4 _ rfl
  obtain ⟨a0, rfl, _⟩ := F0.int Try.underlying3
  obtain ⟨a1, rfl, _⟩ := F1.int Try.underlying3
  obtain ⟨a2, rfl, _⟩ := F2.int Try.underlying3
  obtain ⟨a3, rfl, _⟩ := F3.int Try.underlying3
  obtain ⟨s, rfl, _⟩ := F4.string Try.underlying9
  obtain rfl : cs = [.int .i64 a0, .int .i64 a1, .int .i64 a2, .int .i64 a3, .string s] := by
    apply List.ext_getElem?
    intro i
    match i with
    | 0 => exact e0
    | 1 => exact e1
    | 2 => exact e2
    | 3 => exact e3
    | 4 => exact e4
    | i + 5 => rw [List.getElem?_eq_none (by rw [hlen]; show 5 ≤ i + 5; omega)]; rfl
  refine (none_walk a0 a1 a2 a3 s W).mono fun e W' ⟨he, bel⟩ => ⟨_, he, ?_⟩
  exact law_post laidOut (of_decide_eq_true (by kernel_rfl)) rfl Try.underlying4 rfl hW' (fun ds' e => by subst e; rfl) bel

theorem framesNone_holds : Rows.FramesNoneSaid :=
  OpenClaim.holds_of_wide 4 Try.f4 rfl rfl rfl rfl rfl rfl rfl ⟨rfl, rfl, rfl, rfl, rfl⟩ rfl rfl rfl rfl rfl (by kernel_rfl) Try.func4 (by kernel_rfl)
    (of_decide_eq_true (by kernel_rfl)) (by unfold Func.isWrapper; rw [if_neg (by decide +kernel)]; exact ⟨rfl, rfl⟩)
    (fun os started H enc _ => none_lifted os started H enc)

#print axioms framesNone_holds
end Go.Proofs.Ytgbgjnhdoedboaa
