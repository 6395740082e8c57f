/- PtableWrong: for every act and every root the law answers true: of a nil memory, and of a root that is not in use, nothing is done. No conditions. -/
import Derived.Test.YtkcoeibbmfkjlaaPtShown
import Derived.Test.YtkcoeibbmfkjlaaPtActs
namespace Go.Proofs.Ytkcoeibbmfkjlaa
open Go.RowKit Go.ChangeShapes Go.WideShapes Go.ChangeAt

section
variable {w : World} {p g n : Nat} {R : Nat → Int} {B : Nat → List UInt8}
theorem unmap_nil (root page : Int) (w : World) : Calls Try.prog 18 #[.pointer none, .int .i64 root, .int .i64 page] w fun e w' => e = .returned (.tuple #[.int .i64 0, .int .i64 1]) ∧ Below w.heap.size w w' :=
  unmap_err (v0 := 0) (v1 := 0) (v2 := 0) (v3 := 0) (by omega) fun _ _ => seekMapped_err (by omega) fun _ _ => seek_nil _ _ _
theorem unmap_no (h : MemAt w p g n R B) (k page : Int) (hl : liveB n R k = false) : Calls Try.prog 18 #[.pointer (some ⟨p, 0, none⟩), .int .i64 k, .int .i64 page] w fun e w' => e = .returned (.tuple #[.int .i64 0, .int .i64 10]) ∧ Below w.heap.size w w' :=
  unmap_err (v0 := 0) (v1 := 0) (v2 := 0) (v3 := 0) (by omega) fun _ hW => seekMapped_err (by omega) fun _ hW' => seek_no ((h.below2 hW).below2 hW') _ _ hl
theorem map_nil (root page frame flags : Int) (w : World) : Calls Try.prog 14 #[.pointer none, .int .i64 root, .int .i64 page, .int .i64 frame, .int .i64 flags] w fun r w' => r = .returned (.int .i64 1) ∧ Below w.heap.size w w' :=
  map_err (v0 := 0) (v1 := 0) (v2 := 0) (v3 := 0) frame flags (by omega) fun _ _ => seek_nil _ _ _
theorem map_no (h : MemAt w p g n R B) (k page frame flags : Int) (hl : liveB n R k = false) : Calls Try.prog 14 #[.pointer (some ⟨p, 0, none⟩), .int .i64 k, .int .i64 page, .int .i64 frame, .int .i64 flags] w fun r w' => r = .returned (.int .i64 10) ∧ Below w.heap.size w w' :=
  map_err (v0 := 0) (v1 := 0) (v2 := 0) (v3 := 0) frame flags (by omega) fun _ hW => seek_no (h.below2 hW) _ _ hl
end

set_option maxRecDepth 100000 in
set_option maxHeartbeats 2000000 in
theorem wrong_out (d pg fr fl root : Int) (hr : root < -1 ∨ 9 < root) (w : World) :
    Calls Try.prog 7 #[.agg #[.int .i64 d, .int .i64 pg, .int .i64 fr, .int .i64 fl], .int .i64 root] w fun e w' => e = .returned (.bool true) ∧ Below w.heap.size w w' := by
  have hr' : (root < -1) ∨ (¬ root < -1 ∧ 9 < root) := by omega
  have HB0 := Lib.hid ((Below.refl _ w).alloc (Nat.le_refl _) (.cells #[.int .i64 d, .int .i64 pg, .int .i64 fr, .int .i64 fl] 35))
  clear hr
  rcases hr' with h1 | ⟨h1, h2⟩
  all_goals
    go_enter Try.func7, Try.ntmps7
    go_wp2_with fail
    refine (shown_any _).mono ?_
    rintro e w1 ⟨rfl, hB1⟩
    have HB1 := Lib.hid (below_step HB0.out hB1); clear hB1
    go_wp2
    go_ret
    exact ⟨rfl, HB1.out⟩

set_option maxRecDepth 100000 in
set_option maxHeartbeats 4000000 in
theorem wrong_in (d pg fr fl root : Int) (h0 : -1 ≤ root) (h9 : root ≤ 9) (w : World) :
    Calls Try.prog 7 #[.agg #[.int .i64 d, .int .i64 pg, .int .i64 fr, .int .i64 fl], .int .i64 root] w fun e w' => e = .returned (.bool true) ∧ Below w.heap.size w w' := by
  have HB0 := Lib.hid ((Below.refl _ w).alloc (Nat.le_refl _) (.cells #[.int .i64 d, .int .i64 pg, .int .i64 fr, .int .i64 fl] 35))
  have b0 := Boxed4.new w 35 (.int .i64 d) (.int .i64 pg) (.int .i64 fr) (.int .i64 fl)
  have HL : Hid (liveB 8 (fun _ => 0) root = false) := by unfold Hid; simp [liveB]
  cases hd : ((IntKind.u64.wrap d).tmod 2 == 0) with
  | true =>
    go_enter Try.func7, Try.ntmps7
    go_wp2_with fail
    generalize w.alloc (.cells #[.int .i64 d, .int .i64 pg, .int .i64 fr, .int .i64 fl] 35) = W0 at *
    refine (shown_any _).mono ?_
    rintro e w1 ⟨rfl, hB1⟩
    have HB1 := Lib.hid (below_step HB0.out hB1)
    have b1 := b0.below hB1 b0.lt; clear hB1 b0
    go_wp2_with fail
    refine (new_ok 8 (by omega) (by omega) _).mono ?_
    rintro e w2 ⟨rfl, hM2, hB2⟩
    have HB2 := Lib.hid (below_step HB1.out hB2)
    have b2 := b1.below hB2 b1.lt; clear hB2 b1 hM2
    have c0 := b2.c0; have c1 := b2.c1
    go_wp2_with fail
    refine (walk_nil _ _ _).mono ?_
    rintro e w3 ⟨rfl, hB3⟩
    have HB3 := Lib.hid (below_step HB2.out hB3)
    have b3 := b2.below hB3 b2.lt; clear hB3 b2 c0 c1
    have c1 := b3.c1
    go_wp2_with fail
    refine (unmap_nil _ _ _).mono ?_
    rintro e w4 ⟨rfl, hB4⟩
    have HB4 := Lib.hid (below_step HB3.out hB4)
    have b4 := b3.below hB4 b3.lt; clear hB4 b3 c1
    go_wp2_with fail
    refine (pages_nil _ _).mono ?_
    rintro e w5 ⟨rfl, hB5⟩
    have HB5 := Lib.hid (below_step HB4.out hB5)
    have b5 := b4.below hB5 b4.lt; clear hB5 b4
    have c1 := b5.c1; have c2 := b5.c2; have c3 := b5.c3
    go_wp2_with fail
    refine (map_nil _ _ _ _ _).mono ?_
    rintro e w6 ⟨rfl, hB6⟩
    have HB6 := Lib.hid (below_step HB5.out hB6); clear hB6
    go_wp2_with fail
    refine (drop_nil _ _).mono ?_
    rintro e w7 ⟨rfl, hB7⟩
    have HB7 := Lib.hid (below_step HB6.out hB7); clear hB7
    go_wp2
    go_ret
    exact ⟨rfl, HB7.out⟩
  | false =>
    go_enter Try.func7, Try.ntmps7
    go_wp2_with fail
    generalize w.alloc (.cells #[.int .i64 d, .int .i64 pg, .int .i64 fr, .int .i64 fl] 35) = W0 at *
    refine (shown_any _).mono ?_
    rintro e w1 ⟨rfl, hB1⟩
    have HB1 := Lib.hid (below_step HB0.out hB1)
    have b1 := b0.below hB1 b0.lt; clear hB1 b0
    go_wp2_with fail
    refine (new_ok 8 (by omega) (by omega) _).mono ?_
    rintro e w2 ⟨rfl, hM2, hB2⟩
    have HB2 := Lib.hid (below_step HB1.out hB2)
    have b2 := b1.below hB2 b1.lt; clear hB2 b1
    have c0 := b2.c0; have c1 := b2.c1
    have HM2 := Lib.hid hM2; clear hM2
    go_wp2_with fail
    refine (walk_no HM2.out _ _ HL.out).mono ?_
    rintro e w3 ⟨rfl, hB3⟩
    have HB3 := Lib.hid (below_step HB2.out hB3)
    have HM3 := Lib.hid (HM2.out.below hB3)
    have b3 := b2.below hB3 b2.lt; clear hB3 b2 c0 c1
    have c1 := b3.c1
    go_wp2_with fail
    refine (unmap_no HM3.out _ _ HL.out).mono ?_
    rintro e w4 ⟨rfl, hB4⟩
    have HB4 := Lib.hid (below_step HB3.out hB4)
    have HM4 := Lib.hid (HM3.out.below hB4)
    have b4 := b3.below hB4 b3.lt; clear hB4 b3 c1
    go_wp2_with fail
    refine (pages_no HM4.out _ HL.out).mono ?_
    rintro e w5 ⟨rfl, hB5⟩
    have HB5 := Lib.hid (below_step HB4.out hB5)
    have HM5 := Lib.hid (HM4.out.below hB5)
    have b5 := b4.below hB5 b4.lt; clear hB5 b4
    have c1 := b5.c1; have c2 := b5.c2; have c3 := b5.c3
    go_wp2_with fail
    refine (map_no HM5.out _ _ _ _ HL.out).mono ?_
    rintro e w6 ⟨rfl, hB6⟩
    have HB6 := Lib.hid (below_step HB5.out hB6)
    have HM6 := Lib.hid (HM5.out.below hB6); clear hB6
    go_wp2_with fail
    refine (drop_no HM6.out _ HL.out).mono ?_
    rintro e w7 ⟨rfl, hB7⟩
    have HB7 := Lib.hid (below_step HB6.out hB7); clear hB7
    go_wp2
    go_ret
    exact ⟨rfl, HB7.out⟩

set_option maxRecDepth 100000 in
theorem wrong_lifted (os : Os) (started : os.Started) (H : Type) (enc : TypeId × Value → H) :
    ReturnsInHanded {} Try.checked os 7 .any (Rows.ptableWrongSpec.pre6 enc Try.prog Try.f7 Rows.ptableWrongRow.domain false) (Rows.ptableWrongSpec.post enc Try.prog Try.f7 false true false false) := by
  refine returnsInHanded_of_change (C := Try.checked) own started (by kernel_rfl) Try.func7
    (ChangeSpec.witness6 (enc := enc) (C := Try.checked) false ⟨#[], #[.agg #[.int .i64 0, .int .i64 0, .int .i64 0, .int .i64 0], .int .i64 0], []⟩ 8 (by kernel_rfl) (by kernel_rfl) (by kernel_rfl) (by kernel_rfl)) ?_
  intro W base args ds gs before hval0 hW _ _
  have hval : ∀ (j : Nat) t v, Try.f7.params[j]? = some t → args[j]? = some v → Value.okWide Try.prog W .any base t v := hval0
  have hW' := hW
  obtain ⟨p, q, hA0, hV, rfl, hfz, hnd⟩ := hW
  have hA : DataW.TrodAll enc Try.prog W 0 (fun _ => true) true Try.f7.params.toList args.toList ds p := hA0
  rw [Try.params7] at hA hval
  obtain ⟨v0, vs0, d0, ds0, p0, q0, hargs, rfl, rfl, h0, r0⟩ := trodAll_cons hA
  obtain ⟨v1, vs1, d1, ds1, p1, q1, rfl, rfl, rfl, h1, r1⟩ := trodAll_cons r0
  obtain ⟨rfl, rfl, rfl⟩ := trodAll_nil r1
  obtain rfl : args = #[v0, v1] := by cases args; simp_all
  obtain ⟨a0, a1, a2, a3, rfl, _, _⟩ := open_act (hval 0 35 v0 rfl rfl) h0
  obtain ⟨root, rfl, -, -, _⟩ := open_int Try.underlying3 (hval 1 3 v1 rfl rfl) h1
  have hwalk : Calls Try.prog 7 #[.agg #[.int .i64 a0, .int .i64 a1, .int .i64 a2, .int .i64 a3], .int .i64 root] W fun e w' => e = .returned (.bool true) ∧ Below W.heap.size W w' := by
    by_cases hr : -1 ≤ root ∧ root ≤ 9
    · exact wrong_in a0 a1 a2 a3 root hr.1 hr.2 W
    · exact wrong_out a0 a1 a2 a3 root (by omega) W
  refine hwalk.mono fun e W' ⟨he, bel⟩ => ⟨_, he, ?_⟩
  exact law_post laidOut (of_decide_eq_true (by kernel_rfl)) rfl Try.underlying4 rfl hW' (fun ds' e => by subst e; rfl) bel

theorem ptableWrong_holds : Rows.PtableWrongSaid :=
  OpenClaim.holds_of_wide 7 Try.f7 rfl rfl rfl rfl rfl rfl rfl ⟨rfl, rfl, rfl, rfl, rfl⟩ rfl rfl rfl rfl rfl (by kernel_rfl) Try.func7 (by kernel_rfl)
    (of_decide_eq_true (by kernel_rfl)) (by unfold Func.isWrapper; rw [if_neg (by decide +kernel)]; exact ⟨rfl, rfl⟩)
    (fun os started H enc _ => wrong_lifted os started H enc)

#print axioms ptableWrong_holds
end Go.Proofs.Ytkcoeibbmfkjlaa
