/- ProcNone: for every act the law answers true: a nil table has nothing. No conditions. -/
import Derived.Test.YtonllnbincgdpaaProcNil
import Derived.Test.YtonllnbincgdpaaProcShown
import Derived.Test.YtonllnbincgdpaaProcActs
namespace Go.Proofs.Ytonllnbincgdpaa
open Go.RowKit Go.ChangeShapes Go.WideShapes Go.ChangeAt

set_option maxRecDepth 100000 in
theorem eql_zero (w : World) : (binOp .eql 39 (.agg z8) (.agg z8)).run Try.prog w = .ok (.bool true) w := by simp [go_sem, z8]

set_option maxRecDepth 100000 in
set_option maxHeartbeats 4000000 in
theorem none_walk (d k t u g : Int) (s : ByteArray) (w : World) :
    Calls Try.prog 4 #[.agg #[.int .i64 d, .int .i64 k, .int .i64 t, .int .i64 u, .int .i64 g, .string s]] w fun e w' => e = .returned (.bool true) ∧ Below w.heap.size w w' := by
  have hz := eql_zero
  have bA := BoxA.new w 32 #[.int .i64 d, .int .i64 k, .int .i64 t, .int .i64 u, .int .i64 g, .string s]
  have HA := Lib.hid bA
  have HB := Lib.hid ((Below.refl w.heap.size w).alloc (Nat.le_refl _) (.cells #[.int .i64 d, .int .i64 k, .int .i64 t, .int .i64 u, .int .i64 g, .string s] 32))
  clear bA
  go_enter Try.func4, Try.ntmps4
  go_wp2_with (first
    | (go_at_call 10; refine (shown6_any _).mono ?_; rintro e w0 ⟨rfl, b0⟩; have A0 := Lib.hid (HA.out.below' b0); have B0 := Lib.hid (HB.out.trans (b0.mono HB.out.size)); clear b0; have k0 := A0.out.at 1 (v := .int .i64 k) rfl)
    | (go_at_call 15; refine (get_nil _ _).mono ?_; rintro e w1 ⟨rfl, rfl⟩; unfold pO PV.val PV.cells PV.zero; dsimp only; have bX := BoxA.new (w0.alloc (.cells z8 39)) 39 z8; rw [World.size_alloc] at bX; have X1 := Lib.hid bX; clear bX; have A1 := Lib.hid ((A0.out.alloc (.cells z8 39)).alloc (.cells z8 39)); have B1 := Lib.hid ((B0.out.alloc B0.out.size (.cells z8 39)).alloc (by have := B0.out.size; simp; omega) (.cells z8 39)); have k1 := A1.out.at 1 (v := .int .i64 k) rfl)
    | (go_at_call 16; refine (fork_nil _ _).mono ?_; rintro e w2 ⟨rfl, b2⟩; have A2 := Lib.hid (A1.out.below' b2); have X2 := Lib.hid (X1.out.below' b2); have B2 := Lib.hid (B1.out.trans (b2.mono B1.out.size)); clear b2; have k2 := A2.out.at 1 (v := .int .i64 k) rfl)
    | (go_at_call 17; refine (wait_nil _ _).mono ?_; rintro e w3 ⟨rfl, b3⟩; have A3 := Lib.hid (A2.out.below' b3); have x3 := X2.out.below' b3; have B3 := Lib.hid (B2.out.trans (b3.mono B2.out.size)); clear b3; have k3 := A3.out.at 1 (v := .int .i64 k) rfl; have u3 := A3.out.at 3 (v := .int .i64 u) rfl; have g3 := A3.out.at 4 (v := .int .i64 g) rfl; have z0 := x3.at 0 (v := .int .i64 0) rfl; have z1 := x3.at 1 (v := .int .i64 0) rfl; have z2 := x3.at 2 (v := .int .i64 0) rfl; have z3 := x3.at 3 (v := .int .i64 0) rfl; have z4 := x3.at 4 (v := .int .i64 0) rfl; have z5 := x3.at 5 (v := .string ⟨#[]⟩) rfl; have z6 := x3.at 6 (v := .int .i64 0) rfl; have z7 := x3.at 7 (v := .bool false) rfl; clear x3)
    | (go_at_call 18; refine (become_nil _ _ _ _).mono ?_; rintro e w4 ⟨rfl, b4⟩; have A4 := Lib.hid (A3.out.below' b4); have B4 := Lib.hid (B3.out.trans (b4.mono B3.out.size)); clear b4; have k4 := A4.out.at 1 (v := .int .i64 k) rfl; have t4 := A4.out.at 2 (v := .int .i64 t) rfl)
    | (go_at_call 19; refine (exit_nil _ _ _).mono ?_; rintro e w5 ⟨rfl, b5⟩; have A5 := Lib.hid (A4.out.below' b5); have B5 := Lib.hid (B4.out.trans (b5.mono B4.out.size)); clear b5; have k5 := A5.out.at 1 (v := .int .i64 k) rfl)
    | (go_at_call 20; refine (kill_nil _ _).mono ?_; rintro e w6 ⟨rfl, b6⟩; have A6 := Lib.hid (A5.out.below' b6); have B6 := Lib.hid (B5.out.trans (b6.mono B5.out.size)); clear b6; have k6 := A6.out.at 1 (v := .int .i64 k) rfl; have s6 := A6.out.at 5 (v := .string s) rfl)
    | (go_at_call 21; refine (sleep_nil _ _ _).mono ?_; rintro e w7 ⟨rfl, b7⟩; have A7 := Lib.hid (A6.out.below' b7); have B7 := Lib.hid (B6.out.trans (b7.mono B6.out.size)); clear b7; have s7 := A7.out.at 5 (v := .string s) rfl)
    | (go_at_call 22; refine (wake_nil _ _).mono ?_; rintro e w8 ⟨rfl, b8⟩; have B8 := Lib.hid (B7.out.trans (b8.mono B7.out.size)); clear b8)
    | (go_at_call 14; refine (pids_nil _).mono ?_; rintro e w9 ⟨rfl, b9⟩; have B9 := Lib.hid (B8.out.trans (b9.mono B8.out.size)); clear b9))
  go_ret
  exact ⟨rfl, B9.out⟩

set_option maxRecDepth 100000 in
theorem none_lifted (os : Os) (started : os.Started) (H : Type) (enc : TypeId × Value → H) :
    ReturnsInHanded {} Try.checked os 4 .any (Rows.procNoneSpec.pre6 enc Try.prog Try.f4 Rows.procNoneRow.domain false) (Rows.procNoneSpec.post enc Try.prog Try.f4 false true false false) := by
  refine returnsInHanded_of_change (C := Try.checked) own started (by kernel_rfl) Try.func4
    (ChangeSpec.witness6 (enc := enc) (C := Try.checked) false ⟨#[], #[.agg #[.int .i64 0, .int .i64 0, .int .i64 0, .int .i64 0, .int .i64 0, .string ⟨#[]⟩]], []⟩ 8 (by kernel_rfl) (by kernel_rfl) (by kernel_rfl) (by kernel_rfl)) ?_
  intro W base args ds gs before hval0 hW _ _
  have hval : ∀ (j : Nat) t v, Try.f4.params[j]? = some t → args[j]? = some v → Value.okWide Try.prog W .any base t v := hval0
  have hW' := hW
  obtain ⟨p, q, hA0, hV, rfl, hfz, hnd⟩ := hW
  have hA : DataW.TrodAll enc Try.prog W 0 (fun _ => true) true Try.f4.params.toList args.toList ds p := hA0
  rw [Try.params4] at hA hval
  obtain ⟨v0, vs0, d0, ds0, p0, q0, hargs, rfl, rfl, h0, r0⟩ := trodAll_cons hA
  obtain ⟨rfl, rfl, rfl⟩ := trodAll_nil r0
  obtain rfl : args = #[v0] := by cases args; simp_all
  obtain ⟨d, k, t, u, g, s, rfl, _⟩ := open_act6 (hval 0 32 v0 rfl rfl) h0
  have hwalk : Calls Try.prog 4 #[.agg #[.int .i64 d, .int .i64 k, .int .i64 t, .int .i64 u, .int .i64 g, .string s]] W fun e w' => e = .returned (.bool true) ∧ Below W.heap.size W w' := none_walk d k t u g s W
  refine hwalk.mono fun e W' ⟨he, bel⟩ => ⟨_, he, ?_⟩
  exact law_post laidOut (of_decide_eq_true (by kernel_rfl)) rfl Try.underlying4 rfl hW' (fun ds' e => by subst e; rfl) bel

theorem procNone_holds : Rows.ProcNoneSaid :=
  OpenClaim.holds_of_wide 4 Try.f4 rfl rfl rfl rfl rfl rfl rfl ⟨rfl, rfl, rfl, rfl, rfl⟩ rfl rfl rfl rfl rfl (by kernel_rfl) Try.func4 (by kernel_rfl)
    (of_decide_eq_true (by kernel_rfl)) (by unfold Func.isWrapper; rw [if_neg (by decide +kernel)]; exact ⟨rfl, rfl⟩)
    (fun os started H enc _ => none_lifted os started H enc)

#print axioms procNone_holds
end Go.Proofs.Ytonllnbincgdpaa
