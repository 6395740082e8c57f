/- QueueFull: for every number of things and every thing the law answers true: a queue holds sixty-four, a nil one nothing. No conditions. -/
import Derived.Test.YtaofnpnmgmieiaaQuArgs
namespace Go.Proofs.Ytaofnpnmgmieiaa
open Go.RowKit Go.ChangeShapes Go.WideShapes Go.ChangeAt

set_option maxRecDepth 100000 in
set_option maxHeartbeats 4000000 in
theorem full_walk (n v : Int) (w : World) :
    Calls Try.prog 7 #[.int .i64 n, .int .i64 v] w fun e w' => e = .returned (.bool true) ∧ Below w.heap.size w w' := by
  have S := shown7 w
  by_cases hn : n < 0 ∨ 70 < n
  · have hn' : n < 0 ∨ (¬ n < 0 ∧ 70 < n) := by omega
    go_enter Try.func7, Try.ntmps7
    rcases hn' with h1 | ⟨h1, h2⟩
    all_goals
      go_wp2_with (go_at_call 9; refine S.mono ?_; clear S; rintro e w0 ⟨rfl, hB0⟩)
      go_ret
      exact ⟨rfl, hB0⟩
  · obtain ⟨N, rfl⟩ : ∃ N : Nat, n = (N : Int) := ⟨n.toNat, by omega⟩
    have hN : N ≤ 70 := by omega
    have h1 : ¬ ((N : Int) < 0) := by omega
    have h2 : ¬ (70 < (N : Int)) := by omega
    clear hn
    go_enter Try.func7, Try.ntmps7
    go_wp2_with (first
      | (go_at_call 9; refine S.mono ?_; clear S; rintro e w0 ⟨rfl, hB0⟩; have B0 := Lib.hid hB0; have NW := newI w0; clear hB0)
      | (go_at_call 10; refine NW.mono ?_; clear NW; rintro e w1 ⟨rfl, hq, hB⟩; have Q1 := Lib.hid hq; have B1 := Lib.hid (B0.out.trans (hB.mono B0.out.size)); have hq0 := B0.out.size; clear hq hB))
    generalize w0.heap.size = q at Q1 hq0 ⊢
    go_loopw [7] (fun i wr => ∃ j : Nat, j ≤ N ∧ i = .int .i64 (j : Int) ∧ ∃ L, QAt encI wr q 53 0 L ∧ L.length = min j 64 ∧ Below w.heap.size w wr) (fun i _ => N - (intOf i).toNat)
    case atStart => exact ⟨0, by omega, rfl, [], Q1.out, rfl, B1.out⟩
    case round =>
      obtain ⟨j, hj, rfl, L, hQ, hL, hB⟩ := hrel
      have HQ := Lib.hid hQ; have HB := Lib.hid hB
      clear hQ hB
      by_cases hlt : j < N
      · by_cases h64 : j < 64
        · have e64 : (j : Int) < 64 := by omega
          go_wp2_with (go_at_call 11; refine (push_lt HQ.out (by omega) _).mono ?_; rintro e w2 ⟨rfl, h3, t3⟩; have HQ2 := Lib.hid h3; have HB2 := Lib.hid (t3.below HB.out hq0 HB.out.size); clear h3 t3)
          go_roundw
          case rel => exact ⟨j + 1, by omega, by go_num, _, HQ2.out, by rw [List.length_append, hL]; simp; omega, HB2.out⟩
          case measure => simp [intOf]; omega
        · have e64 : ¬ ((j : Int) < 64) := by omega
          go_wp2_with (go_at_call 11; refine (push_no HQ.out (by omega) _).mono ?_; rintro e w2 ⟨rfl, h3, t3⟩; have HQ2 := Lib.hid h3; have HB2 := Lib.hid (t3.below HB.out hq0 HB.out.size); clear h3 t3)
          go_roundw
          case rel => exact ⟨j + 1, by omega, by go_num, _, HQ2.out, by omega, HB2.out⟩
          case measure => simp [intOf]; omega
      · obtain rfl : j = N := by omega
        have hmin : ((L.length : Nat) : Int) = min (j : Int) 64 := by omega
        rcases (show (j : Int) ≤ 64 ∨ 64 < (j : Int) by omega) with c | c
        all_goals
          go_wp2_with (first
            | (go_at_call 13; refine (pop_nilI _).mono ?_; rintro e w2 ⟨rfl, rfl⟩)
            | (go_at_call 19; refine (lenI HQ.out).mono ?_; rintro e w2 ⟨rfl, rfl⟩)
            | (go_at_call 11; refine (push_nilI _ _).mono ?_; rintro e w2 ⟨rfl, rfl⟩)
            | (go_at_call 15; refine (drop_nilI _ _).mono ?_; rintro e w2 ⟨rfl, rfl⟩)
            | (go_at_call 19; refine (len_nilI _).mono ?_; rintro e w2 ⟨rfl, rfl⟩)
            | (go_at_call 18; refine (all_nil _).mono ?_; rintro e w2 ⟨rfl, rfl⟩))
          go_ret
          exact ⟨rfl, HB.out⟩
set_option maxRecDepth 100000 in
theorem full_lifted (os : Os) (started : os.Started) (H : Type) (enc : TypeId × Value → H) :
    ReturnsInHanded {} Try.checked os 7 .any (Rows.queueFullSpec.pre6 enc Try.prog Try.f7 Rows.queueFullRow.domain false) (Rows.queueFullSpec.post enc Try.prog Try.f7 false true false false) := by
  refine returnsInHanded_of_change (C := Try.checked) own started (by kernel_rfl) Try.func7
    (ChangeSpec.witness6 (enc := enc) (C := Try.checked) false ⟨#[], #[.int .i64 0, .int .i64 0], []⟩ 8 (by kernel_rfl) (by kernel_rfl) (by kernel_rfl) (by kernel_rfl)) ?_
  intro W base args ds gs before hval0 hW _ _
  have hval : ∀ (j : Nat) t v, Try.f7.params[j]? = some t → args[j]? = some v → Value.okWide Try.prog W .any base t v := hval0
  have hW' := hW
  obtain ⟨p, q, hA0, hV, rfl, hfz, hnd⟩ := hW
  have hA : DataW.TrodAll enc Try.prog W 0 (fun _ => true) true Try.f7.params.toList args.toList ds p := hA0
  rw [Try.params7] at hA hval
  obtain ⟨v0, vs0, d0, ds0, p0, q0, hargs, rfl, rfl, h0, r0⟩ := trodAll_cons hA
  obtain ⟨v1, vs1, d1, ds1, p1, q1, rfl, rfl, rfl, h1, r1⟩ := trodAll_cons r0
  obtain ⟨rfl, rfl, rfl⟩ := trodAll_nil r1
  obtain rfl : args = #[v0, v1] := by cases args; simp_all
  obtain ⟨x0, rfl, -, -, wf0⟩ := open_int Try.underlying3 (hval 0 3 v0 rfl rfl) h0
  obtain ⟨x1, rfl, -, -, wf1⟩ := open_int Try.underlying3 (hval 1 3 v1 rfl rfl) h1
  have hwalk : Calls Try.prog 7 #[.int .i64 x0, .int .i64 x1] W fun e w' => e = .returned (.bool true) ∧ Below W.heap.size W w' := full_walk x0 x1 W 
  refine hwalk.mono fun e W' ⟨he, bel⟩ => ⟨_, he, ?_⟩
  exact law_post laidOut (of_decide_eq_true (by kernel_rfl)) rfl Try.underlying4 rfl hW' (fun ds' e => by subst e; rfl) bel

theorem queueFull_holds : Rows.QueueFullSaid :=
  OpenClaim.holds_of_wide 7 Try.f7 rfl rfl rfl rfl rfl rfl rfl ⟨rfl, rfl, rfl, rfl, rfl⟩ rfl rfl rfl rfl rfl (by kernel_rfl) Try.func7 (by kernel_rfl)
    (of_decide_eq_true (by kernel_rfl)) (by unfold Func.isWrapper; rw [if_neg (by decide +kernel)]; exact ⟨rfl, rfl⟩)
    (fun os started H enc _ => full_lifted os started H enc)

#print axioms queueFull_holds
end Go.Proofs.Ytaofnpnmgmieiaa
