/- QueueOrder: for every list of numbers and every number between the law answers true: what goes in comes out in that order. No conditions. -/
import Derived.Test.YtaofnpnmgmieiaaQuPure2
namespace Go.Proofs.Ytaofnpnmgmieiaa
open Go.RowKit Go.ChangeShapes Go.WideShapes Go.ChangeAt

set_option maxRecDepth 100000 in
set_option maxHeartbeats 4000000 in
theorem order_walk (a : Option Addr) (cap : Nat) (X : List Int) (bt : Int) (w : World) (hX : LsI w 0 (.slice a X.length cap) X) (hm : X.length ≤ maxLen) :
    Calls Try.prog 5 #[.slice a X.length cap, .int .i64 bt] w fun e w' => e = .returned (.bool true) ∧ Below w.heap.size w w' := by
  have S := shown7 w
  have HX := Lib.hid hX
  obtain ⟨N, hN⟩ : ∃ N : Nat, N = min X.length 64 := ⟨_, rfl⟩
  have hN1 : N ≤ 64 := by omega
  have hN2 : N ≤ X.length := by omega
  have HN3 : Hid (∀ j : Nat, ¬ j < N → ¬ (j : Int) < (X.length : Int) ∨ ((j : Int) < (X.length : Int) ∧ ¬ (j : Int) < 64)) := fun j hj => by omega
  unfold maxLen at hm
  clear hX hN
  go_enter Try.func5, Try.ntmps5
  go_wp2_with (first
    | (go_at_call 9; refine S.mono ?_; clear S; rintro e w0 ⟨rfl, hB0⟩; have B0 := Lib.hid hB0; have NW := newI w0; clear hB0)
    | (go_at_call 10; refine NW.mono ?_; clear NW; rintro e w1 ⟨rfl, hq, hB⟩; have Q1 := Lib.hid hq; have B1 := Lib.hid (B0.out.trans (hB.mono B0.out.size)); have hq0 := B0.out.size; clear hq hB))
  generalize w0.heap.size = q at Q1 hq0 ⊢
  go_loopw [7, 8] (fun p i wr => ∃ (j at0 : Nat), j ≤ N ∧ at0 * 8 ≤ j ∧ p = .int .i64 (at0 : Int) ∧ i = .int .i64 (j : Int) ∧ (∃ f, QAt encI wr q 53 f ((X.take j).drop at0)) ∧ Below w.heap.size w wr) (fun _ i _ => N - (intOf i).toNat)
  case atStart => exact ⟨0, 0, by omega, by omega, rfl, rfl, ⟨0, Q1.out⟩, B1.out⟩
  case round =>
    obtain ⟨j, at0, hj, hat, rfl, rfl, ⟨f, hQ⟩, hB⟩ := hrel
    have HQ := Lib.hid hQ; have HB := Lib.hid hB
    clear hQ hB
    by_cases hlt : j < N
    · obtain ⟨b, o, rfl, hb, hc⟩ := HX.out.arg (by omega)
      obtain ⟨x, hx⟩ : ∃ x, X[j]? = some x := ⟨_, List.getElem?_eq_getElem (by omega)⟩
      have cx := (HB.out.cell (p := ⟨b, o + j, none⟩) hb).trans (hc j x hx)
      have k1 : (j : Int) < (X.length : Int) := by omega
      have k2 : (j : Int) < 64 := by omega
      have HXJ := Lib.hid hx
      have HP := Lib.hid (push_lt HQ.out (by rw [List.length_drop, List.length_take]; omega) x)
      rw [dt_push (by omega) hx] at HP
      have HCC := Lib.hid hc
      clear hx hc
      by_cases h7 : 0 < bt ∧ j % 8 = 7
      · obtain ⟨k3, h8⟩ := h7
        have k4 : (j : Int) % 8 = 7 := by omega
        obtain ⟨y, hy⟩ : ∃ y, X[at0]? = some y := ⟨_, List.getElem?_eq_getElem (by omega)⟩
        have HY := Lib.hid hy
        clear hy
        go_wp2_with (first
          | (go_at_call 11; refine HP.out.mono ?_; rintro e w2 ⟨rfl, h3, t3⟩; rw [dt_pop (by omega) HY.out] at h3; have HPP := Lib.hid (popI h3); have HB2 := Lib.hid (t3.below HB.out hq0 HB.out.size); clear h3 t3)
          | (go_at_call 13; refine HPP.out.mono ?_; rintro e w3 ⟨rfl, h3, t3⟩; have HQ3 := Lib.hid h3; have HB3 := Lib.hid (t3.below HB2.out hq0 HB2.out.size); have cy := (HB3.out.cell (p := ⟨b, o + at0, none⟩) hb).trans (HCC.out at0 y HY.out); have k5 : (at0 : Int) < (X.length : Int) := (by omega); clear h3 t3))
        go_roundw
        case rel => exact ⟨j + 1, at0 + 1, by omega, by omega, by go_num, by go_num, ⟨_, HQ3.out⟩, HB3.out⟩
        case measure => simp [intOf]; omega
      · rcases (show ¬ 0 < bt ∨ (0 < bt ∧ ¬ (j : Int) % 8 = 7) by omega) with k3 | ⟨k3, k4⟩
        all_goals
          go_wp2_with (go_at_call 11; refine HP.out.mono ?_; rintro e w2 ⟨rfl, h3, t3⟩; have HQ3 := Lib.hid h3; have HB2 := Lib.hid (t3.below HB.out hq0 HB.out.size); clear h3 t3)
          go_roundw
          case rel => exact ⟨j + 1, at0, by omega, by omega, rfl, by go_num, ⟨_, HQ3.out⟩, HB2.out⟩
          case measure => simp [intOf]; omega
    · obtain rfl : j = N := by omega
      have HZ : Hid (at0 ≤ j) := by unfold Hid; omega
      have h3 := HN3.out j hlt
      clear hat hj
      rcases h3 with c | ⟨c, c2⟩
      all_goals
        go_wp2
        go_loopw [7] (fun p wr2 => ∃ at0 : Nat, at0 ≤ j ∧ p = .int .i64 (at0 : Int) ∧ (∃ f, QAt encI wr2 q 53 f ((X.take j).drop at0)) ∧ Below w.heap.size w wr2) (fun p _ => j - (intOf p).toNat)
        case atStart => exact ⟨at0, HZ.out, rfl, ⟨f, HQ.out⟩, HB.out⟩
        case round =>
          obtain ⟨at1, hat1, rfl, ⟨f1, hQ1⟩, hB1⟩ := hrel
          have HQ1 := Lib.hid hQ1; have HB1 := Lib.hid hB1
          clear hQ1 hB1
          by_cases hlt1 : at1 < j
          · obtain ⟨b, o, rfl, hb, hc⟩ := HX.out.arg (by omega)
            obtain ⟨y, hy⟩ : ∃ y, X[at1]? = some y := ⟨_, List.getElem?_eq_getElem (by omega)⟩
            have HC := Lib.hid (hc at1 y hy)
            have hQ2 := HQ1.out
            rw [dt_pop hlt1 hy] at hQ2
            have HPP := Lib.hid (popI hQ2)
            have k1 : (at1 : Int) < (X.length : Int) := by omega
            have k2 : (at1 : Int) < 64 := by omega
            clear hQ2 hc hy
            go_wp2_with (go_at_call 13; refine HPP.out.mono ?_; rintro e w3 ⟨rfl, h3, t3⟩; have HQ3 := Lib.hid h3; have HB3 := Lib.hid (t3.below HB1.out hq0 HB1.out.size); have cy := (HB3.out.cell (p := ⟨b, o + at1, none⟩) hb).trans HC.out; clear h3 t3)
            go_roundw
            case rel => exact ⟨at1 + 1, by omega, by go_num, ⟨_, HQ3.out⟩, HB3.out⟩
            case measure => simp [intOf]; omega
          · obtain rfl : at1 = j := by omega
            have HE : Hid ((X.take at1).drop at1 = []) := by unfold Hid; rw [List.drop_eq_nil_iff, List.length_take]; omega
            have hQ2 := HQ1.out
            rw [HE.out] at hQ2
            have HL := Lib.hid (lenI hQ2)
            clear hQ2
            go_wp2_with (go_at_call 19; refine HL.out.mono ?_; rintro e w3 ⟨rfl, rfl⟩)
            go_ret
            exact ⟨rfl, HB1.out⟩
set_option maxRecDepth 100000 in
theorem order_lifted (os : Os) (started : os.Started) (H : Type) (enc : TypeId × Value → H) :
    ReturnsInHanded {} Try.checked os 5 .any (Rows.queueOrderSpec.pre6 enc Try.prog Try.f5 Rows.queueOrderRow.domain false) (Rows.queueOrderSpec.post enc Try.prog Try.f5 false true false false) := by
  refine returnsInHanded_of_change (C := Try.checked) own started (by kernel_rfl) Try.func5
    (ChangeSpec.witness6 (enc := enc) (C := Try.checked) false ⟨#[], #[.slice none 0 0, .int .i64 0], []⟩ 8 (by kernel_rfl) (by kernel_rfl) (by kernel_rfl) (by kernel_rfl)) ?_
  intro W base args ds gs before hval0 hW _ _
  have hval : ∀ (j : Nat) t v, Try.f5.params[j]? = some t → args[j]? = some v → Value.okWide Try.prog W .any base t v := hval0
  have hW' := hW
  obtain ⟨p, q, hA0, hV, rfl, hfz, hnd⟩ := hW
  have hA : DataW.TrodAll enc Try.prog W 0 (fun _ => true) true Try.f5.params.toList args.toList ds p := hA0
  rw [Try.params5] at hA hval
  obtain ⟨v0, vs0, d0, ds0, p0, q0, hargs, rfl, rfl, h0, r0⟩ := trodAll_cons hA
  obtain ⟨v1, vs1, d1, ds1, p1, q1, rfl, rfl, rfl, h1, r1⟩ := trodAll_cons r0
  obtain ⟨rfl, rfl, rfl⟩ := trodAll_nil r1
  obtain rfl : args = #[v0, v1] := by cases args; simp_all
  obtain ⟨a0, cap0, X0, rfl, hX0, hm0⟩ := open_ints7 (hval 0 26 v0 rfl rfl) h0
  obtain ⟨x1, rfl, -, -, wf1⟩ := open_int Try.underlying3 (hval 1 3 v1 rfl rfl) h1
  have hwalk : Calls Try.prog 5 #[.slice a0 X0.length cap0, .int .i64 x1] W fun e w' => e = .returned (.bool true) ∧ Below W.heap.size W w' := order_walk a0 cap0 X0 x1 W hX0 hm0
  refine hwalk.mono fun e W' ⟨he, bel⟩ => ⟨_, he, ?_⟩
  exact law_post laidOut (of_decide_eq_true (by kernel_rfl)) rfl Try.underlying4 rfl hW' (fun ds' e => by subst e; rfl) bel

theorem queueOrder_holds : Rows.QueueOrderSaid :=
  OpenClaim.holds_of_wide 5 Try.f5 rfl rfl rfl rfl rfl rfl rfl ⟨rfl, rfl, rfl, rfl, rfl⟩ rfl rfl rfl rfl rfl (by kernel_rfl) Try.func5 (by kernel_rfl)
    (of_decide_eq_true (by kernel_rfl)) (by unfold Func.isWrapper; rw [if_neg (by decide +kernel)]; exact ⟨rfl, rfl⟩)
    (fun os started H enc _ => order_lifted os started H enc)

#print axioms queueOrder_holds
end Go.Proofs.Ytaofnpnmgmieiaa
