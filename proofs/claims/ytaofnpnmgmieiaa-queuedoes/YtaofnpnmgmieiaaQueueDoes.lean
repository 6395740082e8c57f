/- QueueDoes: for every list of acts the law answers true: what acts tell, and what a queue of numbers holds behind each of them. No conditions. -/
import Derived.Test.YtaofnpnmgmieiaaRef7
import Derived.Test.YtaofnpnmgmieiaaQuActs
namespace Go.Proofs.Ytaofnpnmgmieiaa
open Go.RowKit Go.ChangeShapes Go.WideShapes Go.ChangeAt

set_option maxRecDepth 100000 in
set_option maxHeartbeats 4000000 in
theorem does_walk (a : Option Addr) (len cap : Nat) (w : World) (hA : ActsAt w a len) :
    Calls Try.prog 3 #[.slice a len cap] w fun e w' => e = .returned (.bool true) ∧ Below w.heap.size w w' := by
  have S := shown7 w
  obtain ⟨hm, hcell⟩ := hA
  have HX := Lib.hid hcell; clear hcell
  obtain ⟨N, hN⟩ : ∃ N : Nat, N = min len 300 := ⟨_, rfl⟩
  have hN1 : N ≤ 300 := by omega
  have hN2 : N ≤ len := by omega
  have HN3 : Hid (∀ j : Nat, ¬ j < N → ¬ (j : Int) < (len : Int) ∨ ((j : Int) < (len : Int) ∧ ¬ (j : Int) < 300)) := fun j hj => by omega
  unfold maxLen at hm
  clear hN
  go_enter Try.func3, Try.ntmps3
  go_wp2_with (first
    | (go_at_call 9; refine S.mono ?_; clear S; rintro e w0 ⟨rfl, hB0⟩; have B0 := Lib.hid hB0; have NW := newI w0; clear hB0)
    | (go_at_call 10; refine NW.mono ?_; clear NW; rintro e w1 ⟨rfl, hq, hB⟩; have Q1 := Lib.hid hq; have B1 := Lib.hid (B0.out.trans (hB.mono B0.out.size)); have hq0 := B0.out.size; clear hq hB))
  generalize w0.heap.size = q at Q1 hq0 ⊢
  go_loopw [5, 6] (fun u i wr => ∃ j : Nat, j ≤ N ∧ i = .int .i64 (j : Int) ∧ ∃ L, (∃ f, QAt encI wr q 53 f L) ∧ RL wr (q + 1) u L ∧ Below w.heap.size w wr) (fun _ i _ => N - (intOf i).toNat)
  case atStart => exact ⟨0, by omega, rfl, [], ⟨0, Q1.out⟩, RL.nil _ _, B1.out⟩
  case round =>
    obtain ⟨j, hj, rfl, L, ⟨f, hQ⟩, hR, hB⟩ := hrel
    have HQ := Lib.hid hQ; have HB := Lib.hid hB
    have HR := Lib.hid hR
    have hql := hQ.lt
    have hl64 := hQ.hl
    clear hQ hB hR
    by_cases hlt : j < N
    · obtain ⟨b, o, rfl, hb, hc⟩ := HX.out (by omega)
      obtain ⟨d, x, hact⟩ := hc j (by omega)
      have c0 := (HB.out.cell (p := ⟨b, o + j * 2, none⟩) hb).trans hact.c0
      have c1 := (HB.out.cell (p := ⟨b, o + j * 2 + 1, none⟩) hb).trans hact.c1
      have k1 : (j : Int) < (len : Int) := by omega
      have k2 : (j : Int) < 300 := by omega
      have HAC := Lib.hid hact
      clear hc hact
      rcases mod4 d with x0 | ⟨x0, x1⟩ | ⟨x0, x1, x2⟩ | ⟨x0, x1, x2, x3⟩
      · go_wp2_with (first
          | (go_at_call 11; refine (pushI HQ.out x).mono ?_; rintro e w2 ⟨rfl, h2, t2⟩; have HQ2 := Lib.hid h2; have HR2 := Lib.hid (HR.out.tur t2 (by omega)); have HB2 := Lib.hid (t2.below HB.out hq0 HB.out.size); have c1' := (HB2.out.cell (p := ⟨b, o + j * 2 + 1, none⟩) hb).trans HAC.out.c1; have hq2 : q + 1 ≤ w2.heap.size := Nat.le_trans hql t2.size; clear h2 t2)
          | (go_at_call 12; refine (rpush HR2.out hq2 x).mono ?_; rintro e w3 ⟨u3, rfl, h3, b3⟩; obtain ⟨ra, rc, rfl, _, _⟩ := h3.open; have HRT := Lib.hid h3; have HQT := Lib.hid (HQ2.out.below' b3); have HBT := Lib.hid (HB2.out.trans (b3.mono HB2.out.size)); clear h3 b3)
          | (go_at_call 18; refine (all7 HQT.out).mono ?_; rintro e wa ⟨va, rfl, ha, ba⟩; have HAL := Lib.hid ha.ls; have HRA := Lib.hid (HRT.out.below ba); have HQA := Lib.hid (HQT.out.below' ba); have HBA := Lib.hid (HBT.out.trans (ba.mono HBT.out.size)); clear ha ba)
          | (go_at_call 17; refine (ints7 (Nat.le_trans HQA.out.hl (by decide)) HAL.out HRA.out.ls).mono ?_; rintro e wb ⟨rfl, bb⟩; have HRB := Lib.hid (HRA.out.below bb); have HQB := Lib.hid (HQA.out.below' bb); have HBB := Lib.hid (HBA.out.trans (bb.mono HBA.out.size)); clear bb)
          | (go_at_call 19; refine (lenI HQB.out).mono ?_; rintro e wc ⟨rfl, rfl⟩))
        go_roundw
        case rel => exact ⟨j + 1, by omega, by go_num, _, ⟨_, HQB.out⟩, HRB.out, HBB.out⟩
        case measure => simp [intOf]; omega
      · go_wp2_with (first
          | (go_at_call 11; refine (pushI HQ.out x).mono ?_; rintro e w2 ⟨rfl, h2, t2⟩; have HQ2 := Lib.hid h2; have HR2 := Lib.hid (HR.out.tur t2 (by omega)); have HB2 := Lib.hid (t2.below HB.out hq0 HB.out.size); have c1' := (HB2.out.cell (p := ⟨b, o + j * 2 + 1, none⟩) hb).trans HAC.out.c1; have hq2 : q + 1 ≤ w2.heap.size := Nat.le_trans hql t2.size; clear h2 t2)
          | (go_at_call 12; refine (rpush HR2.out hq2 x).mono ?_; rintro e w3 ⟨u3, rfl, h3, b3⟩; obtain ⟨ra, rc, rfl, _, _⟩ := h3.open; have HRT := Lib.hid h3; have HQT := Lib.hid (HQ2.out.below' b3); have HBT := Lib.hid (HB2.out.trans (b3.mono HB2.out.size)); clear h3 b3)
          | (go_at_call 18; refine (all7 HQT.out).mono ?_; rintro e wa ⟨va, rfl, ha, ba⟩; have HAL := Lib.hid ha.ls; have HRA := Lib.hid (HRT.out.below ba); have HQA := Lib.hid (HQT.out.below' ba); have HBA := Lib.hid (HBT.out.trans (ba.mono HBT.out.size)); clear ha ba)
          | (go_at_call 17; refine (ints7 (Nat.le_trans HQA.out.hl (by decide)) HAL.out HRA.out.ls).mono ?_; rintro e wb ⟨rfl, bb⟩; have HRB := Lib.hid (HRA.out.below bb); have HQB := Lib.hid (HQA.out.below' bb); have HBB := Lib.hid (HBA.out.trans (bb.mono HBA.out.size)); clear bb)
          | (go_at_call 19; refine (lenI HQB.out).mono ?_; rintro e wc ⟨rfl, rfl⟩))
        go_roundw
        case rel => exact ⟨j + 1, by omega, by go_num, _, ⟨_, HQB.out⟩, HRB.out, HBB.out⟩
        case measure => simp [intOf]; omega
      · cases L with
        | nil =>
          go_wp2_with (first
            | (go_at_call 13; refine (pop_noI HQ.out).mono ?_; rintro e w2 ⟨rfl, rfl⟩)
            | (go_at_call 14; refine (rpop_no HR.out).mono ?_; rintro e w3 ⟨u3, rfl, h3, b3⟩; obtain ⟨ra, rc, rfl, _, _⟩ := h3.open; have HRT := Lib.hid h3; have HQT := Lib.hid (HQ.out.below' b3); have HBT := Lib.hid (HB.out.trans (b3.mono HB.out.size)); clear h3 b3)
            | (go_at_call 18; refine (all7 HQT.out).mono ?_; rintro e wa ⟨va, rfl, ha, ba⟩; have HAL := Lib.hid ha.ls; have HRA := Lib.hid (HRT.out.below ba); have HQA := Lib.hid (HQT.out.below' ba); have HBA := Lib.hid (HBT.out.trans (ba.mono HBT.out.size)); clear ha ba)
            | (go_at_call 17; refine (ints7 (Nat.le_trans HQA.out.hl (by decide)) HAL.out HRA.out.ls).mono ?_; rintro e wb ⟨rfl, bb⟩; have HRB := Lib.hid (HRA.out.below bb); have HQB := Lib.hid (HQA.out.below' bb); have HBB := Lib.hid (HBA.out.trans (bb.mono HBA.out.size)); clear bb)
            | (go_at_call 19; refine (lenI HQB.out).mono ?_; rintro e wc ⟨rfl, rfl⟩))
          go_roundw
          case rel => exact ⟨j + 1, by omega, by go_num, _, ⟨_, HQB.out⟩, HRB.out, HBB.out⟩
          case measure => simp [intOf]; omega
        | cons y M =>
          have hM : M.length < 64 := by have := hl64; simp at this; omega
          go_wp2_with (first
            | (go_at_call 13; refine (popI HQ.out).mono ?_; rintro e w2 ⟨rfl, h2, t2⟩; have HQ2 := Lib.hid h2; have HR2 := Lib.hid (HR.out.tur t2 (by omega)); have HB2 := Lib.hid (t2.below HB.out hq0 HB.out.size); have c1' := (HB2.out.cell (p := ⟨b, o + j * 2 + 1, none⟩) hb).trans HAC.out.c1; have hq2 : q + 1 ≤ w2.heap.size := Nat.le_trans hql t2.size; clear h2 t2)
            | (go_at_call 14; refine (rpop_yes HR2.out hq2 hM).mono ?_; rintro e w3 ⟨u3, rfl, h3, b3⟩; obtain ⟨ra, rc, rfl, _, _⟩ := h3.open; have HRT := Lib.hid h3; have HQT := Lib.hid (HQ2.out.below' b3); have HBT := Lib.hid (HB2.out.trans (b3.mono HB2.out.size)); clear h3 b3)
            | (go_at_call 18; refine (all7 HQT.out).mono ?_; rintro e wa ⟨va, rfl, ha, ba⟩; have HAL := Lib.hid ha.ls; have HRA := Lib.hid (HRT.out.below ba); have HQA := Lib.hid (HQT.out.below' ba); have HBA := Lib.hid (HBT.out.trans (ba.mono HBT.out.size)); clear ha ba)
            | (go_at_call 17; refine (ints7 (Nat.le_trans HQA.out.hl (by decide)) HAL.out HRA.out.ls).mono ?_; rintro e wb ⟨rfl, bb⟩; have HRB := Lib.hid (HRA.out.below bb); have HQB := Lib.hid (HQA.out.below' bb); have HBB := Lib.hid (HBA.out.trans (bb.mono HBA.out.size)); clear bb)
            | (go_at_call 19; refine (lenI HQB.out).mono ?_; rintro e wc ⟨rfl, rfl⟩))
          go_roundw
          case rel => exact ⟨j + 1, by omega, by go_num, _, ⟨_, HQB.out⟩, HRB.out, HBB.out⟩
          case measure => simp [intOf]; omega
      · go_wp2_with (first
          | (go_at_call 15; refine (dropI HQ.out x).mono ?_; rintro e w2 ⟨rfl, ⟨f2, h2⟩, t2⟩; have HQ2 := Lib.hid h2; have HR2 := Lib.hid (HR.out.tur t2 (by omega)); have HB2 := Lib.hid (t2.below HB.out hq0 HB.out.size); have c1' := (HB2.out.cell (p := ⟨b, o + j * 2 + 1, none⟩) hb).trans HAC.out.c1; have hq2 : q + 1 ≤ w2.heap.size := Nat.le_trans hql t2.size; clear h2 t2)
          | (go_at_call 16; refine (rdrop HR2.out hq2 hl64 x).mono ?_; rintro e w3 ⟨u3, rfl, h3, b3⟩; obtain ⟨ra, rc, rfl, _, _⟩ := h3.open; have HRT := Lib.hid h3; have HQT := Lib.hid (HQ2.out.below' b3); have HBT := Lib.hid (HB2.out.trans (b3.mono HB2.out.size)); clear h3 b3)
          | (go_at_call 18; refine (all7 HQT.out).mono ?_; rintro e wa ⟨va, rfl, ha, ba⟩; have HAL := Lib.hid ha.ls; have HRA := Lib.hid (HRT.out.below ba); have HQA := Lib.hid (HQT.out.below' ba); have HBA := Lib.hid (HBT.out.trans (ba.mono HBT.out.size)); clear ha ba)
          | (go_at_call 17; refine (ints7 (Nat.le_trans HQA.out.hl (by decide)) HAL.out HRA.out.ls).mono ?_; rintro e wb ⟨rfl, bb⟩; have HRB := Lib.hid (HRA.out.below bb); have HQB := Lib.hid (HQA.out.below' bb); have HBB := Lib.hid (HBA.out.trans (bb.mono HBA.out.size)); clear bb)
          | (go_at_call 19; refine (lenI HQB.out).mono ?_; rintro e wc ⟨rfl, rfl⟩))
        go_roundw
        case rel => exact ⟨j + 1, by omega, by go_num, _, ⟨_, HQB.out⟩, HRB.out, HBB.out⟩
        case measure => simp [intOf]; omega
    · obtain rfl : j = N := by omega
      rcases HN3.out j hlt with c | ⟨c, c2⟩
      all_goals
        go_wp2
        go_ret
        exact ⟨rfl, HB.out⟩
set_option maxRecDepth 100000 in
theorem does_lifted (os : Os) (started : os.Started) (H : Type) (enc : TypeId × Value → H) :
    ReturnsInHanded {} Try.checked os 3 .any (Rows.queueDoesSpec.pre6 enc Try.prog Try.f3 Rows.queueDoesRow.domain false) (Rows.queueDoesSpec.post enc Try.prog Try.f3 false true false false) := by
  refine returnsInHanded_of_change (C := Try.checked) own started (by kernel_rfl) Try.func3
    (ChangeSpec.witness6 (enc := enc) (C := Try.checked) false ⟨#[], #[.slice none 0 0], []⟩ 8 (by kernel_rfl) (by kernel_rfl) (by kernel_rfl) (by kernel_rfl)) ?_
  intro W base args ds gs before hval0 hW _ _
  have hval : ∀ (j : Nat) t v, Try.f3.params[j]? = some t → args[j]? = some v → Value.okWide Try.prog W .any base t v := hval0
  have hW' := hW
  obtain ⟨p, q, hA0, hV, rfl, hfz, hnd⟩ := hW
  have hA : DataW.TrodAll enc Try.prog W 0 (fun _ => true) true Try.f3.params.toList args.toList ds p := hA0
  rw [Try.params3] at hA hval
  obtain ⟨v0, vs0, d0, ds0, p0, q0, hargs, rfl, rfl, h0, r0⟩ := trodAll_cons hA
  obtain ⟨rfl, rfl, rfl⟩ := trodAll_nil r0
  obtain rfl : args = #[v0] := by cases args; simp_all
  obtain ⟨a0, len0, cap0, rfl, hacts0⟩ := open_acts (hval 0 22 v0 rfl rfl) h0
  have hwalk : Calls Try.prog 3 #[.slice a0 len0 cap0] W fun e w' => e = .returned (.bool true) ∧ Below W.heap.size W w' := does_walk a0 len0 cap0 W hacts0
  refine hwalk.mono fun e W' ⟨he, bel⟩ => ⟨_, he, ?_⟩
  exact law_post laidOut (of_decide_eq_true (by kernel_rfl)) rfl Try.underlying4 rfl hW' (fun ds' e => by subst e; rfl) bel

theorem queueDoes_holds : Rows.QueueDoesSaid :=
  OpenClaim.holds_of_wide 3 Try.f3 rfl rfl rfl rfl rfl rfl rfl ⟨rfl, rfl, rfl, rfl, rfl⟩ rfl rfl rfl rfl rfl (by kernel_rfl) Try.func3 (by kernel_rfl)
    (of_decide_eq_true (by kernel_rfl)) (by unfold Func.isWrapper; rw [if_neg (by decide +kernel)]; exact ⟨rfl, rfl⟩)
    (fun os started H enc _ => does_lifted os started H enc)

#print axioms queueDoes_holds
end Go.Proofs.Ytaofnpnmgmieiaa
