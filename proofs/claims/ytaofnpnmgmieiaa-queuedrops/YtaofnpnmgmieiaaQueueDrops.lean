/- QueueDrops: for every list of numbers and every thing the law answers true: a drop takes the first equal thing out, and no other. No conditions. -/
import Derived.Test.YtaofnpnmgmieiaaQuPure2
namespace Go.Proofs.Ytaofnpnmgmieiaa
open Go.RowKit Go.ChangeShapes Go.WideShapes Go.ChangeAt

set_option maxRecDepth 100000 in
set_option maxHeartbeats 4000000 in
theorem drops_walk (a : Option Addr) (cap : Nat) (X : List Int) (v : Int) (w : World) (hX : LsI w 0 (.slice a X.length cap) X) (hm : X.length ≤ maxLen) :
    Calls Try.prog 8 #[.slice a X.length cap, .int .i64 v] w fun e w' => e = .returned (.bool true) ∧ Below w.heap.size w w' := by
  have S := shown7 w
  have HX := Lib.hid hX
  obtain ⟨N, hN⟩ : ∃ N : Nat, N = min X.length 60 := ⟨_, rfl⟩
  have hN1 : N ≤ 60 := by omega
  have hN2 : N ≤ X.length := by omega
  have HN3 : Hid (∀ j : Nat, ¬ j < N → ¬ (j : Int) < (X.length : Int) ∨ ((j : Int) < (X.length : Int) ∧ ¬ (j : Int) < 60)) := fun j hj => by omega
  unfold maxLen at hm
  clear hX hN
  obtain ⟨i0, hi, hz0, hz1, hz2⟩ := info_parts Try.infoInt7
  have HI := Lib.hid hi; have HZ0 := Lib.hid hz0; have HZ1 := Lib.hid hz1; have HZ2 := Lib.hid hz2
  clear hi hz0 hz1 hz2
  go_enter Try.func8, Try.ntmps8
  go_wp2_with (first
    | (go_at_call 9; refine S.mono ?_; clear S; rintro e w0 ⟨rfl, hB0⟩; have B0 := Lib.hid hB0; have NW := newI w0; clear hB0)
    | (go_at_call 10; refine NW.mono ?_; clear NW; rintro e w1 ⟨rfl, hq, hB⟩; have Q1 := Lib.hid hq; have B1 := Lib.hid (B0.out.trans (hB.mono B0.out.size)); have hq0 := B0.out.size; clear hq hB))
  generalize w0.heap.size = q at Q1 hq0 ⊢
  go_loopw [7] (fun i wr => ∃ j : Nat, j ≤ N ∧ i = .int .i64 (j : Int) ∧ (∃ f, QAt encI wr q 53 f (X.take j)) ∧ Below w.heap.size w wr) (fun i _ => N - (intOf i).toNat)
  case atStart => exact ⟨0, by omega, rfl, ⟨0, Q1.out⟩, B1.out⟩
  case round =>
    obtain ⟨j, hj, rfl, ⟨f, hQ⟩, hB⟩ := hrel
    have HQ := Lib.hid hQ; have HB := Lib.hid hB
    clear hQ hB
    by_cases hlt : j < N
    · obtain ⟨b, o, rfl, hb, hc⟩ := HX.out.arg (by omega)
      obtain ⟨x, hx⟩ : ∃ x, X[j]? = some x := ⟨_, List.getElem?_eq_getElem (by omega)⟩
      have cx := (HB.out.cell (p := ⟨b, o + j, none⟩) hb).trans (hc j x hx)
      have k1 : (j : Int) < (X.length : Int) := by omega
      have k2 : (j : Int) < 60 := by omega
      have HP := Lib.hid (push_lt HQ.out (by rw [List.length_take]; omega) x)
      rw [take_push hx] at HP
      clear hx hc
      go_wp2_with (go_at_call 11; refine HP.out.mono ?_; rintro e w2 ⟨rfl, h3, t3⟩; have HQ3 := Lib.hid h3; have HB2 := Lib.hid (t3.below HB.out hq0 HB.out.size); clear h3 t3)
      go_roundw
      case rel => exact ⟨j + 1, by omega, by go_num, ⟨_, HQ3.out⟩, HB2.out⟩
      case measure => simp [intOf]; omega
    · obtain rfl : j = N := by omega
      have h3 := HN3.out j hlt
      have HD := Lib.hid (dropI HQ.out v)
      obtain ⟨de, hde⟩ : ∃ de, dropE (X.take j) v = de := ⟨_, rfl⟩
      have HDE := Lib.hid hde
      rw [hde] at HD
      clear hj hde
      rcases h3 with c | ⟨c, c2⟩
      all_goals
        go_wp2_with (go_at_call 15; refine HD.out.mono ?_; rintro e w2 ⟨rfl, ⟨f2, h3⟩, t3⟩; have HQ2 := Lib.hid h3; have HB2 := Lib.hid (t3.below HB.out hq0 HB.out.size); clear h3 t3)
        go_loopw [9, 10, 11] (fun u d i wr2 => ∃ k : Nat, k ≤ j ∧ i = .int .i64 (k : Int) ∧ d = .bool ((X.take k).contains v) ∧ wr2.ownsRow w2.heap.size 3 1 u ((X.take k).erase v).length (((X.take k).erase v).map encI) ∧ Below w2.heap.size w2 wr2) (fun _ _ i _ => j - (intOf i).toNat)
        case atStart => exact ⟨0, by omega, rfl, rfl, World.ownsRow_nil _ _ _ _, Below.refl _ _⟩
        case round =>
          obtain ⟨k, hk, rfl, rfl, hO, hB2⟩ := hrel
          have HO := Lib.hid hO; have HBR := Lib.hid hB2
          clear hO hB2
          by_cases hkj : k < j
          · obtain ⟨b, o, rfl, hb, hc⟩ := HX.out.arg (by omega)
            obtain ⟨x, hx⟩ : ∃ x, X[k]? = some x := ⟨_, List.getElem?_eq_getElem (by omega)⟩
            have cx := (HBR.out.cell (p := ⟨b, o + k, none⟩) (Nat.lt_of_lt_of_le hb HB2.out.size)).trans ((HB2.out.cell (p := ⟨b, o + k, none⟩) hb).trans (hc k x hx))
            have k1 : (k : Int) < (X.length : Int) := by omega
            have k2 : (k : Int) < 60 := by omega
            have HCS : Hid ((X.take (k + 1)).contains v = ((X.take k).contains v || (x == v))) := by unfold Hid; rw [← take_push hx, contains_snoc]
            have HES : Hid ((X.take (k + 1)).erase v = if (X.take k).contains v = true then (X.take k).erase v ++ [x] else if (x == v) = true then X.take k else X.take k ++ [x]) := by unfold Hid; rw [← take_push hx, erase_snoc]
            have HLE : Hid (((X.take k).erase v).length ≤ k) := by unfold Hid; have := List.length_erase_le (a := v) (l := X.take k); rw [List.length_take] at this; omega
            have hle := HLE.out
            clear hx hc
            rcases hd : (X.take k).contains v with _ | _
            · have HD2 := Lib.hid hd
              have HNE : Hid ((X.take k).erase v = X.take k) := List.erase_of_not_mem (by simpa using hd)
              clear hd
              rcases he : (x == v) with _ | _
              · have HE := Lib.hid he
                go_wp2_with (at_builtin; refine wpList_append_own _ rfl _ _ 26 rfl w2.heap.size 3 i0 (.int .i64 0) 1 8 Try.underlying26 HI.out HZ0.out HZ1.out HZ2.out rfl (by decide) u9 _ _ rfl (HO.out.alloc _) ⟨wr.heap.size, 0, none⟩ 1 1 [.int .i64 x] rfl rfl (cell_one_new _ _ _) (by simp [Value.oneCell']) (by unfold maxLen; omega) (by omega) (by have := HBR.out.size; simp; omega) ?_; intro v1 w3 hown1 hgrow1 _; have HO1 := Lib.hid hown1; have HG1 := Lib.hid hgrow1; clear hown1 hgrow1)
                go_roundw
                case rel =>
                  refine ⟨k + 1, by omega, by go_num, by rw [HCS.out, HD2.out, HE.out]; rfl, ?_, (HBR.out.alloc HBR.out.size _).grown HG1.out (by have := HBR.out.size; simp; omega) (fun b e => HO.out.lt b e |>.1)⟩
                  have h5 := HES.out
                  rw [HD2.out] at h5
                  simp only [HE.out, Bool.false_eq_true, if_false] at h5
                  rw [h5, ← HNE.out]
                  rw [List.length_append, List.map_append]
                  exact HO1.out
                case measure => simp [intOf]; omega
              · have HE := Lib.hid he
                go_wp2
                go_roundw
                case rel =>
                  refine ⟨k + 1, by omega, by go_num, by rw [HCS.out, HE.out]; simp, ?_, HBR.out⟩
                  have h5 := HES.out
                  rw [HD2.out, HE.out] at h5
                  simp only [Bool.false_eq_true, if_false, if_true] at h5
                  rw [h5, ← HNE.out]
                  exact HO.out
                case measure => simp [intOf]; omega
            · have HD2 := Lib.hid hd
              clear hd
              rcases he : (x == v) with _ | _
              all_goals
                go_wp2_with (at_builtin; refine wpList_append_own _ rfl _ _ 26 rfl w2.heap.size 3 i0 (.int .i64 0) 1 8 Try.underlying26 HI.out HZ0.out HZ1.out HZ2.out rfl (by decide) u9 _ _ rfl (HO.out.alloc _) ⟨wr.heap.size, 0, none⟩ 1 1 [.int .i64 x] rfl rfl (cell_one_new _ _ _) (by simp [Value.oneCell']) (by unfold maxLen; omega) (by omega) (by have := HBR.out.size; simp; omega) ?_; intro v1 w3 hown1 hgrow1 _; have HO1 := Lib.hid hown1; have HG1 := Lib.hid hgrow1; clear hown1 hgrow1)
                go_roundw
                case rel =>
                  refine ⟨k + 1, by omega, by go_num, by rw [HCS.out, HD2.out]; simp, ?_, (HBR.out.alloc HBR.out.size _).grown HG1.out (by have := HBR.out.size; simp; omega) (fun b e => HO.out.lt b e |>.1)⟩
                  have h5 := HES.out
                  rw [HD2.out] at h5
                  simp only [if_true] at h5
                  rw [h5]
                  rw [List.length_append, List.map_append]
                  exact HO1.out
                case measure => simp [intOf]; omega
          · obtain rfl : k = j := by omega
            have HQR := Lib.hid (HQ2.out.below' HBR.out)
            have HLR := Lib.hid (LsI.own HO.out rfl)
            have HLE : Hid (((X.take k).erase v).length ≤ 1000) := by unfold Hid; have := List.length_erase_le (a := v) (l := X.take k); rw [List.length_take] at this; omega
            have h3 := HN3.out k hkj
            have hde := HDE.out
            unfold dropE at hde
            rcases hd : (X.take k).contains v with _ | _
            all_goals
              rw [hd] at hde
              simp only [Bool.false_eq_true, if_false, if_true] at hde
              subst hde
              go_wp2_with (first
                | (go_at_call 18; refine (all7 HQR.out).mono ?_; rintro e w3 ⟨v3, rfl, h3, b3⟩; have HA := Lib.hid h3.ls; have HR3 := Lib.hid (HLR.out.below b3); have HB3 := Lib.hid (HB2.out.trans ((HBR.out.trans (b3.mono HBR.out.size)).mono HB2.out.size)); clear h3 b3)
                | (go_at_call 17; refine (ints7 HLE.out HA.out HR3.out).mono ?_; rintro e w4 ⟨rfl, b4⟩; have HB4 := Lib.hid (HB3.out.trans (b4.mono HB3.out.size)); clear b4))
              go_ret
              exact ⟨rfl, HB4.out⟩
set_option maxRecDepth 100000 in
theorem drops_lifted (os : Os) (started : os.Started) (H : Type) (enc : TypeId × Value → H) :
    ReturnsInHanded {} Try.checked os 8 .any (Rows.queueDropsSpec.pre6 enc Try.prog Try.f8 Rows.queueDropsRow.domain false) (Rows.queueDropsSpec.post enc Try.prog Try.f8 false true false false) := by
  refine returnsInHanded_of_change (C := Try.checked) own started (by kernel_rfl) Try.func8
    (ChangeSpec.witness6 (enc := enc) (C := Try.checked) false ⟨#[], #[.slice none 0 0, .int .i64 0], []⟩ 8 (by kernel_rfl) (by kernel_rfl) (by kernel_rfl) (by kernel_rfl)) ?_
  intro W base args ds gs before hval0 hW _ _
  have hval : ∀ (j : Nat) t v, Try.f8.params[j]? = some t → args[j]? = some v → Value.okWide Try.prog W .any base t v := hval0
  have hW' := hW
  obtain ⟨p, q, hA0, hV, rfl, hfz, hnd⟩ := hW
  have hA : DataW.TrodAll enc Try.prog W 0 (fun _ => true) true Try.f8.params.toList args.toList ds p := hA0
  rw [Try.params8] at hA hval
  obtain ⟨v0, vs0, d0, ds0, p0, q0, hargs, rfl, rfl, h0, r0⟩ := trodAll_cons hA
  obtain ⟨v1, vs1, d1, ds1, p1, q1, rfl, rfl, rfl, h1, r1⟩ := trodAll_cons r0
  obtain ⟨rfl, rfl, rfl⟩ := trodAll_nil r1
  obtain rfl : args = #[v0, v1] := by cases args; simp_all
  obtain ⟨a0, cap0, X0, rfl, hX0, hm0⟩ := open_ints7 (hval 0 26 v0 rfl rfl) h0
  obtain ⟨x1, rfl, -, -, wf1⟩ := open_int Try.underlying3 (hval 1 3 v1 rfl rfl) h1
  have hwalk : Calls Try.prog 8 #[.slice a0 X0.length cap0, .int .i64 x1] W fun e w' => e = .returned (.bool true) ∧ Below W.heap.size W w' := drops_walk a0 cap0 X0 x1 W hX0 hm0
  refine hwalk.mono fun e W' ⟨he, bel⟩ => ⟨_, he, ?_⟩
  exact law_post laidOut (of_decide_eq_true (by kernel_rfl)) rfl Try.underlying4 rfl hW' (fun ds' e => by subst e; rfl) bel

theorem queueDrops_holds : Rows.QueueDropsSaid :=
  OpenClaim.holds_of_wide 8 Try.f8 rfl rfl rfl rfl rfl rfl rfl ⟨rfl, rfl, rfl, rfl, rfl⟩ rfl rfl rfl rfl rfl (by kernel_rfl) Try.func8 (by kernel_rfl)
    (of_decide_eq_true (by kernel_rfl)) (by unfold Func.isWrapper; rw [if_neg (by decide +kernel)]; exact ⟨rfl, rfl⟩)
    (fun os started H enc _ => drops_lifted os started H enc)

#print axioms queueDrops_holds
end Go.Proofs.Ytaofnpnmgmieiaa
