/- ProcParents: for every list of acts the law answers true: each process but 1 has a parent that is there, and is no zombie; numbers rise, and none is given twice. No conditions. -/
import Derived.Test.YtonllnbincgdpaaProcLawBase
namespace Go.Proofs.Ytonllnbincgdpaa
open Go.RowKit Go.ChangeShapes Go.WideShapes Go.ChangeAt

theorem max_l {g : Int} (h : 1 ≤ g) : Value.int .i64 (max g 0) = .int .i64 g := by congr 1; omega
theorem max_r {g : Int} : Value.int .i64 (max g (g + 1)) = .int .i64 (g + 1) := by congr 1; omega

set_option maxRecDepth 100000 in
set_option maxHeartbeats 4000000 in
theorem parents_walk (a : Option Addr) (len cap : Nat) (w : World) (hA : ActsAt w a len) :
    Calls Try.prog 5 #[.slice a len cap] w fun e w' => e = .returned (.bool true) ∧ Below w.heap.size w w' := by
  obtain ⟨hlen, hcell⟩ := hA
  have HC := Lib.hid hcell; clear hcell
  unfold maxLen at hlen
  go_enter Try.func5, Try.ntmps5
  go_wp2_with (first
    | (go_at_call 10; refine (shown6_any _).mono ?_; rintro e w0 ⟨rfl, hB0⟩; have HB0 := Lib.hid hB0; clear hB0)
    | (go_at_call 11; refine (new_any _).mono ?_; rintro e w1 ⟨p, m, rfl, h1, hp, hm, hB⟩; have H1 := Lib.hid h1; have HB1 := Lib.hid (HB0.out.trans (hB.mono HB0.out.size)); have hp' : w.heap.size ≤ p := Nat.le_trans HB0.out.size hp; have hm' : w.heap.size ≤ m := Nat.le_trans HB0.out.size hm; clear h1 hB))
  go_loopw [5, 6] (fun l i wr => ∃ j : Nat, j ≤ len ∧ j ≤ 150 ∧ i = .int .i64 j ∧ ∃ L g, l = .int .i64 g ∧ TabAt wr p m L g ∧ PInv L ∧ Below w.heap.size w wr) (fun _ i _ => len - (intOf i).toNat)
  case atStart => exact ⟨0, by omega, by omega, rfl, [first1], 1, rfl, H1.out, pinv_first, HB1.out⟩
  case round =>
    obtain ⟨j, hj, hj150, rfl, L, g, rfl, hT, hI, hB⟩ := hrel
    by_cases hlt : j < len ∧ j < 150
    · obtain ⟨hl1, hl2⟩ := hlt
      obtain ⟨b, off, rfl, hb, hc⟩ := HC.out (by omega)
      obtain ⟨d, k, t, u, v, s, hA⟩ := hc j hl1
      obtain ⟨c0, c1, c2, c3, c4, c5, hs⟩ := hA.below hB hb
      have HS := Lib.hid hs
      have hgm := hT.ok.gmax; have hg1 := hT.ok.g1
      have HI := Lib.hid (hI.step hT.ok ((IntKind.u64.wrap d).tmod 8) k t u v s)
      have HB := Lib.hid hB
      have hD := done_any hT d k t u v s HS.out
      have hn16 := (hT.ok.step ((IntKind.u64.wrap d).tmod 8) k t u v s).len
      have h2 := stG_two ((IntKind.u64.wrap d).tmod 8) k L g
      generalize stL ((IntKind.u64.wrap d).tmod 8) k t u v s L g = L' at hD HI hn16
      have hn0 : 0 < L'.length := HI.out.pos
      clear hA hs hT hI hB hc H1 HB0
      rcases h2 with ⟨e1, e2⟩ | ⟨e1, e2⟩
      · rw [e1, e2] at hD
        clear e1 e2
        have HD := Lib.hid hD
        clear hD
        go_wp2_with (first
          | (go_at_call 23; refine HD.out.mono ?_; rintro e w2 ⟨rfl, h2, t2⟩; have HT2 := Lib.hid h2; have HB2 := Lib.hid (t2.below HB.out hp' hm' HB.out.size); clear h2 t2)
          | (go_at_call 14; refine (pids_any HT2.out).mono ?_; rintro e w3 ⟨vv, rfl, h3, b3⟩; obtain ⟨r, rc, rfl⟩ := h3.open (by simpa using hn0); rw [List.length_map] at h3 ⊢; have HP := Lib.hid h3; have HT3 := Lib.hid (HT2.out.below' b3); have HB3 := Lib.hid (HB2.out.trans (b3.mono HB2.out.size)); clear h3 b3))
        go_loopw [9] (fun x wi => ∃ i : Nat, i ≤ L'.length ∧ x = .int .i64 i ∧ TabAt wi p m L' g ∧ SlG wi w2.heap.size (.slice (some ⟨r, 0, none⟩) L'.length rc) (L'.map (·.pid)) ∧ Below w.heap.size w wi) (fun x _ => L'.length - (intOf x).toNat)
        case atStart => exact ⟨0, by omega, rfl, HT3.out, HP.out, HB3.out⟩
        case round =>
          obtain ⟨i, hi, rfl, hTi, hPi, hBi⟩ := hrel
          by_cases hil : i < L'.length
          · obtain ⟨q, hq⟩ : ∃ q, L'[i]? = some q := ⟨_, List.getElem?_eq_getElem hil⟩
            have hX : (L'.map (·.pid))[i]? = some q.pid := by simp [hq]
            have hcy := hPi.cell_at hX
            have hqm := List.mem_of_getElem? hq
            have hG := get_in hTi hqm
            by_cases h1 : q.pid = 1
            · obtain ⟨hp0, -⟩ := HI.out.ones q hqm h1
              have HTi := Lib.hid hTi; have HPi := Lib.hid hPi; have HBi := Lib.hid hBi
              clear hTi hPi hBi hq hqm
              obtain ⟨a0, a1, a2, a3, a4, a5, a6, a7⟩ := q
              dsimp only at h1 hp0 hcy hG hX
              subst h1; subst hp0
              have HG := Lib.hid hG; have HX := Lib.hid hX; clear hG hX
              go_wp2_with (go_at_call 15; refine HG.out.mono ?_; rintro e w4 ⟨rfl, b4⟩; unfold PV.val PV.cells; dsimp only; have b5 := b4.alloc b4.size (.cells #[.int .i64 1, .int .i64 0, .int .i64 a2, .int .i64 a3, .int .i64 a4, .string a5, .int .i64 a6, .bool a7] 39); have bX := BoxA.new w4 39 #[.int .i64 1, .int .i64 0, .int .i64 a2, .int .i64 a3, .int .i64 a4, .string a5, .int .i64 a6, .bool a7]; have x0 := bX.at 0 rfl; have x1 := bX.at 1 rfl; have d0 := (HPi.out.below b5).cell_at HX.out; have HT5 := Lib.hid (HTi.out.below' b5); have HP5 := Lib.hid (HPi.out.below b5); have HB5 := Lib.hid (HBi.out.trans (b5.mono HBi.out.size)); clear bX b4 b5)
              go_quiet (fail)
              go_wp2
              go_roundw
              case rel => exact ⟨i + 1, by omega, by go_num, HT5.out.keep rfl rfl, HP5.out.below (below_drewN' (Below.refl _ _)), below_drewN' HB5.out⟩
              case measure => simp [intOf]; omega
            · obtain ⟨r1, hr1, hr3⟩ := HI.out.get1 hTi.ok hqm h1
              have b1 : (q.pid == 1) = false := by simpa using h1
              have HR := Lib.hid hr1
              have HTi := Lib.hid hTi; have HPi := Lib.hid hPi; have HBi := Lib.hid hBi
              clear hTi hPi hBi hq hqm h1 hr1
              obtain ⟨a0, a1, a2, a3, a4, a5, a6, a7⟩ := q
              obtain ⟨z0, z1, z2, z3, z4, z5, z6, z7⟩ := r1
              dsimp only at hcy hG hX b1 hr3 HR
              have HG := Lib.hid hG; have HX := Lib.hid hX; clear hG hX
              go_wp2_with (go_at_call 15; refine HG.out.mono ?_; rintro e w4 ⟨rfl, b4⟩; unfold PV.val PV.cells; dsimp only; have b5 := b4.alloc b4.size (.cells #[.int .i64 a0, .int .i64 a1, .int .i64 a2, .int .i64 a3, .int .i64 a4, .string a5, .int .i64 a6, .bool a7] 39); have bX := BoxA.new w4 39 #[.int .i64 a0, .int .i64 a1, .int .i64 a2, .int .i64 a3, .int .i64 a4, .string a5, .int .i64 a6, .bool a7]; have x0 := bX.at 0 rfl; have x1 := bX.at 1 rfl; have d0 := (HPi.out.below b5).cell_at HX.out; have HT5 := Lib.hid (HTi.out.below' b5); have HP5 := Lib.hid (HPi.out.below b5); have HB5 := Lib.hid (HBi.out.trans (b5.mono HBi.out.size)); clear bX b4 b5)
              go_quiet (fail)
              have HT6 : Hid (∀ n, TabAt ((w4.alloc (.cells #[.int .i64 a0, .int .i64 a1, .int .i64 a2, .int .i64 a3, .int .i64 a4, .string a5, .int .i64 a6, .bool a7] 39)).drewN n) p m L' g) := fun n => HT5.out.keep rfl rfl
              have HP6 : Hid (∀ n, SlG ((w4.alloc (.cells #[.int .i64 a0, .int .i64 a1, .int .i64 a2, .int .i64 a3, .int .i64 a4, .string a5, .int .i64 a6, .bool a7] 39)).drewN n) w2.heap.size (.slice (some ⟨r, 0, none⟩) L'.length rc) (L'.map (·.pid))) := fun n => HP5.out.below (below_drewN' (Below.refl _ _))
              have HB6 : Hid (∀ n, Below w.heap.size w ((w4.alloc (.cells #[.int .i64 a0, .int .i64 a1, .int .i64 a2, .int .i64 a3, .int .i64 a4, .string a5, .int .i64 a6, .bool a7] 39)).drewN n)) := fun n => below_drewN' HB5.out
              go_wp2_with (go_at_call 15; refine (get_at (HT6.out _) HR.out).mono ?_; rintro e w6 ⟨rfl, b6⟩; unfold PV.val PV.cells; dsimp only; have HT7 := Lib.hid (((HT6.out _).below' b6).alloc (.cells #[.int .i64 z0, .int .i64 z1, .int .i64 z2, .int .i64 z3, .int .i64 z4, .string z5, .int .i64 z6, .bool z7] 39)); have HP7 := Lib.hid ((HP6.out _).below (b6.alloc b6.size (.cells #[.int .i64 z0, .int .i64 z1, .int .i64 z2, .int .i64 z3, .int .i64 z4, .string z5, .int .i64 z6, .bool z7] 39))); have HB7 := Lib.hid ((HB6.out _).trans ((b6.alloc b6.size (.cells #[.int .i64 z0, .int .i64 z1, .int .i64 z2, .int .i64 z3, .int .i64 z4, .string z5, .int .i64 z6, .bool z7] 39)).mono (HB6.out _).size)); clear b6)
              go_roundw
              case rel => exact ⟨i + 1, by omega, by go_num, HT7.out, HP7.out, HB7.out⟩
              case measure => simp [intOf]; omega
          · obtain rfl : i = L'.length := by omega
            go_wp2
            go_roundw
            case rel => exact ⟨j + 1, by omega, by omega, by go_num, L', g, max_l hg1, hTi, HI.out, hBi⟩
            case measure => simp [intOf]; omega
      · rw [e1, e2] at hD
        clear e1 e2
        have HD := Lib.hid hD
        clear hD
        go_wp2_with (first
          | (go_at_call 23; refine HD.out.mono ?_; rintro e w2 ⟨rfl, h2, t2⟩; have HT2 := Lib.hid h2; have HB2 := Lib.hid (t2.below HB.out hp' hm' HB.out.size); clear h2 t2)
          | (go_at_call 14; refine (pids_any HT2.out).mono ?_; rintro e w3 ⟨vv, rfl, h3, b3⟩; obtain ⟨r, rc, rfl⟩ := h3.open (by simpa using hn0); rw [List.length_map] at h3 ⊢; have HP := Lib.hid h3; have HT3 := Lib.hid (HT2.out.below' b3); have HB3 := Lib.hid (HB2.out.trans (b3.mono HB2.out.size)); clear h3 b3))
        go_loopw [9] (fun x wi => ∃ i : Nat, i ≤ L'.length ∧ x = .int .i64 i ∧ TabAt wi p m L' (g + 1) ∧ SlG wi w2.heap.size (.slice (some ⟨r, 0, none⟩) L'.length rc) (L'.map (·.pid)) ∧ Below w.heap.size w wi) (fun x _ => L'.length - (intOf x).toNat)
        case atStart => exact ⟨0, by omega, rfl, HT3.out, HP.out, HB3.out⟩
        case round =>
          obtain ⟨i, hi, rfl, hTi, hPi, hBi⟩ := hrel
          by_cases hil : i < L'.length
          · obtain ⟨q, hq⟩ : ∃ q, L'[i]? = some q := ⟨_, List.getElem?_eq_getElem hil⟩
            have hX : (L'.map (·.pid))[i]? = some q.pid := by simp [hq]
            have hcy := hPi.cell_at hX
            have hqm := List.mem_of_getElem? hq
            have hG := get_in hTi hqm
            by_cases h1 : q.pid = 1
            · obtain ⟨hp0, -⟩ := HI.out.ones q hqm h1
              have HTi := Lib.hid hTi; have HPi := Lib.hid hPi; have HBi := Lib.hid hBi
              clear hTi hPi hBi hq hqm
              obtain ⟨a0, a1, a2, a3, a4, a5, a6, a7⟩ := q
              dsimp only at h1 hp0 hcy hG hX
              subst h1; subst hp0
              have HG := Lib.hid hG; have HX := Lib.hid hX; clear hG hX
              go_wp2_with (go_at_call 15; refine HG.out.mono ?_; rintro e w4 ⟨rfl, b4⟩; unfold PV.val PV.cells; dsimp only; have b5 := b4.alloc b4.size (.cells #[.int .i64 1, .int .i64 0, .int .i64 a2, .int .i64 a3, .int .i64 a4, .string a5, .int .i64 a6, .bool a7] 39); have bX := BoxA.new w4 39 #[.int .i64 1, .int .i64 0, .int .i64 a2, .int .i64 a3, .int .i64 a4, .string a5, .int .i64 a6, .bool a7]; have x0 := bX.at 0 rfl; have x1 := bX.at 1 rfl; have d0 := (HPi.out.below b5).cell_at HX.out; have HT5 := Lib.hid (HTi.out.below' b5); have HP5 := Lib.hid (HPi.out.below b5); have HB5 := Lib.hid (HBi.out.trans (b5.mono HBi.out.size)); clear bX b4 b5)
              go_quiet (fail)
              go_wp2
              go_roundw
              case rel => exact ⟨i + 1, by omega, by go_num, HT5.out.keep rfl rfl, HP5.out.below (below_drewN' (Below.refl _ _)), below_drewN' HB5.out⟩
              case measure => simp [intOf]; omega
            · obtain ⟨r1, hr1, hr3⟩ := HI.out.get1 hTi.ok hqm h1
              have b1 : (q.pid == 1) = false := by simpa using h1
              have HR := Lib.hid hr1
              have HTi := Lib.hid hTi; have HPi := Lib.hid hPi; have HBi := Lib.hid hBi
              clear hTi hPi hBi hq hqm h1 hr1
              obtain ⟨a0, a1, a2, a3, a4, a5, a6, a7⟩ := q
              obtain ⟨z0, z1, z2, z3, z4, z5, z6, z7⟩ := r1
              dsimp only at hcy hG hX b1 hr3 HR
              have HG := Lib.hid hG; have HX := Lib.hid hX; clear hG hX
              go_wp2_with (go_at_call 15; refine HG.out.mono ?_; rintro e w4 ⟨rfl, b4⟩; unfold PV.val PV.cells; dsimp only; have b5 := b4.alloc b4.size (.cells #[.int .i64 a0, .int .i64 a1, .int .i64 a2, .int .i64 a3, .int .i64 a4, .string a5, .int .i64 a6, .bool a7] 39); have bX := BoxA.new w4 39 #[.int .i64 a0, .int .i64 a1, .int .i64 a2, .int .i64 a3, .int .i64 a4, .string a5, .int .i64 a6, .bool a7]; have x0 := bX.at 0 rfl; have x1 := bX.at 1 rfl; have d0 := (HPi.out.below b5).cell_at HX.out; have HT5 := Lib.hid (HTi.out.below' b5); have HP5 := Lib.hid (HPi.out.below b5); have HB5 := Lib.hid (HBi.out.trans (b5.mono HBi.out.size)); clear bX b4 b5)
              go_quiet (fail)
              have HT6 : Hid (∀ n, TabAt ((w4.alloc (.cells #[.int .i64 a0, .int .i64 a1, .int .i64 a2, .int .i64 a3, .int .i64 a4, .string a5, .int .i64 a6, .bool a7] 39)).drewN n) p m L' (g + 1)) := fun n => HT5.out.keep rfl rfl
              have HP6 : Hid (∀ n, SlG ((w4.alloc (.cells #[.int .i64 a0, .int .i64 a1, .int .i64 a2, .int .i64 a3, .int .i64 a4, .string a5, .int .i64 a6, .bool a7] 39)).drewN n) w2.heap.size (.slice (some ⟨r, 0, none⟩) L'.length rc) (L'.map (·.pid))) := fun n => HP5.out.below (below_drewN' (Below.refl _ _))
              have HB6 : Hid (∀ n, Below w.heap.size w ((w4.alloc (.cells #[.int .i64 a0, .int .i64 a1, .int .i64 a2, .int .i64 a3, .int .i64 a4, .string a5, .int .i64 a6, .bool a7] 39)).drewN n)) := fun n => below_drewN' HB5.out
              go_wp2_with (go_at_call 15; refine (get_at (HT6.out _) HR.out).mono ?_; rintro e w6 ⟨rfl, b6⟩; unfold PV.val PV.cells; dsimp only; have HT7 := Lib.hid (((HT6.out _).below' b6).alloc (.cells #[.int .i64 z0, .int .i64 z1, .int .i64 z2, .int .i64 z3, .int .i64 z4, .string z5, .int .i64 z6, .bool z7] 39)); have HP7 := Lib.hid ((HP6.out _).below (b6.alloc b6.size (.cells #[.int .i64 z0, .int .i64 z1, .int .i64 z2, .int .i64 z3, .int .i64 z4, .string z5, .int .i64 z6, .bool z7] 39))); have HB7 := Lib.hid ((HB6.out _).trans ((b6.alloc b6.size (.cells #[.int .i64 z0, .int .i64 z1, .int .i64 z2, .int .i64 z3, .int .i64 z4, .string z5, .int .i64 z6, .bool z7] 39)).mono (HB6.out _).size)); clear b6)
              go_roundw
              case rel => exact ⟨i + 1, by omega, by go_num, HT7.out, HP7.out, HB7.out⟩
              case measure => simp [intOf]; omega
          · obtain rfl : i = L'.length := by omega
            go_wp2
            go_roundw
            case rel => exact ⟨j + 1, by omega, by omega, by go_num, L', (g + 1), max_r, hTi, HI.out, hBi⟩
            case measure => simp [intOf]; omega
    · clear HC
      rcases (show ¬ j < len ∨ (j < len ∧ ¬ j < 150) by omega) with c | ⟨c, c2⟩
      all_goals
        go_wp2
        go_ret
        exact ⟨rfl, hB⟩

set_option maxRecDepth 100000 in
theorem parents_lifted (os : Os) (started : os.Started) (H : Type) (enc : TypeId × Value → H) :
    ReturnsInHanded {} Try.checked os 5 .any (Rows.procParentsSpec.pre6 enc Try.prog Try.f5 Rows.procParentsRow.domain false) (Rows.procParentsSpec.post enc Try.prog Try.f5 false true false false) := by
  refine returnsInHanded_of_change (C := Try.checked) own started (by kernel_rfl) Try.func5
    (ChangeSpec.witness6 (enc := enc) (C := Try.checked) false ⟨#[], #[.slice none 0 0], []⟩ 8 (by kernel_rfl) (by kernel_rfl) (by kernel_rfl) (by kernel_rfl)) ?_
  intro W base args ds gs before hval0 hW _ _
  have hval : ∀ (j : Nat) t v, Try.f5.params[j]? = some t → args[j]? = some v → Value.okWide Try.prog W .any base t v := hval0
  have hW' := hW
  obtain ⟨p, q, hA0, hV, rfl, hfz, hnd⟩ := hW
  have hA : DataW.TrodAll enc Try.prog W 0 (fun _ => true) true Try.f5.params.toList args.toList ds p := hA0
  rw [Try.params5] at hA hval
  obtain ⟨v0, vs0, d0, ds0, p0, q0, hargs, rfl, rfl, h0, r0⟩ := trodAll_cons hA
  obtain ⟨rfl, rfl, rfl⟩ := trodAll_nil r0
  obtain rfl : args = #[v0] := by cases args; simp_all
  obtain ⟨a0, len0, cap0, rfl, hacts0⟩ := open_acts6 (hval 0 22 v0 rfl rfl) h0
  have hwalk : Calls Try.prog 5 #[.slice a0 len0 cap0] W fun e w' => e = .returned (.bool true) ∧ Below W.heap.size W w' := parents_walk _ _ _ W hacts0
  refine hwalk.mono fun e W' ⟨he, bel⟩ => ⟨_, he, ?_⟩
  exact law_post laidOut (of_decide_eq_true (by kernel_rfl)) rfl Try.underlying4 rfl hW' (fun ds' e => by subst e; rfl) bel

theorem procParents_holds : Rows.ProcParentsSaid :=
  OpenClaim.holds_of_wide 5 Try.f5 rfl rfl rfl rfl rfl rfl rfl ⟨rfl, rfl, rfl, rfl, rfl⟩ rfl rfl rfl rfl rfl (by kernel_rfl) Try.func5 (by kernel_rfl)
    (of_decide_eq_true (by kernel_rfl)) (by unfold Func.isWrapper; rw [if_neg (by decide +kernel)]; exact ⟨rfl, rfl⟩)
    (fun os started H enc _ => parents_lifted os started H enc)

#print axioms procParents_holds
end Go.Proofs.Ytonllnbincgdpaa
