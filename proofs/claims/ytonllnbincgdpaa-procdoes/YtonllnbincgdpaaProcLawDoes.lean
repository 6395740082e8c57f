/- ProcDoes: for every list of acts the law answers true: what acts tell, and all processes behind each of them, are what the document's own table tells. No conditions. -/
import Derived.Test.YtonllnbincgdpaaProcDid
namespace Go.Proofs.Ytonllnbincgdpaa
open Go.RowKit Go.ChangeShapes Go.WideShapes Go.ChangeAt

set_option maxRecDepth 100000 in
set_option maxHeartbeats 4000000 in
theorem does6_walk (a : Option Addr) (len cap : Nat) (w : World) (hA : ActsAt w a len) :
    Calls Try.prog 3 #[.slice a len cap] w fun e w' => e = .returned (.bool true) ∧ Below w.heap.size w w' := by
  obtain ⟨hlen, hcell⟩ := hA
  have HC := Lib.hid hcell; clear hcell
  unfold maxLen at hlen
  go_enter Try.func3, Try.ntmps3
  go_wp2_with (first
    | (go_at_call 10; refine (shown6_any _).mono ?_; rintro e w0 ⟨rfl, hB0⟩; have HB0 := Lib.hid hB0; clear hB0)
    | (go_at_call 11; refine (new_any _).mono ?_; rintro e w1 ⟨p, m, rfl, h1, hp, hm, hB⟩; have H1 := Lib.hid h1; have HB1 := Lib.hid (HB0.out.trans (hB.mono HB0.out.size)); have hp' : w.heap.size ≤ p := Nat.le_trans HB0.out.size hp; have hm' : w.heap.size ≤ m := Nat.le_trans HB0.out.size hm; clear h1 hB)
    | (go_at_call 12; refine (rnew_any _).mono ?_; rintro e w2 ⟨q, rfl, h2, b2⟩; have H2 := Lib.hid (H1.out.below' b2); have HR2 := Lib.hid h2; have HB2 := Lib.hid (HB1.out.trans (b2.mono HB1.out.size)); clear h2 b2))
  have hpb := H1.out.p_lt; have hmb := H1.out.m_lt
  obtain ⟨base, hbase⟩ : ∃ base, base = w1.heap.size := ⟨_, rfl⟩
  rw [← hbase] at HR2 hpb hmb
  clear hbase
  go_loopw [6] (fun i wr => ∃ j : Nat, j ≤ len ∧ j ≤ 150 ∧ i = .int .i64 j ∧ ∃ L g, TabAt wr p m L g ∧ RTab wr base q L g ∧ PInv L ∧ CInv L ∧ Below w.heap.size w wr) (fun i _ => len - (intOf i).toNat)
  case atStart => exact ⟨0, by omega, by omega, rfl, [first1], 1, H2.out, HR2.out, pinv_first, cinv_first, HB2.out⟩
  case round =>
    obtain ⟨j, hj, hj150, rfl, L, g, hT, ⟨r, rcap, hR⟩, hI, hCI, hB⟩ := hrel
    by_cases hlt : j < len ∧ j < 150
    · obtain ⟨hl1, hl2⟩ := hlt
      obtain ⟨b, off, rfl, hb, hc⟩ := HC.out (by omega)
      obtain ⟨d, k, t, u, v, s, hA⟩ := hc j hl1
      obtain ⟨c0, c1, c2, c3, c4, c5, hs⟩ := hA.below hB hb
      have HI := Lib.hid (hI.step hT.ok ((IntKind.u64.wrap d).tmod 8) k t u v s)
      have HCI := Lib.hid (hCI.step g ((IntKind.u64.wrap d).tmod 8) k t u v s)
      have HB := Lib.hid hB
      have HD := Lib.hid (did_any (n := w.heap.size) hT hR hpb hmb hp' hm' hCI hI d k t u v s hs)
      have hn16 := (hT.ok.step ((IntKind.u64.wrap d).tmod 8) k t u v s).len
      clear hA hs hT hR hI hCI hB hc H1 HB0 HB1 H2 HR2 HB2
      generalize stL ((IntKind.u64.wrap d).tmod 8) k t u v s L g = L' at HD HI HCI hn16
      generalize stG ((IntKind.u64.wrap d).tmod 8) k L g = g' at HD
      have hn0 : 0 < L'.length := HI.out.pos
      go_wp2_with (first
        | (go_at_call 13; refine HD.out.mono ?_; rintro e w3 ⟨rfl, h3, ⟨r', rcap', hR3⟩, b3⟩; have HT3 := Lib.hid h3; have HR3 := Lib.hid hR3; have HB3 := Lib.hid (HB.out.trans b3); clear h3 b3 hR3)
        | (go_at_call 14; refine (pids_any HT3.out).mono ?_; rintro e w4 ⟨vv, rfl, h4, b4⟩; obtain ⟨rr, rc, rfl⟩ := h4.open (by simpa using hn0); rw [List.length_map] at h4 ⊢; have HP := Lib.hid h4; have HT4 := Lib.hid (HT3.out.below' b4); have HR4 := Lib.hid (HR3.out.below b4); have q0 := HR4.out.c0; have HB4 := Lib.hid (HB3.out.trans (b4.mono HB3.out.size)); clear h4 b4))
      clear c0 c1 c2 c3 c4 c5
      go_loopw [9] (fun x wi => ∃ i : Nat, i ≤ L'.length ∧ x = .int .i64 i ∧ TabAt wi p m L' g' ∧ RT wi base q r' rcap' L' g' ∧ SlG wi w3.heap.size (.slice (some ⟨rr, 0, none⟩) L'.length rc) (L'.map (·.pid)) ∧ Below w.heap.size w wi) (fun x _ => L'.length - (intOf x).toNat)
      case atStart => exact ⟨0, by omega, rfl, HT4.out, HR4.out, HP.out, HB4.out⟩
      case round =>
        obtain ⟨i, hi, rfl, hTi, hRi, hPi, hBi⟩ := hrel
        have q1 := hRi.c0
        clear q0
        by_cases hil : i < L'.length
        · obtain ⟨x, hx⟩ : ∃ x, L'[i]? = some x := ⟨_, List.getElem?_eq_getElem hil⟩
          have hX : (L'.map (·.pid))[i]? = some x.pid := by simp [hx]
          have hcy := hPi.cell_at hX
          have hG := get_in hTi (List.mem_of_getElem? hx)
          have HX := Lib.hid hx
          have HTi := Lib.hid hTi; have HRi := Lib.hid hRi; have HPi := Lib.hid hPi; have HBi := Lib.hid hBi
          clear hTi hRi hPi hBi hx hX
          obtain ⟨a0, a1, a2, a3, a4, a5, a6, a7⟩ := x
          dsimp only at hcy hG
          have HG := Lib.hid hG; clear hG
          have hzz := neq_proc ⟨a0, a1, a2, a3, a4, a5, a6, a7⟩
          unfold PV.cells at hzz
          dsimp only at hzz
          go_wp2_with (go_at_call 15; refine HG.out.mono ?_; rintro e w5 ⟨rfl, b5⟩; unfold PV.val PV.cells; dsimp only; have b6 := b5.alloc b5.size (.cells #[.int .i64 a0, .int .i64 a1, .int .i64 a2, .int .i64 a3, .int .i64 a4, .string a5, .int .i64 a6, .bool a7] 39); have HT6 := Lib.hid (HTi.out.below' b6); have HR6 := Lib.hid (HRi.out.below b6); have HP6 := Lib.hid (HPi.out.below b6); have HB6 := Lib.hid (HBi.out.trans (b6.mono HBi.out.size)); have q6 := HR6.out.c0; have x0 : (w5.alloc (.cells #[.int .i64 a0, .int .i64 a1, .int .i64 a2, .int .i64 a3, .int .i64 a4, .string a5, .int .i64 a6, .bool a7] 39)).cell? ⟨r', i * 8, none⟩ = some (.int .i64 a0) := HR6.out.at HX.out 0 rfl; have x1 := HR6.out.at HX.out 1 rfl; have x2 := HR6.out.at HX.out 2 rfl; have x3 := HR6.out.at HX.out 3 rfl; have x4 := HR6.out.at HX.out 4 rfl; have x5 := HR6.out.at HX.out 5 rfl; have x6 := HR6.out.at HX.out 6 rfl; have x7 := HR6.out.at HX.out 7 rfl; clear b5 b6)
          go_quiet (fail)
          go_wp2
          go_roundw
          case rel => exact ⟨i + 1, by omega, by go_num, HT6.out.keep rfl rfl, HR6.out.keep rfl rfl, HP6.out.below (below_drewN' (Below.refl _ _)), below_drewN' HB6.out⟩
          case measure => simp [intOf]; omega
        · obtain rfl : i = L'.length := by omega
          have HTi := Lib.hid hTi; have HRi := Lib.hid hRi; have HBi := Lib.hid hBi
          clear hTi hRi hPi hBi
          go_wp2
          go_roundw
          case rel => exact ⟨j + 1, by omega, by omega, by go_num, L', g', HTi.out, ⟨_, _, HRi.out⟩, HI.out, HCI.out, HBi.out⟩
          case measure => simp [intOf]; omega
    · clear HC
      rcases (show ¬ j < len ∨ (j < len ∧ ¬ j < 150) by omega) with c | ⟨c, c2⟩
      all_goals
        go_wp2
        go_ret
        exact ⟨rfl, hB⟩

set_option maxRecDepth 100000 in
theorem does6_lifted (os : Os) (started : os.Started) (H : Type) (enc : TypeId × Value → H) :
    ReturnsInHanded {} Try.checked os 3 .any (Rows.procDoesSpec.pre6 enc Try.prog Try.f3 Rows.procDoesRow.domain false) (Rows.procDoesSpec.post enc Try.prog Try.f3 false true false false) := by
  refine returnsInHanded_of_change (C := Try.checked) own started (by kernel_rfl) Try.func3
    (ChangeSpec.witness6 (enc := enc) (C := Try.checked) false ⟨#[], #[.slice none 0 0], []⟩ 8 (by kernel_rfl) (by kernel_rfl) (by kernel_rfl) (by kernel_rfl)) ?_
  intro W base args ds gs before hval0 hW _ _
  have hval : ∀ (j : Nat) t v, Try.f3.params[j]? = some t → args[j]? = some v → Value.okWide Try.prog W .any base t v := hval0
  have hW' := hW
  obtain ⟨p, q, hA0, hV, rfl, hfz, hnd⟩ := hW
  have hA : DataW.TrodAll enc Try.prog W 0 (fun _ => true) true Try.f3.params.toList args.toList ds p := hA0
  rw [Try.params3] at hA hval
  obtain ⟨v0, vs0, d0, ds0, p0, q0, hargs, rfl, rfl, h0, r0⟩ := trodAll_cons hA
  obtain ⟨rfl, rfl, rfl⟩ := trodAll_nil r0
  obtain rfl : args = #[v0] := by cases args; simp_all
  obtain ⟨a0, len0, cap0, rfl, hacts0⟩ := open_acts6 (hval 0 22 v0 rfl rfl) h0
  have hwalk : Calls Try.prog 3 #[.slice a0 len0 cap0] W fun e w' => e = .returned (.bool true) ∧ Below W.heap.size W w' := does6_walk _ _ _ W hacts0
  refine hwalk.mono fun e W' ⟨he, bel⟩ => ⟨_, he, ?_⟩
  exact law_post laidOut (of_decide_eq_true (by kernel_rfl)) rfl Try.underlying4 rfl hW' (fun ds' e => by subst e; rfl) bel

theorem procDoes_holds : Rows.ProcDoesSaid :=
  OpenClaim.holds_of_wide 3 Try.f3 rfl rfl rfl rfl rfl rfl rfl ⟨rfl, rfl, rfl, rfl, rfl⟩ rfl rfl rfl rfl rfl (by kernel_rfl) Try.func3 (by kernel_rfl)
    (of_decide_eq_true (by kernel_rfl)) (by unfold Func.isWrapper; rw [if_neg (by decide +kernel)]; exact ⟨rfl, rfl⟩)
    (fun os started H enc _ => does6_lifted os started H enc)

#print axioms procDoes_holds
end Go.Proofs.Ytonllnbincgdpaa
