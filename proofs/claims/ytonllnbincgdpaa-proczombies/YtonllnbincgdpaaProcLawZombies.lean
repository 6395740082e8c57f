/- ProcZombies: for every list of acts the law answers true: a zombie stays one, as it is, but for its parent, until it is reaped, by its parent. No conditions. -/
import Derived.Test.YtonllnbincgdpaaProcWas
namespace Go.Proofs.Ytonllnbincgdpaa
open Go.RowKit Go.ChangeShapes Go.WideShapes Go.ChangeAt

set_option maxRecDepth 100000 in
set_option maxHeartbeats 4000000 in
theorem zombies_walk (a : Option Addr) (len cap : Nat) (w : World) (hA : ActsAt w a len) :
    Calls Try.prog 6 #[.slice a len cap] w fun e w' => e = .returned (.bool true) ∧ Below w.heap.size w w' := by
  obtain ⟨hlen, hcell⟩ := hA
  have HC := Lib.hid hcell; clear hcell
  unfold maxLen at hlen
  go_enter Try.func6, Try.ntmps6
  go_wp2_with (first
    | (go_at_call 10; refine (shown6_any _).mono ?_; rintro e w0 ⟨rfl, hB0⟩; have HB0 := Lib.hid hB0; clear hB0)
    | (go_at_call 11; refine (new_any _).mono ?_; rintro e w1 ⟨p, m, rfl, h1, hp, hm, hB⟩; have H1 := Lib.hid h1; have HB1 := Lib.hid (HB0.out.trans (hB.mono HB0.out.size)); have hp' : w.heap.size ≤ p := Nat.le_trans HB0.out.size hp; have hm' : w.heap.size ≤ m := Nat.le_trans HB0.out.size hm; clear h1 hB))
  go_loopw [5] (fun i wr => ∃ j : Nat, j ≤ len ∧ j ≤ 150 ∧ i = .int .i64 j ∧ ∃ L g, TabAt wr p m L g ∧ PInv L ∧ Below w.heap.size w wr) (fun i _ => len - (intOf i).toNat)
  case atStart => exact ⟨0, by omega, by omega, rfl, [first1], 1, H1.out, pinv_first, HB1.out⟩
  case round =>
    obtain ⟨j, hj, hj150, rfl, L, g, hT, hI, hB⟩ := hrel
    by_cases hlt : j < len ∧ j < 150
    · obtain ⟨hl1, hl2⟩ := hlt
      obtain ⟨b, off, rfl, hb, hc⟩ := HC.out (by omega)
      obtain ⟨d, k, t, u, v, s, hA⟩ := hc j hl1
      have HA := Lib.hid hA
      have hn0 : 0 < L.length := hI.pos
      have hn16 := hT.ok.len
      have HT := Lib.hid hT; have HI := Lib.hid hI; have HB := Lib.hid hB
      clear hA hT hI hB hc H1 HB0
      go_wp2_with (go_at_call 14; refine (pids_any HT.out).mono ?_; rintro e w2 ⟨vv, rfl, h3, b3⟩; obtain ⟨r, rc, rfl⟩ := h3.open (by simpa using hn0); rw [List.length_map] at h3 ⊢; have HP := Lib.hid h3; have HT2 := Lib.hid (HT.out.below' b3); have HB2 := Lib.hid (HB.out.trans (b3.mono HB.out.size)); clear h3 b3)
      obtain ⟨i0, hi0, hz0, hz1, hz2⟩ := info_parts Try.infoProc
      have HI0 := Lib.hid hi0; have HZ0 := Lib.hid hz0; have HZ1 := Lib.hid hz1; have HZ2 := Lib.hid hz2
      clear hi0 hz0 hz1 hz2
      go_loopw [7, 8] (fun vw x wi => ∃ i : Nat, i ≤ L.length ∧ x = .int .i64 i ∧ WasAt wi w2.heap.size vw (L.take i) ∧ Below w2.heap.size w2 wi) (fun _ x _ => L.length - (intOf x).toNat)
      case atStart => exact ⟨0, by omega, rfl, WasAt.nil _ _, Below.refl _ _⟩
      case round =>
        obtain ⟨i, hi, rfl, hWi, hBi⟩ := hrel
        by_cases hil : i < L.length
        · obtain ⟨q, hq⟩ : ∃ q, L[i]? = some q := ⟨_, List.getElem?_eq_getElem hil⟩
          have hX : (L.map (·.pid))[i]? = some q.pid := by simp [hq]
          have hcy := (HP.out.below hBi).cell_at hX
          have hG := get_in (HT2.out.below' hBi) (List.mem_of_getElem? hq)
          have HE := Lib.hid (take_snocP hq)
          have HWi := Lib.hid hWi; have HBi := Lib.hid hBi
          have hlt0 : (L.take i).length = i := by simp; omega
          have HL0 := Lib.hid hlt0
          clear hWi hBi hq hX hlt0
          obtain ⟨a0, a1, a2, a3, a4, a5, a6, a7⟩ := q
          dsimp only at hcy hG
          have HG := Lib.hid hG; clear hG
          go_wp2_with (first
            | (go_at_call 15; refine HG.out.mono ?_; rintro e w4 ⟨rfl, b4⟩; unfold PV.val PV.cells; dsimp only; have b5 := b4.alloc b4.size (.cells #[.int .i64 a0, .int .i64 a1, .int .i64 a2, .int .i64 a3, .int .i64 a4, .string a5, .int .i64 a6, .bool a7] 39); have HW5 := Lib.hid (HWi.out.below b5); have HB5 := Lib.hid (HBi.out.trans (b5.mono HBi.out.size)); clear b4 b5)
            | (at_builtin; refine wpList_append_own _ rfl (.tmp 43) (.tmp 45) 35 rfl w2.heap.size 39 i0 PV.zero.val 8 72 Try.underlying35 HI0.out HZ0.out HZ1.out HZ2.out rfl (by decide) _ (L.take i).length (flatL (L.take i)) rfl (World.ownsRow.alloc HW5.out _) ⟨w4.heap.size + 1, 0, none⟩ 1 1 (PV.cells ⟨a0, a1, a2, a3, a4, a5, a6, a7⟩).toList rfl rfl (by have := cell_eight_new (w4.alloc (.cells #[.int .i64 a0, .int .i64 a1, .int .i64 a2, .int .i64 a3, .int .i64 a4, .string a5, .int .i64 a6, .bool a7] 39)) ⟨a0, a1, a2, a3, a4, a5, a6, a7⟩ 39; rw [World.size_alloc] at this; exact this) (by simp [Value.oneCell', PV.cells]) (by rw [HL0.out]; unfold maxLen; omega) (by rw [HL0.out]; omega) (by have := HB5.out.size; simp at this ⊢; omega) ?_; intro v3 w7 hown3 hgrow3 _; obtain ⟨g3, cap3, rfl⟩ := ownsRow_succ hown3; have HO3 := Lib.hid hown3; have HG3 := Lib.hid hgrow3; clear hown3 hgrow3))
          go_roundw
          case rel =>
            refine ⟨i + 1, by omega, by go_num, ?_, ((HB5.out.alloc HB5.out.size _).grown HG3.out (by have := HB5.out.size; simp at this ⊢; omega) (fun k e => (HW5.out.row_lt k e).1))⟩
            have h3 := HO3.out
            rw [HL0.out] at h3
            unfold WasAt
            rw [HE.out, flatL_append, flatL_one, List.length_append, HL0.out]
            exact h3
          case measure => simp [intOf]; omega
        · obtain rfl : i = L.length := by omega
          rw [List.take_length] at hWi
          obtain ⟨r2, cap2, rfl, hr2, -⟩ := hWi.open hn0
          have hBw : Below w.heap.size w wr := HB2.out.trans (hBi.mono HB2.out.size)
          obtain ⟨c0, c1, c2, c3, c4, c5, hs⟩ := HA.out.below hBw hb
          have HWi := Lib.hid hWi
          have HBw := Lib.hid hBw
          have hps := HT2.out.p_lt; have hms := HT2.out.m_lt
          have HD := Lib.hid (done_any (HT2.out.below' hBi) d k t u v s hs)
          have HZ := Lib.hid (fun (q : PV) (hq : q ∈ L) (hz : q.st = 3) => zom_step HT2.out.ok hq hz ((IntKind.u64.wrap d).tmod 8) k t u v s)
          have HI' := Lib.hid (HI.out.step HT2.out.ok ((IntKind.u64.wrap d).tmod 8) k t u v s)
          clear hBw hWi hs hBi
          generalize stL ((IntKind.u64.wrap d).tmod 8) k t u v s L g = L' at HD HZ HI'
          generalize stN ((IntKind.u64.wrap d).tmod 8) k L g = n' at HD
          generalize stG ((IntKind.u64.wrap d).tmod 8) k L g = g' at HD
          go_wp2_with (go_at_call 23; refine HD.out.mono ?_; rintro e w3 ⟨rfl, h3, t3⟩; have HT3 := Lib.hid h3; have HW3 := Lib.hid (HWi.out.turn t3 hps hms); have HB3 := Lib.hid (t3.below HBw.out hp' hm' HBw.out.size); clear h3 t3)
          clear c0 c1 c2 c3 c4 c5
          go_loopw [11] (fun x wz => ∃ i : Nat, i ≤ L.length ∧ x = .int .i64 i ∧ TabAt wz p m L' g' ∧ WasAt wz w2.heap.size (.slice (some ⟨r2, 0, none⟩) L.length cap2) L ∧ Below w.heap.size w wz) (fun x _ => L.length - (intOf x).toNat)
          case atStart => exact ⟨0, by omega, rfl, HT3.out, HW3.out, HB3.out⟩
          case round =>
            obtain ⟨i, hi, rfl, hTz, hWz, hBz⟩ := hrel
            by_cases hil : i < L.length
            · obtain ⟨q, hq⟩ : ∃ q, L[i]? = some q := ⟨_, List.getElem?_eq_getElem hil⟩
              have y2 := hWz.cell hq 2 rfl
              have HTz := Lib.hid hTz; have HBz := Lib.hid hBz
              by_cases h3 : q.st = 3
              · have y0 := hWz.cell0 hq
                have hz := HZ.out q (List.mem_of_getElem? hq) h3
                have HWz := Lib.hid hWz; have HQ := Lib.hid hq
                have hrl := (hWz.row_lt r2 rfl).2
                clear hWz hTz hBz hq
                rw [h3] at y2
                rcases hz with ⟨q', hg', hal⟩ | ⟨hg', hy, hk⟩
                · have HG := Lib.hid (get_at HTz.out hg')
                  clear hg'
                  obtain ⟨a0, a1, a2, a3, a4, a5, a6, a7⟩ := q
                  obtain ⟨z0, z1, z2, z3, z4, z5, z6, z7⟩ := q'
                  obtain ⟨e0, e1, e2, e3, e4⟩ := hal
                  dsimp only at y0 y2 h3 e0 e1 e2 e3 e4 HG
                  subst e0; subst e1; subst e2; subst e3; subst e4; subst h3
                  go_wp2_with (go_at_call 15; refine HG.out.mono ?_; rintro e w4 ⟨rfl, b4⟩; unfold PV.val PV.cells; dsimp only; have HT4 := Lib.hid (HTz.out.below' b4); have HB4 := Lib.hid (HBz.out.trans (b4.mono HBz.out.size)); have HW4 := Lib.hid (HWz.out.below b4); have x0 : ∀ o, (w4.alloc o).cell? ⟨r2, i * 8, none⟩ = some (.int .i64 z0) := HW4.out.cellO HQ.out 0 rfl; have x1 := HW4.out.cellO HQ.out 1 rfl; have x2 := HW4.out.cellO HQ.out 2 rfl; have x3 := HW4.out.cellO HQ.out 3 rfl; have x4 := HW4.out.cellO HQ.out 4 rfl; have x4' : ∀ o, (w4.alloc o).cell? ⟨r2, i * 8 + 3 + 1, none⟩ = some (.int .i64 a4) := x4; have x5 := HW4.out.cellO HQ.out 5 rfl; have x6 := HW4.out.cellO HQ.out 6 rfl; have x7 := HW4.out.cellO HQ.out 7 rfl; clear b4)
                  have hzz := neq_proc ⟨z0, a1, 3, a3, a4, z5, z6, z7⟩
                  unfold PV.cells at hzz
                  dsimp only at hzz
                  go_quiet (fail)
                  go_wp2
                  go_roundw
                  case rel => exact ⟨i + 1, by omega, by go_num, (HT4.out.alloc _).keep rfl rfl, (HW4.out.below ((Below.refl _ _).alloc (Nat.le_refl _) _)).below (below_drewN' (Below.refl _ _)), below_drewN' (HB4.out.alloc HB4.out.size _)⟩
                  case measure => simp [intOf]; omega
                · have HG := Lib.hid (get_no HTz.out hg')
                  clear hg'
                  obtain ⟨a0, a1, a2, a3, a4, a5, a6, a7⟩ := q
                  dsimp only at y0 y2 h3 HG hk
                  subst h3; subst hk
                  have y4 : ((IntKind.u64.wrap d).tmod 8 == 4) = true := by rw [hy]; rfl
                  have y4' : ((IntKind.u64.wrap d).tmod 8 != 4) = false := by rw [hy]; rfl
                  clear hy
                  go_wp2_with (go_at_call 15; refine HG.out.mono ?_; rintro e w4 ⟨rfl, b4⟩; unfold PV.val PV.cells PV.zero; dsimp only; have b5 := b4.alloc b4.size (.cells z8 39); have HT5 := Lib.hid (HTz.out.below' b5); have HW5 := Lib.hid (HWz.out.below b5); have HB5 := Lib.hid (HBz.out.trans (b5.mono HBz.out.size)); have x1 := HW5.out.cell HQ.out 1 rfl; have c0 := (HA.out.below HB5.out hb).c0; have c1 := (HA.out.below HB5.out hb).c1; clear b4 b5)
                  go_quiet (fail)
                  go_wp2
                  go_roundw
                  case rel => exact ⟨i + 1, by omega, by go_num, HT5.out.keep rfl rfl, HW5.out.below (below_drewN' (Below.refl _ _)), below_drewN' HB5.out⟩
                  case measure => simp [intOf]; omega
              · have b3 : (q.st == 3) = false := by simpa using h3
                have HWz := Lib.hid hWz
                clear hWz hTz hBz hq h3
                go_wp2
                go_roundw
                case rel => exact ⟨i + 1, by omega, by go_num, HTz.out, HWz.out, HBz.out⟩
                case measure => simp [intOf]; omega
            · obtain rfl : i = L.length := by omega
              go_wp2
              go_roundw
              case rel => exact ⟨j + 1, by omega, by omega, by go_num, L', g', hTz, HI'.out, hBz⟩
              case measure => simp [intOf]; omega
    · clear HC
      rcases (show ¬ j < len ∨ (j < len ∧ ¬ j < 150) by omega) with c | ⟨c, c2⟩
      all_goals
        go_wp2
        go_ret
        exact ⟨rfl, hB⟩

set_option maxRecDepth 100000 in
theorem zombies_lifted (os : Os) (started : os.Started) (H : Type) (enc : TypeId × Value → H) :
    ReturnsInHanded {} Try.checked os 6 .any (Rows.procZombiesSpec.pre6 enc Try.prog Try.f6 Rows.procZombiesRow.domain false) (Rows.procZombiesSpec.post enc Try.prog Try.f6 false true false false) := by
  refine returnsInHanded_of_change (C := Try.checked) own started (by kernel_rfl) Try.func6
    (ChangeSpec.witness6 (enc := enc) (C := Try.checked) false ⟨#[], #[.slice none 0 0], []⟩ 8 (by kernel_rfl) (by kernel_rfl) (by kernel_rfl) (by kernel_rfl)) ?_
  intro W base args ds gs before hval0 hW _ _
  have hval : ∀ (j : Nat) t v, Try.f6.params[j]? = some t → args[j]? = some v → Value.okWide Try.prog W .any base t v := hval0
  have hW' := hW
  obtain ⟨p, q, hA0, hV, rfl, hfz, hnd⟩ := hW
  have hA : DataW.TrodAll enc Try.prog W 0 (fun _ => true) true Try.f6.params.toList args.toList ds p := hA0
  rw [Try.params6] at hA hval
  obtain ⟨v0, vs0, d0, ds0, p0, q0, hargs, rfl, rfl, h0, r0⟩ := trodAll_cons hA
  obtain ⟨rfl, rfl, rfl⟩ := trodAll_nil r0
  obtain rfl : args = #[v0] := by cases args; simp_all
  obtain ⟨a0, len0, cap0, rfl, hacts0⟩ := open_acts6 (hval 0 22 v0 rfl rfl) h0
  have hwalk : Calls Try.prog 6 #[.slice a0 len0 cap0] W fun e w' => e = .returned (.bool true) ∧ Below W.heap.size W w' := zombies_walk _ _ _ W hacts0
  refine hwalk.mono fun e W' ⟨he, bel⟩ => ⟨_, he, ?_⟩
  exact law_post laidOut (of_decide_eq_true (by kernel_rfl)) rfl Try.underlying4 rfl hW' (fun ds' e => by subst e; rfl) bel

theorem procZombies_holds : Rows.ProcZombiesSaid :=
  OpenClaim.holds_of_wide 6 Try.f6 rfl rfl rfl rfl rfl rfl rfl ⟨rfl, rfl, rfl, rfl, rfl⟩ rfl rfl rfl rfl rfl (by kernel_rfl) Try.func6 (by kernel_rfl)
    (of_decide_eq_true (by kernel_rfl)) (by unfold Func.isWrapper; rw [if_neg (by decide +kernel)]; exact ⟨rfl, rfl⟩)
    (fun os started H enc _ => zombies_lifted os started H enc)

#print axioms procZombies_holds
end Go.Proofs.Ytonllnbincgdpaa
