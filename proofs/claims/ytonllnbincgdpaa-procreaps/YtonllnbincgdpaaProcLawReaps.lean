/- ProcReaps: for every list of statuses and order the law answers true: of zombies the one with the least number is reaped first, with its status. No conditions. -/
import Derived.Test.YtonllnbincgdpaaProcReapPure
import Derived.Test.YtonllnbincgdpaaCells
namespace Go.Proofs.Ytonllnbincgdpaa
open Go.RowKit Go.ChangeShapes Go.WideShapes Go.ChangeAt

section
variable {H : Type} {enc : TypeId × Value → H} {W : World}
set_option maxRecDepth 100000 in
theorem open_ints6 {r : Reach} {base : Nat} {v : Value} {d : DataW H} {ps : List MemPlace} (hv : Value.okWide Try.prog W r base 33 v) (h : DataW.Trod enc Try.prog W 0 (fun _ => true) true 33 v d ps) :
    ∃ (a : Option Addr) (len cap : Nat), v = .slice a len cap ∧ IntsAt W a len := by
  obtain ⟨a, len, cap, rfl, hlen, hcell⟩ := open_cells Try.underlying33 (by kernel_rfl) hv h
  refine ⟨a, len, cap, rfl, hlen, fun h => ?_⟩
  obtain ⟨b, off, rfl, hb, hc⟩ := hcell h
  have hx : ∀ i, i < len → ∃ x : Int, W.cell? ⟨b, off + i, none⟩ = some (.int .i64 x) := fun i hi => by
    obtain ⟨u, hu, hF⟩ := hc i hi
    obtain ⟨x, rfl, _⟩ := hF.int Try.underlying3
    exact ⟨x, hu⟩
  exact ⟨b, off, rfl, hb, fun i => if h : i < len then Classical.choose (hx i h) else 0, fun i h => by dsimp only; rw [dif_pos h]; exact Classical.choose_spec (hx i h)⟩
end

/-- the statuses that are asked for. -/
def MX (X : Nat → Int) (k : Nat) : Int := bits BinOp.and IntKind.i64 (X k) 255

set_option maxRecDepth 100000 in
set_option maxHeartbeats 4000000 in
theorem reaps_walk (a : Option Addr) (len cap : Nat) (a2 : Option Addr) (len2 cap2 : Nat) (w : World) (hA : IntsAt w a len) (hA2 : IntsAt w a2 len2) :
    Calls Try.prog 9 #[.slice a len cap, .slice a2 len2 cap2] w fun e w' => e = .returned (.bool true) ∧ Below w.heap.size w w' := by
  obtain ⟨hlen, hcell⟩ := hA
  obtain ⟨hlen2, hcell2⟩ := hA2
  have HC2 := Lib.hid hcell2; clear hcell2
  obtain ⟨X, hX⟩ : ∃ X : Nat → Int, 0 < len → ∃ b off, a = some ⟨b, off, none⟩ ∧ b < w.heap.size ∧ ∀ i, i < len → w.cell? ⟨b, off + i, none⟩ = some (.int .i64 (X i)) := by
    by_cases h : 0 < len
    · obtain ⟨b, off, h1, h2, X, h3⟩ := hcell h
      exact ⟨X, fun _ => ⟨b, off, h1, h2, h3⟩⟩
    · exact ⟨fun _ => 0, fun h' => absurd h' h⟩
  have HX := Lib.hid hX; clear hX hcell
  obtain ⟨n, hn⟩ : ∃ n : Nat, n = min len 10 := ⟨_, rfl⟩
  have hmin : min (len : Int) 10 = (n : Int) := by omega
  have hn10 : n ≤ 10 := by omega
  have hnl : n ≤ len := by omega
  clear hn
  unfold maxLen at hlen hlen2
  go_enter Try.func9, Try.ntmps9
  go_wp2_with (first
    | (go_at_call 10; refine (shown6_any _).mono ?_; rintro e w0 ⟨rfl, hB0⟩; have HB0 := Lib.hid hB0; clear hB0)
    | (go_at_call 11; refine (new_any _).mono ?_; rintro e w1 ⟨p, m, rfl, h1, hp, hm, hB⟩; have H1 := Lib.hid h1; have HB1 := Lib.hid (HB0.out.trans (hB.mono HB0.out.size)); have hp' : w.heap.size ≤ p := Nat.le_trans HB0.out.size hp; have hm' : w.heap.size ≤ m := Nat.le_trans HB0.out.size hm; clear h1 hB))
  clear hmin
  go_loopw [8] (fun i wr => ∃ j : Nat, j ≤ n ∧ i = .int .i64 j ∧ ∃ L g, TabAt wr p m L g ∧ RInv L j (fun _ => 0) (MX X) ∧ L.length = j + 1 ∧ g = (j : Int) + 1 ∧ Below w.heap.size w wr) (fun i _ => n - (intOf i).toNat)
  case atStart => exact ⟨0, by omega, rfl, [first1], 1, H1.out, rinv_first _, rfl, rfl, HB1.out⟩
  case round =>
    obtain ⟨j, hj, rfl, L, g, hT, hI, hL, hg, hB⟩ := hrel
    by_cases hjn : j < n
    · have HF := Lib.hid (fork_any hT 1)
      have HI := Lib.hid (hI.fork hT.ok (by omega) hL hg)
      have HB := Lib.hid hB
      clear hT hI hL hg hB
      generalize forkN L g 1 = n1 at HF
      generalize forkE L g 1 = n2 at HF
      go_wp2_with (go_at_call 16; refine HF.out.mono ?_; rintro e w2 ⟨rfl, h2, t2⟩; have HT2 := Lib.hid h2; have HB2 := Lib.hid (t2.below HB.out hp' hm' HB.out.size); clear h2 t2)
      go_roundw
      case rel => exact ⟨j + 1, by omega, by go_num, _, _, HT2.out, HI.out.1, HI.out.2.1, HI.out.2.2, HB2.out⟩
      case measure => simp [intOf]; omega
    · obtain rfl : j = n := by omega
      have HT := Lib.hid hT; have HI := Lib.hid hI; have HB := Lib.hid hB
      clear hT hI hB hL hg H1 HB0 HB1
      go_wp2_with fail
      go_loopw [9] (fun i wi => ∃ t : Nat, t ≤ len2 ∧ t ≤ 20 ∧ i = .int .i64 t ∧ ∃ L K, TabAt wi p m L g ∧ RInv L j K (MX X) ∧ (∀ k, K k ≠ 2) ∧ Below w.heap.size w wi) (fun i _ => len2 - (intOf i).toNat)
      case atStart => exact ⟨0, by omega, by omega, rfl, L, fun _ => 0, HT.out, HI.out, (fun _ h => by cases h), HB.out⟩
      case round =>
        obtain ⟨t, ht, ht20, rfl, L1, K, hT1, hI1, hK1, hB1⟩ := hrel
        clear HT HI HB
        by_cases hlt : t < len2 ∧ t < 20 ∧ 0 < j
        · obtain ⟨hl1, hl2, hl3⟩ := hlt
          obtain ⟨b, off, rfl, hb, hc⟩ := HX.out (by omega)
          obtain ⟨b2, off2, rfl, hb2, X2, hc2⟩ := HC2.out (by omega)
          have hy := (hB1.cell (p := ⟨b2, off2 + t, none⟩) hb2).trans (hc2 t hl1)
          obtain ⟨k, hk, hwk⟩ := idx_lt6 hl3 (by omega) (X2 t)
          have hx := (hB1.cell (p := ⟨b, off + k, none⟩) hb).trans (hc k (by omega))
          have ha := and255 (X k)
          obtain ⟨K', hI2, hK2⟩ := hI1.exit hT1.ok hk hK1 ha.1 ha.2
          have HE := Lib.hid (exit_any hT1 ((k : Int) + 2) (MX X k))
          have HI2 := Lib.hid hI2; have HK2 := Lib.hid hK2; have HB1 := Lib.hid hB1
          clear hc hc2 ha hI2 hK2 hB1 hT1 hI1 hK1
          unfold MX at HE
          generalize exE L1 ((k : Int) + 2) (bits BinOp.and IntKind.i64 (X k) 255) = n2 at HE
          go_wp2_with (go_at_call 19; refine HE.out.mono ?_; rintro e w2 ⟨rfl, h2, t2⟩; have HT2 := Lib.hid h2; have HB2 := Lib.hid (t2.below HB1.out hp' hm' HB1.out.size); clear h2 t2)
          go_roundw
          case rel => exact ⟨t + 1, by omega, by omega, by go_num, _, K', HT2.out, HI2.out, HK2.out, HB2.out⟩
          case measure => simp [intOf]; omega
        · have HT1 := Lib.hid hT1; have HI1 := Lib.hid hI1; have HK1 := Lib.hid hK1; have HB1 := Lib.hid hB1
          clear hT1 hI1 hK1 hB1 HC2
          rcases (show ¬ t < len2 ∨ (t < len2 ∧ ¬ t < 20) ∨ (t < len2 ∧ t < 20 ∧ ¬ 0 < j) by omega) with c | c | ⟨c, c2, c3⟩
          rotate_left 2
          · go_wp2_with fail
            go_loopw [11] (fun i wi => ∃ t : Nat, t ≤ j ∧ i = .int .i64 t ∧ ∃ L K, TabAt wi p m L g ∧ RInv L j K (MX X) ∧ (∀ k, k < t → K k ≠ 1) ∧ (∀ k, t ≤ k → K k ≠ 2) ∧ Below w.heap.size w wi) (fun i _ => j - (intOf i).toNat)
            case atStart => exact ⟨0, by omega, rfl, L1, K, HT1.out, HI1.out, fun k hk => absurd hk (by omega), fun k _ => HK1.out k, HB1.out⟩
            case round =>
              obtain ⟨i, hi, rfl, L2, K2, hT2, hI2, hlo, hhi, hB2⟩ := hrel
              clear HT1 HI1 HK1 HB1
              by_cases hij : i < j
              · exfalso; omega
              · obtain rfl : i = j := by omega
                have hne := hI2.none hT2.ok hlo
                have hWt := wait_any hT2 1
                generalize waE L2 1 = E at hne hWt
                generalize (waQ L2 1).pid = E1 at hWt
                generalize (waQ L2 1).stat = E2 at hWt
                have hE : (E != 0) = true := by simpa using hne
                have HE := Lib.hid hE; clear hE
                have HWt := Lib.hid hWt; have HB2 := Lib.hid hB2
                clear hne hWt hB2 hT2 hI2 hlo hhi
                go_wp2_with (go_at_call 17; refine HWt.out.mono ?_; rintro e w6 ⟨rfl, h6, t6⟩; have HB6 := Lib.hid (t6.below HB2.out hp' hm' HB2.out.size); clear h6 t6)
                go_ret
                exact ⟨ret_true HE.out, HB6.out⟩
          all_goals
            (try obtain ⟨c, c2⟩ := c)
            go_wp2_with fail
            go_loopw [11] (fun i wi => ∃ t : Nat, t ≤ j ∧ i = .int .i64 t ∧ ∃ L K, TabAt wi p m L g ∧ RInv L j K (MX X) ∧ (∀ k, k < t → K k ≠ 1) ∧ (∀ k, t ≤ k → K k ≠ 2) ∧ Below w.heap.size w wi) (fun i _ => j - (intOf i).toNat)
            case atStart => exact ⟨0, by omega, rfl, L1, K, HT1.out, HI1.out, fun k hk => absurd hk (by omega), fun k _ => HK1.out k, HB1.out⟩
            case round =>
              obtain ⟨i, hi, rfl, L2, K2, hT2, hI2, hlo, hhi, hB2⟩ := hrel
              clear HT1 HI1 HK1 HB1
              by_cases hij : i < j
              · obtain ⟨q, hgq, hqm, hqp, hqq, hst⟩ := hI2.get hT2.ok hij (hhi i (Nat.le_refl _))
                have HG := Lib.hid (get_at hT2 hgq)
                obtain ⟨b, off, rfl, hb, hc⟩ := HX.out (by omega)
                have HHI := Lib.hid hhi; have HLO := Lib.hid hlo; have HT2 := Lib.hid hT2; have HB2 := Lib.hid hB2
                have hxc := hc i (by omega)
                rcases hst with ⟨hk0, hs⟩ | ⟨hk1, hs, -⟩
                · have HI2 := Lib.hid hI2
                  have HK0 := Lib.hid hk0
                  clear hI2 hhi hlo hT2 hB2 hgq hqm hqp hqq hc hk0
                  obtain ⟨a0, a1, a2', a3, a4, a5, a6, a7⟩ := q
                  dsimp only at hs
                  subst hs
                  go_wp2_with (go_at_call 15; refine HG.out.mono ?_; rintro e w4 ⟨rfl, b4⟩; unfold PV.val PV.cells; dsimp only; have b5 := b4.alloc b4.size (.cells #[.int .i64 a0, .int .i64 a1, .int .i64 1, .int .i64 a3, .int .i64 a4, .string a5, .int .i64 a6, .bool a7] 39); have HT5 := Lib.hid (HT2.out.below' b5); have HB5 := Lib.hid (HB2.out.trans (b5.mono HB2.out.size)); clear b4 b5)
                  go_roundw
                  case rel => exact ⟨i + 1, by omega, by go_num, L2, K2, HT5.out, HI2.out, lo_run HLO.out HK0.out, hi_run HHI.out, HB5.out⟩
                  case measure => simp [intOf]; omega
                · obtain ⟨w1', w2', w3', w4'⟩ := hI2.wait hT2.ok hij hk1 hlo
                  have HI3 := Lib.hid w4'
                  have hWt : ∀ W, TabAt W p m L2 g → Calls Try.prog 17 #[.pointer (some ⟨p, 0, none⟩), .int .i64 1] W fun e w' => e = .returned (.tuple #[.int .i64 ((i : Int) + 2), .int .i64 (bits BinOp.and IntKind.i64 (X i) 255), .int .i64 0]) ∧ TabAt w' p m (waL L2 1) g ∧ Turn p m W w' := fun W hW => by
                    have := wait_any hW 1
                    rw [w1', w2', w3'] at this
                    exact this
                  have HWt := Lib.hid hWt
                  clear hI2 hhi hlo hT2 hB2 hgq hqm hqp hqq hc w1' w2' w3' w4' hWt hk1
                  obtain ⟨a0, a1, a2', a3, a4, a5, a6, a7⟩ := q
                  dsimp only at hs
                  subst hs
                  go_wp2_with (first
                    | (go_at_call 15; refine HG.out.mono ?_; rintro e w4 ⟨rfl, b4⟩; unfold PV.val PV.cells; dsimp only; have b5 := b4.alloc b4.size (.cells #[.int .i64 a0, .int .i64 a1, .int .i64 3, .int .i64 a3, .int .i64 a4, .string a5, .int .i64 a6, .bool a7] 39); have HT5 := Lib.hid (HT2.out.below' b5); have HB5 := Lib.hid (HB2.out.trans (b5.mono HB2.out.size)); clear b4 b5)
                    | (go_at_call 17; refine (HWt.out _ HT5.out).mono ?_; rintro e w6 ⟨rfl, h6, t6⟩; have HT6 := Lib.hid h6; have HB6 := Lib.hid (t6.below HB5.out hp' hm' HB5.out.size); have x6 := (HB6.out.cell (p := ⟨b, off + i, none⟩) hb).trans hxc; clear h6 t6))
                  go_roundw
                  case rel => exact ⟨i + 1, by omega, by go_num, _, _, HT6.out, HI3.out, lo_upd HLO.out, hi_upd HHI.out, HB6.out⟩
                  case measure => simp [intOf]; omega
              · obtain rfl : i = j := by omega
                have hne := hI2.none hT2.ok hlo
                have hWt := wait_any hT2 1
                generalize waE L2 1 = E at hne hWt
                generalize (waQ L2 1).pid = E1 at hWt
                generalize (waQ L2 1).stat = E2 at hWt
                have hE : (E != 0) = true := by simpa using hne
                have HE := Lib.hid hE; clear hE
                have HWt := Lib.hid hWt; have HB2 := Lib.hid hB2
                clear hne hWt hB2 hT2 hI2 hlo hhi
                go_wp2_with (go_at_call 17; refine HWt.out.mono ?_; rintro e w6 ⟨rfl, h6, t6⟩; have HB6 := Lib.hid (t6.below HB2.out hp' hm' HB2.out.size); clear h6 t6)
                go_ret
                exact ⟨ret_true HE.out, HB6.out⟩

set_option maxRecDepth 100000 in
theorem reaps_lifted (os : Os) (started : os.Started) (H : Type) (enc : TypeId × Value → H) :
    ReturnsInHanded {} Try.checked os 9 .any (Rows.procReapsSpec.pre6 enc Try.prog Try.f9 Rows.procReapsRow.domain false) (Rows.procReapsSpec.post enc Try.prog Try.f9 false true false false) := by
  refine returnsInHanded_of_change (C := Try.checked) own started (by kernel_rfl) Try.func9
    (ChangeSpec.witness6 (enc := enc) (C := Try.checked) false ⟨#[], #[.slice none 0 0, .slice none 0 0], []⟩ 8 (by kernel_rfl) (by kernel_rfl) (by kernel_rfl) (by kernel_rfl)) ?_
  intro W base args ds gs before hval0 hW _ _
  have hval : ∀ (j : Nat) t v, Try.f9.params[j]? = some t → args[j]? = some v → Value.okWide Try.prog W .any base t v := hval0
  have hW' := hW
  obtain ⟨p, q, hA0, hV, rfl, hfz, hnd⟩ := hW
  have hA : DataW.TrodAll enc Try.prog W 0 (fun _ => true) true Try.f9.params.toList args.toList ds p := hA0
  rw [Try.params9] at hA hval
  obtain ⟨v0, vs0, d0, ds0, p0, q0, hargs, rfl, rfl, h0, r0⟩ := trodAll_cons hA
  obtain ⟨v1, vs1, d1, ds1, p1, q1, rfl, rfl, rfl, h1, r1⟩ := trodAll_cons r0
  obtain ⟨rfl, rfl, rfl⟩ := trodAll_nil r1
  obtain rfl : args = #[v0, v1] := by cases args; simp_all
  obtain ⟨a0, len0, cap0, rfl, hi0⟩ := open_ints6 (hval 0 33 v0 rfl rfl) h0
  obtain ⟨a1, len1, cap1, rfl, hi1⟩ := open_ints6 (hval 1 33 v1 rfl rfl) h1
  have hwalk : Calls Try.prog 9 #[.slice a0 len0 cap0, .slice a1 len1 cap1] W fun e w' => e = .returned (.bool true) ∧ Below W.heap.size W w' := reaps_walk _ _ _ _ _ _ W hi0 hi1
  refine hwalk.mono fun e W' ⟨he, bel⟩ => ⟨_, he, ?_⟩
  exact law_post laidOut (of_decide_eq_true (by kernel_rfl)) rfl Try.underlying4 rfl hW' (fun ds' e => by subst e; rfl) bel

theorem procReaps_holds : Rows.ProcReapsSaid :=
  OpenClaim.holds_of_wide 9 Try.f9 rfl rfl rfl rfl rfl rfl rfl ⟨rfl, rfl, rfl, rfl, rfl⟩ rfl rfl rfl rfl rfl (by kernel_rfl) Try.func9 (by kernel_rfl)
    (of_decide_eq_true (by kernel_rfl)) (by unfold Func.isWrapper; rw [if_neg (by decide +kernel)]; exact ⟨rfl, rfl⟩)
    (fun os started H enc _ => reaps_lifted os started H enc)

#print axioms procReaps_holds
end Go.Proofs.Ytonllnbincgdpaa
