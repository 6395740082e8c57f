/- PtableEmpty: for every list of acts the law answers true: behind unmapping all no table is left; behind dropping none, nor the root. No conditions. -/
import Derived.Test.YtkcoeibbmfkjlaaPtRow
import Derived.Test.YtkcoeibbmfkjlaaPtActs
namespace Go.Proofs.Ytkcoeibbmfkjlaa
open Go.RowKit Go.ChangeShapes Go.WideShapes Go.ChangeAt

theorem pages_nth {E : Nat → Nat × Nat} {j : Nat} (hj : j < (pagesL E).length) : (pagesL E)[j]?.getD 0 < 256 ∧ E ((pagesL E)[j]?.getD 0) ≠ (0, 0) ∧ (pagesL E)[j]?.getD 0 ∉ (pagesL E).take j ∧ (pagesL E).take (j + 1) = (pagesL E).take j ++ [(pagesL E)[j]?.getD 0] := by
  rw [List.getElem?_eq_getElem hj, Option.getD_some]
  have hm := pages_mem.1 (List.getElem_mem hj)
  refine ⟨hm.1, hm.2, ?_, List.take_succ_eq_append_getElem hj⟩
  intro hmem
  have hnd : (pagesL E).Nodup := List.Pairwise.filter _ List.nodup_range
  obtain ⟨i, hi, e⟩ := List.mem_iff_getElem.1 hmem
  rw [List.length_take] at hi
  rw [List.getElem_take] at e
  exact List.pairwise_iff_getElem.1 hnd i j (by omega) hj (by omega) e

theorem tabs_zero {n root : Nat} {S : PtS} (h : S.ok n root) (hz : ∀ q, q < 256 → S.E q = (0, 0)) : tabs S.T = 0 := by
  unfold tabs
  rw [List.filter_eq_nil_iff.2]
  · rfl
  · intro i hi
    have hi' := List.mem_range.1 hi
    simp only [decide_eq_true_eq]
    intro hT
    obtain ⟨j, hj, hE⟩ := (tab_iff h hi').1 hT
    exact hE (hz _ (by omega))

set_option maxRecDepth 100000 in
set_option maxHeartbeats 8000000 in
theorem empty_walkA (a : Option Addr) (len cap : Nat) (hle : len ≤ 60) (w : World) (hacts : ActsAt w a len) :
    Calls Try.prog 5 #[.slice a len cap] w fun e w' => e = .returned (.bool true) ∧ Below w.heap.size w w' := by
  obtain ⟨_hlen, hc⟩ := hacts
  unfold maxLen at _hlen
  have HC := Lib.hid hc; clear hc
  go_enter Try.func5, Try.ntmps5
  go_wp2_with fail
  refine (shown_any _).mono ?_
  rintro e w1 ⟨rfl, hB1⟩
  have HB1 := Lib.hid hB1; clear hB1
  go_wp2_with fail
  refine (new_ok 60 (by omega) (by omega) _).mono ?_
  rintro e w2 ⟨rfl, hM2, hB2⟩
  have HB2 := Lib.hid (below_step HB1.out hB2); clear hB2
  have hsz : Hid (w.heap.size ≤ w1.heap.size) := HB1.out.size
  go_wp2_with fail
  refine (pnew_any hM2).mono ?_
  rintro e w3 ⟨rfl, hM3, hG3⟩
  generalize w1.heap.size + 1 = p at *
  generalize w1.heap.size = g at *
  have hgb : Hid (∀ (W W' : World), Below w.heap.size w W → W.grownBy W' (some g) → Below w.heap.size w W') := fun W W' h1 h => h1.trans (below_of_grown h h1.size (fun j e => by cases e; exact hsz.out))
  have HB3 := Lib.hid (hgb.out _ _ HB2.out hG3); clear hG3 hM2
  have HM3 := Lib.hid hM3; clear hM3
  go_wp2_with fail
  go_loopw [8] (fun i wr => ∃ (k : Nat) (S : PtS), k ≤ len ∧ i = .int .i64 k ∧ S.ok 60 0 ∧ S.at wr p g 60 ∧ Below w.heap.size w wr) (fun i _ => len - (intOf i).toNat)
  case atStart => exact ⟨0, S0, Nat.zero_le _, rfl, S0_ok (by omega) (by omega), HM3.out, HB3.out⟩
  case round =>
    obtain ⟨k, S, hk, rfl, hok, hM, hB⟩ := hrel
    have HO := Lib.hid hok; have HM := Lib.hid hM
    clear hok hM
    by_cases hgo : k < len
    · have hlt : k < len := by omega
      have h60 : k < 60 := by omega
      obtain ⟨b, off, rfl, hb, hcs⟩ := HC.out (by omega)
      obtain ⟨d, pg, fr, fl, hA⟩ := hcs k hlt
      have HX0 := Lib.hid hA.h0; have HX1 := Lib.hid hA.h1
      have i0 : (0 : Int) ≤ (k : Int) := by omega
      have i1 : (k : Int) < (len : Int) := by omega
      have hbg : Hid (b ≠ g) := by have := hsz.out; unfold Hid; omega
      obtain ⟨_, c1, c2, c3, _, _⟩ := hA.below hB hb
      have HB := Lib.hid hB
      clear hA hB hcs
      go_wp2_with fail
      go_region_held3 (fun w' => w'.cell? ⟨b, off + k * 4 + 1, none⟩ = some (.int .i64 pg) ∧ w'.cell? ⟨b, off + k * 4 + 2, none⟩ = some (.int .i64 fr) ∧ w'.cell? ⟨b, off + k * 4 + 3, none⟩ = some (.int .i64 fl)) (first | exact ⟨c1, c2, c3⟩ | exact ⟨d1, d2, d3⟩ | go_keep)
        ((go_at_call 14; refine (map_rep (MemAt.drew HM.out) HO.out pg fr fl HX0.out HX1.out).mono ?_; rintro e w6 ⟨rfl, hM6, hG6⟩; have d1 := hG6.cell c1 (by intro e; exact hbg.out (Option.some.inj e)); have d2 := hG6.cell c2 (by intro e; exact hbg.out (Option.some.inj e)); have d3 := hG6.cell c3 (by intro e; exact hbg.out (Option.some.inj e)); have HM6 := Lib.hid hM6; have HB6 := Lib.hid (hgb.out _ _ HB.out (drew_grown hG6)); clear hM6 hG6))
      clear d1 d2 d3 c1 c2 c3
      go_wp2
      go_roundw
      case rel => exact ⟨k + 1, _, by omega, by go_num, map_ok HO.out pg fr fl, HM6.out, HB6.out⟩
      case measure => simp [intOf]; omega
    · obtain rfl : len = k := by omega
      have HB := Lib.hid hB
      clear hgo hB hk
      have hgl : Hid (g < wr.heap.size) := MemAt.g_lt HM.out
      go_wp2_with fail
      refine (pages_sl HM.out HO.out).mono ?_
      rintro e w4 ⟨⟨qa, qc, rfl, hL4, hO4⟩, hB4⟩
      have hp4 := pages_len_le S.E
      have HM4 := Lib.hid (S_keep HM.out hB4)
      have HB4 := Lib.hid (below_step HB.out hB4)
      have HL4 := Lib.hid hL4
      have HO4 : Hid (∀ b, (Value.slice qa (pagesL S.E).length qc).ownBlock = some b → b < w4.heap.size ∧ b ≠ g) := fun b e => ⟨(hO4 b e).2, by have := (hO4 b e).1; have := hgl.out; omega⟩
      clear hB4 hL4 hO4
      have HPN : Hid (∀ j, j < (pagesL S.E).length → (pagesL S.E)[j]?.getD 0 < 256 ∧ S.E ((pagesL S.E)[j]?.getD 0) ≠ (0, 0) ∧ (pagesL S.E)[j]?.getD 0 ∉ (pagesL S.E).take j ∧ (pagesL S.E).take (j + 1) = (pagesL S.E).take j ++ [(pagesL S.E)[j]?.getD 0]) := fun j hj => pages_nth hj
      have HPA : Hid (∀ q, q < 256 → S.E q ≠ (0, 0) → q ∈ pagesL S.E) := fun q h1 h2 => pages_mem.2 ⟨h1, h2⟩
      have HE0 : Hid (∃ E0 : Nat → Nat × Nat, E0 = S.E) := ⟨_, rfl⟩
      clear HE0
      have HST0 : Hid (S.ok 60 0 ∧ S.at w4 p g 60 ∧ ∀ q, q < 256 → S.E q = if q ∈ (pagesL S.E).take 0 then (0, 0) else S.E q) := ⟨HO.out, HM4.out, fun q _ => by simp⟩
      generalize pagesL S.E = PL at *
      go_wp2_with fail
      go_loopw [11] (fun i wi => ∃ (j : Nat) (S2 : PtS), j ≤ PL.length ∧ i = .int .i64 j ∧ (S2.ok 60 0 ∧ S2.at wi p g 60 ∧ ∀ q, q < 256 → S2.E q = if q ∈ PL.take j then (0, 0) else S.E q) ∧ ListAt wi (.slice qa PL.length qc) PL ∧ (∀ b, (Value.slice qa PL.length qc).ownBlock = some b → b < wi.heap.size ∧ b ≠ g) ∧ Below w.heap.size w wi) (fun i _ => PL.length - (intOf i).toNat)
      case atStart => exact ⟨0, S, Nat.zero_le _, rfl, HST0.out, HL4.out, HO4.out, HB4.out⟩
      case round =>
        obtain ⟨j, S2, hj, rfl, hS2, hLi, hOi, hBi⟩ := hrel
        have HS2 := Lib.hid hS2; have HLi := Lib.hid hLi; have HOi := Lib.hid hOi; have HBi := Lib.hid hBi
        clear hS2 hLi hOi hBi
        by_cases hlj : j < PL.length
        · obtain ⟨qb, rfl, hcell⟩ := HLi.out.row (by omega)
          have cj := hcell j hlj
          obtain ⟨n1, n2, n3, n4⟩ := HPN.out j hlj
          clear hcell
          generalize PL[j]?.getD 0 = x at cj n1 n2 n3 n4
          have j0 : (0 : Int) ≤ (j : Int) := by omega
          have j1 : (j : Int) < (PL.length : Int) := by omega
          have hEx : S2.E x ≠ (0, 0) := by rw [HS2.out.2.2 x n1, if_neg n3]; exact n2
          have hUM : (unmapS 0 S2 x).2.1 = 0 ∧ (unmapS 0 S2 x).2.2.E = updE S2.E x (0, 0) := by
            rcases unmapS_E 0 S2 x with ⟨h1, h2⟩ | ⟨h1, h2, h3, h4⟩
            · exfalso
              apply h1
              unfold unmapS
              rw [if_pos (by simp [belowB]; omega), Int.toNat_natCast, if_neg hEx]
              split <;> rfl
            · rw [Int.toNat_natCast] at h4; exact ⟨h1, h4⟩
          have HU1 := Lib.hid hUM.1; have HU2 := Lib.hid hUM.2
          have HN3 := Lib.hid n3; have HN4 := Lib.hid n4; have HN1 := Lib.hid n1
          clear hUM hEx n1 n2 n3 n4
          go_wp2_with fail
          refine (unmap_rep HS2.out.2.1 HS2.out.1 x).mono ?_
          rintro e w5 ⟨rfl, hM5, hG5⟩
          rw [HU1.out]
          have HM5 := Lib.hid hM5
          have HB5 := Lib.hid (hgb.out _ _ HBi.out hG5)
          have HL5 := Lib.hid (HLi.out.grown hG5 HOi.out)
          have HO5 : Hid (∀ b, (Value.slice (some ⟨qb, 0, none⟩) PL.length qc).ownBlock = some b → b < w5.heap.size ∧ b ≠ g) := fun b e => ⟨Nat.lt_of_lt_of_le (HOi.out b e).1 hG5.size, (HOi.out b e).2⟩
          clear hM5 hG5 cj
          have HST : Hid ((unmapS 0 S2 x).2.2.ok 60 0 ∧ (unmapS 0 S2 x).2.2.at w5 p g 60 ∧ ∀ q, q < 256 → (unmapS 0 S2 x).2.2.E q = if q ∈ PL.take (j + 1) then (0, 0) else S.E q) := by
            refine ⟨unmap_ok HS2.out.1 x, HM5.out, fun q hq => ?_⟩
            rw [HU2.out, HN4.out]
            by_cases c : q = x
            · rw [c, updE_same, if_pos (by simp)]
            · rw [updE_other _ _ c, HS2.out.2.2 q hq]
              have : (q ∈ PL.take j ++ [x]) ↔ q ∈ PL.take j := by simp [c]
              by_cases c2 : q ∈ PL.take j
              · rw [if_pos c2, if_pos (this.2 c2)]
              · rw [if_neg c2, if_neg (fun h => c2 (this.1 h))]
          generalize (unmapS 0 S2 x).2.2 = S3 at *
          generalize (unmapS 0 S2 x).1 = u1
          go_wp2
          go_roundw
          case rel => exact ⟨j + 1, S3, by omega, by go_num, HST.out, HL5.out, HO5.out, HB5.out⟩
          case measure => simp [intOf]; omega
        · obtain rfl : j = PL.length := by omega
          have hzero : ∀ q, q < 256 → S2.E q = (0, 0) := fun q hq => by
            have := HS2.out.2.2 q hq
            rw [List.take_length] at this
            by_cases c : q ∈ PL
            · rw [if_pos c] at this; exact this
            · rw [if_neg c] at this
              rw [this]
              apply Classical.byContradiction
              intro c2
              exact c (HPA.out q hq c2)
          have hleft : leftN 60 S2.R = 59 := by
            have h1 := left_rep HS2.out.1
            have h2 : tabs S2.T = 0 := tabs_zero HS2.out.1 hzero
            omega
          have HLF := Lib.hid hleft
          clear hzero hleft
          go_wp2_with fail
          refine (left_any HS2.out.2.1).mono ?_
          rintro e w5 ⟨rfl, hB5⟩
          rw [HLF.out]
          have HM5 := Lib.hid (S_keep HS2.out.2.1 hB5)
          have HB5 := Lib.hid (below_step HBi.out hB5)
          have HOK5 := Lib.hid HS2.out.1
          clear hB5 HS2 HST0 HM HO HB HM4 HB4 HL4 HO4 HPN HPA HLi HOi HBi HLF
          go_wp2_with fail
          go_loopw [15] (fun i wr => ∃ (k : Nat) (S : PtS), k ≤ len ∧ i = .int .i64 k ∧ S.ok 60 0 ∧ S.at wr p g 60 ∧ Below w.heap.size w wr) (fun i _ => len - (intOf i).toNat)
          case atStart => exact ⟨0, S2, Nat.zero_le _, rfl, HOK5.out, HM5.out, HB5.out⟩
          case round =>
            obtain ⟨k, S, hk, rfl, hok, hM, hB⟩ := hrel
            have HO := Lib.hid hok; have HM := Lib.hid hM
            clear hok hM
            by_cases hgo : k < len
            · have hlt : k < len := by omega
              have h60 : k < 60 := by omega
              obtain ⟨b, off, rfl, hb, hcs⟩ := HC.out (by omega)
              obtain ⟨d, pg, fr, fl, hA⟩ := hcs k hlt
              have HX0 := Lib.hid hA.h0; have HX1 := Lib.hid hA.h1
              have i0 : (0 : Int) ≤ (k : Int) := by omega
              have i1 : (k : Int) < (len : Int) := by omega
              have hbg : Hid (b ≠ g) := by have := hsz.out; unfold Hid; omega
              obtain ⟨_, c1, c2, c3, _, _⟩ := hA.below hB hb
              have HB := Lib.hid hB
              clear hA hB hcs
              go_wp2_with fail
              go_region_held3 (fun w' => w'.cell? ⟨b, off + k * 4 + 1, none⟩ = some (.int .i64 pg) ∧ w'.cell? ⟨b, off + k * 4 + 2, none⟩ = some (.int .i64 fr) ∧ w'.cell? ⟨b, off + k * 4 + 3, none⟩ = some (.int .i64 fl)) (first | exact ⟨c1, c2, c3⟩ | exact ⟨d1, d2, d3⟩ | go_keep)
                ((go_at_call 14; refine (map_rep (MemAt.drew HM.out) HO.out pg fr fl HX0.out HX1.out).mono ?_; rintro e w6 ⟨rfl, hM6, hG6⟩; have d1 := hG6.cell c1 (by intro e; exact hbg.out (Option.some.inj e)); have d2 := hG6.cell c2 (by intro e; exact hbg.out (Option.some.inj e)); have d3 := hG6.cell c3 (by intro e; exact hbg.out (Option.some.inj e)); have HM6 := Lib.hid hM6; have HB6 := Lib.hid (hgb.out _ _ HB.out (drew_grown hG6)); clear hM6 hG6))
              clear d1 d2 d3 c1 c2 c3
              go_wp2
              go_roundw
              case rel => exact ⟨k + 1, _, by omega, by go_num, map_ok HO.out pg fr fl, HM6.out, HB6.out⟩
              case measure => simp [intOf]; omega
            · obtain rfl : len = k := by omega
              have HB := Lib.hid hB
              clear hgo hB hk
              clear HOK5 HM5 HB5
              go_wp2_with fail
              refine (drop_rep HM.out HO.out).mono ?_
              rintro e w8 ⟨rfl, ⟨R8, hM8, hR8⟩, hG8⟩
              have HM8 := Lib.hid hM8
              have HB8 := Lib.hid (hgb.out _ _ HB.out hG8)
              have HLF := Lib.hid (left_none hR8)
              clear hM8 hG8 hR8
              go_wp2_with fail
              refine (left_any HM8.out).mono ?_
              rintro e w9 ⟨rfl, hB9⟩
              rw [HLF.out]
              have HB9 := Lib.hid (below_step HB8.out hB9)
              clear hB9
              go_wp2
              go_ret
              exact ⟨rfl, HB9.out⟩

set_option maxRecDepth 100000 in
set_option maxHeartbeats 8000000 in
theorem empty_walkB (a : Option Addr) (len cap : Nat) (hle : 60 < len) (w : World) (hacts : ActsAt w a len) :
    Calls Try.prog 5 #[.slice a len cap] w fun e w' => e = .returned (.bool true) ∧ Below w.heap.size w w' := by
  obtain ⟨_hlen, hc⟩ := hacts
  unfold maxLen at _hlen
  have HC := Lib.hid hc; clear hc
  go_enter Try.func5, Try.ntmps5
  go_wp2_with fail
  refine (shown_any _).mono ?_
  rintro e w1 ⟨rfl, hB1⟩
  have HB1 := Lib.hid hB1; clear hB1
  go_wp2_with fail
  refine (new_ok 60 (by omega) (by omega) _).mono ?_
  rintro e w2 ⟨rfl, hM2, hB2⟩
  have HB2 := Lib.hid (below_step HB1.out hB2); clear hB2
  have hsz : Hid (w.heap.size ≤ w1.heap.size) := HB1.out.size
  go_wp2_with fail
  refine (pnew_any hM2).mono ?_
  rintro e w3 ⟨rfl, hM3, hG3⟩
  generalize w1.heap.size + 1 = p at *
  generalize w1.heap.size = g at *
  have hgb : Hid (∀ (W W' : World), Below w.heap.size w W → W.grownBy W' (some g) → Below w.heap.size w W') := fun W W' h1 h => h1.trans (below_of_grown h h1.size (fun j e => by cases e; exact hsz.out))
  have HB3 := Lib.hid (hgb.out _ _ HB2.out hG3); clear hG3 hM2
  have HM3 := Lib.hid hM3; clear hM3
  go_wp2_with fail
  go_loopw [8] (fun i wr => ∃ (k : Nat) (S : PtS), k ≤ 60 ∧ i = .int .i64 k ∧ S.ok 60 0 ∧ S.at wr p g 60 ∧ Below w.heap.size w wr) (fun i _ => len - (intOf i).toNat)
  case atStart => exact ⟨0, S0, Nat.zero_le _, rfl, S0_ok (by omega) (by omega), HM3.out, HB3.out⟩
  case round =>
    obtain ⟨k, S, hk, rfl, hok, hM, hB⟩ := hrel
    have HO := Lib.hid hok; have HM := Lib.hid hM
    clear hok hM
    by_cases hgo : k < 60
    · have hlt : k < len := by omega
      have h60 : k < 60 := by omega
      obtain ⟨b, off, rfl, hb, hcs⟩ := HC.out (by omega)
      obtain ⟨d, pg, fr, fl, hA⟩ := hcs k hlt
      have HX0 := Lib.hid hA.h0; have HX1 := Lib.hid hA.h1
      have i0 : (0 : Int) ≤ (k : Int) := by omega
      have i1 : (k : Int) < (len : Int) := by omega
      have hbg : Hid (b ≠ g) := by have := hsz.out; unfold Hid; omega
      obtain ⟨_, c1, c2, c3, _, _⟩ := hA.below hB hb
      have HB := Lib.hid hB
      clear hA hB hcs
      go_wp2_with fail
      go_region_held3 (fun w' => w'.cell? ⟨b, off + k * 4 + 1, none⟩ = some (.int .i64 pg) ∧ w'.cell? ⟨b, off + k * 4 + 2, none⟩ = some (.int .i64 fr) ∧ w'.cell? ⟨b, off + k * 4 + 3, none⟩ = some (.int .i64 fl)) (first | exact ⟨c1, c2, c3⟩ | exact ⟨d1, d2, d3⟩ | go_keep)
        ((go_at_call 14; refine (map_rep (MemAt.drew HM.out) HO.out pg fr fl HX0.out HX1.out).mono ?_; rintro e w6 ⟨rfl, hM6, hG6⟩; have d1 := hG6.cell c1 (by intro e; exact hbg.out (Option.some.inj e)); have d2 := hG6.cell c2 (by intro e; exact hbg.out (Option.some.inj e)); have d3 := hG6.cell c3 (by intro e; exact hbg.out (Option.some.inj e)); have HM6 := Lib.hid hM6; have HB6 := Lib.hid (hgb.out _ _ HB.out (drew_grown hG6)); clear hM6 hG6))
      clear d1 d2 d3 c1 c2 c3
      go_wp2
      go_roundw
      case rel => exact ⟨k + 1, _, by omega, by go_num, map_ok HO.out pg fr fl, HM6.out, HB6.out⟩
      case measure => simp [intOf]; omega
    · obtain rfl : k = 60 := by omega
      have HB := Lib.hid hB
      clear hgo hB hk
      have hgl : Hid (g < wr.heap.size) := MemAt.g_lt HM.out
      go_wp2_with fail
      refine (pages_sl HM.out HO.out).mono ?_
      rintro e w4 ⟨⟨qa, qc, rfl, hL4, hO4⟩, hB4⟩
      have hp4 := pages_len_le S.E
      have HM4 := Lib.hid (S_keep HM.out hB4)
      have HB4 := Lib.hid (below_step HB.out hB4)
      have HL4 := Lib.hid hL4
      have HO4 : Hid (∀ b, (Value.slice qa (pagesL S.E).length qc).ownBlock = some b → b < w4.heap.size ∧ b ≠ g) := fun b e => ⟨(hO4 b e).2, by have := (hO4 b e).1; have := hgl.out; omega⟩
      clear hB4 hL4 hO4
      have HPN : Hid (∀ j, j < (pagesL S.E).length → (pagesL S.E)[j]?.getD 0 < 256 ∧ S.E ((pagesL S.E)[j]?.getD 0) ≠ (0, 0) ∧ (pagesL S.E)[j]?.getD 0 ∉ (pagesL S.E).take j ∧ (pagesL S.E).take (j + 1) = (pagesL S.E).take j ++ [(pagesL S.E)[j]?.getD 0]) := fun j hj => pages_nth hj
      have HPA : Hid (∀ q, q < 256 → S.E q ≠ (0, 0) → q ∈ pagesL S.E) := fun q h1 h2 => pages_mem.2 ⟨h1, h2⟩
      have HE0 : Hid (∃ E0 : Nat → Nat × Nat, E0 = S.E) := ⟨_, rfl⟩
      clear HE0
      have HST0 : Hid (S.ok 60 0 ∧ S.at w4 p g 60 ∧ ∀ q, q < 256 → S.E q = if q ∈ (pagesL S.E).take 0 then (0, 0) else S.E q) := ⟨HO.out, HM4.out, fun q _ => by simp⟩
      generalize pagesL S.E = PL at *
      go_wp2_with fail
      go_loopw [11] (fun i wi => ∃ (j : Nat) (S2 : PtS), j ≤ PL.length ∧ i = .int .i64 j ∧ (S2.ok 60 0 ∧ S2.at wi p g 60 ∧ ∀ q, q < 256 → S2.E q = if q ∈ PL.take j then (0, 0) else S.E q) ∧ ListAt wi (.slice qa PL.length qc) PL ∧ (∀ b, (Value.slice qa PL.length qc).ownBlock = some b → b < wi.heap.size ∧ b ≠ g) ∧ Below w.heap.size w wi) (fun i _ => PL.length - (intOf i).toNat)
      case atStart => exact ⟨0, S, Nat.zero_le _, rfl, HST0.out, HL4.out, HO4.out, HB4.out⟩
      case round =>
        obtain ⟨j, S2, hj, rfl, hS2, hLi, hOi, hBi⟩ := hrel
        have HS2 := Lib.hid hS2; have HLi := Lib.hid hLi; have HOi := Lib.hid hOi; have HBi := Lib.hid hBi
        clear hS2 hLi hOi hBi
        by_cases hlj : j < PL.length
        · obtain ⟨qb, rfl, hcell⟩ := HLi.out.row (by omega)
          have cj := hcell j hlj
          obtain ⟨n1, n2, n3, n4⟩ := HPN.out j hlj
          clear hcell
          generalize PL[j]?.getD 0 = x at cj n1 n2 n3 n4
          have j0 : (0 : Int) ≤ (j : Int) := by omega
          have j1 : (j : Int) < (PL.length : Int) := by omega
          have hEx : S2.E x ≠ (0, 0) := by rw [HS2.out.2.2 x n1, if_neg n3]; exact n2
          have hUM : (unmapS 0 S2 x).2.1 = 0 ∧ (unmapS 0 S2 x).2.2.E = updE S2.E x (0, 0) := by
            rcases unmapS_E 0 S2 x with ⟨h1, h2⟩ | ⟨h1, h2, h3, h4⟩
            · exfalso
              apply h1
              unfold unmapS
              rw [if_pos (by simp [belowB]; omega), Int.toNat_natCast, if_neg hEx]
              split <;> rfl
            · rw [Int.toNat_natCast] at h4; exact ⟨h1, h4⟩
          have HU1 := Lib.hid hUM.1; have HU2 := Lib.hid hUM.2
          have HN3 := Lib.hid n3; have HN4 := Lib.hid n4; have HN1 := Lib.hid n1
          clear hUM hEx n1 n2 n3 n4
          go_wp2_with fail
          refine (unmap_rep HS2.out.2.1 HS2.out.1 x).mono ?_
          rintro e w5 ⟨rfl, hM5, hG5⟩
          rw [HU1.out]
          have HM5 := Lib.hid hM5
          have HB5 := Lib.hid (hgb.out _ _ HBi.out hG5)
          have HL5 := Lib.hid (HLi.out.grown hG5 HOi.out)
          have HO5 : Hid (∀ b, (Value.slice (some ⟨qb, 0, none⟩) PL.length qc).ownBlock = some b → b < w5.heap.size ∧ b ≠ g) := fun b e => ⟨Nat.lt_of_lt_of_le (HOi.out b e).1 hG5.size, (HOi.out b e).2⟩
          clear hM5 hG5 cj
          have HST : Hid ((unmapS 0 S2 x).2.2.ok 60 0 ∧ (unmapS 0 S2 x).2.2.at w5 p g 60 ∧ ∀ q, q < 256 → (unmapS 0 S2 x).2.2.E q = if q ∈ PL.take (j + 1) then (0, 0) else S.E q) := by
            refine ⟨unmap_ok HS2.out.1 x, HM5.out, fun q hq => ?_⟩
            rw [HU2.out, HN4.out]
            by_cases c : q = x
            · rw [c, updE_same, if_pos (by simp)]
            · rw [updE_other _ _ c, HS2.out.2.2 q hq]
              have : (q ∈ PL.take j ++ [x]) ↔ q ∈ PL.take j := by simp [c]
              by_cases c2 : q ∈ PL.take j
              · rw [if_pos c2, if_pos (this.2 c2)]
              · rw [if_neg c2, if_neg (fun h => c2 (this.1 h))]
          generalize (unmapS 0 S2 x).2.2 = S3 at *
          generalize (unmapS 0 S2 x).1 = u1
          go_wp2
          go_roundw
          case rel => exact ⟨j + 1, S3, by omega, by go_num, HST.out, HL5.out, HO5.out, HB5.out⟩
          case measure => simp [intOf]; omega
        · obtain rfl : j = PL.length := by omega
          have hzero : ∀ q, q < 256 → S2.E q = (0, 0) := fun q hq => by
            have := HS2.out.2.2 q hq
            rw [List.take_length] at this
            by_cases c : q ∈ PL
            · rw [if_pos c] at this; exact this
            · rw [if_neg c] at this
              rw [this]
              apply Classical.byContradiction
              intro c2
              exact c (HPA.out q hq c2)
          have hleft : leftN 60 S2.R = 59 := by
            have h1 := left_rep HS2.out.1
            have h2 : tabs S2.T = 0 := tabs_zero HS2.out.1 hzero
            omega
          have HLF := Lib.hid hleft
          clear hzero hleft
          go_wp2_with fail
          refine (left_any HS2.out.2.1).mono ?_
          rintro e w5 ⟨rfl, hB5⟩
          rw [HLF.out]
          have HM5 := Lib.hid (S_keep HS2.out.2.1 hB5)
          have HB5 := Lib.hid (below_step HBi.out hB5)
          have HOK5 := Lib.hid HS2.out.1
          clear hB5 HS2 HST0 HM HO HB HM4 HB4 HL4 HO4 HPN HPA HLi HOi HBi HLF
          go_wp2_with fail
          go_loopw [15] (fun i wr => ∃ (k : Nat) (S : PtS), k ≤ 60 ∧ i = .int .i64 k ∧ S.ok 60 0 ∧ S.at wr p g 60 ∧ Below w.heap.size w wr) (fun i _ => len - (intOf i).toNat)
          case atStart => exact ⟨0, S2, Nat.zero_le _, rfl, HOK5.out, HM5.out, HB5.out⟩
          case round =>
            obtain ⟨k, S, hk, rfl, hok, hM, hB⟩ := hrel
            have HO := Lib.hid hok; have HM := Lib.hid hM
            clear hok hM
            by_cases hgo : k < 60
            · have hlt : k < len := by omega
              have h60 : k < 60 := by omega
              obtain ⟨b, off, rfl, hb, hcs⟩ := HC.out (by omega)
              obtain ⟨d, pg, fr, fl, hA⟩ := hcs k hlt
              have HX0 := Lib.hid hA.h0; have HX1 := Lib.hid hA.h1
              have i0 : (0 : Int) ≤ (k : Int) := by omega
              have i1 : (k : Int) < (len : Int) := by omega
              have hbg : Hid (b ≠ g) := by have := hsz.out; unfold Hid; omega
              obtain ⟨_, c1, c2, c3, _, _⟩ := hA.below hB hb
              have HB := Lib.hid hB
              clear hA hB hcs
              go_wp2_with fail
              go_region_held3 (fun w' => w'.cell? ⟨b, off + k * 4 + 1, none⟩ = some (.int .i64 pg) ∧ w'.cell? ⟨b, off + k * 4 + 2, none⟩ = some (.int .i64 fr) ∧ w'.cell? ⟨b, off + k * 4 + 3, none⟩ = some (.int .i64 fl)) (first | exact ⟨c1, c2, c3⟩ | exact ⟨d1, d2, d3⟩ | go_keep)
                ((go_at_call 14; refine (map_rep (MemAt.drew HM.out) HO.out pg fr fl HX0.out HX1.out).mono ?_; rintro e w6 ⟨rfl, hM6, hG6⟩; have d1 := hG6.cell c1 (by intro e; exact hbg.out (Option.some.inj e)); have d2 := hG6.cell c2 (by intro e; exact hbg.out (Option.some.inj e)); have d3 := hG6.cell c3 (by intro e; exact hbg.out (Option.some.inj e)); have HM6 := Lib.hid hM6; have HB6 := Lib.hid (hgb.out _ _ HB.out (drew_grown hG6)); clear hM6 hG6))
              clear d1 d2 d3 c1 c2 c3
              go_wp2
              go_roundw
              case rel => exact ⟨k + 1, _, by omega, by go_num, map_ok HO.out pg fr fl, HM6.out, HB6.out⟩
              case measure => simp [intOf]; omega
            · obtain rfl : k = 60 := by omega
              have HB := Lib.hid hB
              clear hgo hB hk
              clear HOK5 HM5 HB5
              go_wp2_with fail
              refine (drop_rep HM.out HO.out).mono ?_
              rintro e w8 ⟨rfl, ⟨R8, hM8, hR8⟩, hG8⟩
              have HM8 := Lib.hid hM8
              have HB8 := Lib.hid (hgb.out _ _ HB.out hG8)
              have HLF := Lib.hid (left_none hR8)
              clear hM8 hG8 hR8
              go_wp2_with fail
              refine (left_any HM8.out).mono ?_
              rintro e w9 ⟨rfl, hB9⟩
              rw [HLF.out]
              have HB9 := Lib.hid (below_step HB8.out hB9)
              clear hB9
              go_wp2
              go_ret
              exact ⟨rfl, HB9.out⟩

set_option maxRecDepth 100000 in
theorem empty_lifted (os : Os) (started : os.Started) (H : Type) (enc : TypeId × Value → H) :
    ReturnsInHanded {} Try.checked os 5 .any (Rows.ptableEmptySpec.pre6 enc Try.prog Try.f5 Rows.ptableEmptyRow.domain false) (Rows.ptableEmptySpec.post enc Try.prog Try.f5 false true false false) := by
  refine returnsInHanded_of_change (C := Try.checked) own started (by kernel_rfl) Try.func5
    (ChangeSpec.witness6 (enc := enc) (C := Try.checked) false ⟨#[], #[.slice none 0 0], []⟩ 8 (by kernel_rfl) (by kernel_rfl) (by kernel_rfl) (by kernel_rfl)) ?_
  intro W base args ds gs before hval0 hW _ _
  have hval : ∀ (j : Nat) t v, Try.f5.params[j]? = some t → args[j]? = some v → Value.okWide Try.prog W .any base t v := hval0
  have hW' := hW
  obtain ⟨p, q, hA0, hV, rfl, hfz, hnd⟩ := hW
  have hA : DataW.TrodAll enc Try.prog W 0 (fun _ => true) true Try.f5.params.toList args.toList ds p := hA0
  rw [Try.params5] at hA hval
  obtain ⟨v0, vs0, d0, ds0, p0, q0, hargs, rfl, rfl, h0, r0⟩ := trodAll_cons hA
  obtain ⟨rfl, rfl, rfl⟩ := trodAll_nil r0
  obtain rfl : args = #[v0] := by cases args; simp_all
  obtain ⟨a, len, cap, rfl, hacts⟩ := open_acts (hval 0 22 v0 rfl rfl) h0
  have hwalk : Calls Try.prog 5 #[.slice a len cap] W fun e w' => e = .returned (.bool true) ∧ Below W.heap.size W w' := by
    by_cases hle : len ≤ 60
    · exact empty_walkA a len cap hle W hacts
    · exact empty_walkB a len cap (by omega) W hacts
  refine hwalk.mono fun e W' ⟨he, bel⟩ => ⟨_, he, ?_⟩
  exact law_post laidOut (of_decide_eq_true (by kernel_rfl)) rfl Try.underlying4 rfl hW' (fun ds' e => by subst e; rfl) bel

theorem ptableEmpty_holds : Rows.PtableEmptySaid :=
  OpenClaim.holds_of_wide 5 Try.f5 rfl rfl rfl rfl rfl rfl rfl ⟨rfl, rfl, rfl, rfl, rfl⟩ rfl rfl rfl rfl rfl (by kernel_rfl) Try.func5 (by kernel_rfl)
    (of_decide_eq_true (by kernel_rfl)) (by unfold Func.isWrapper; rw [if_neg (by decide +kernel)]; exact ⟨rfl, rfl⟩)
    (fun os started H enc _ => empty_lifted os started H enc)

#print axioms ptableEmpty_holds
end Go.Proofs.Ytkcoeibbmfkjlaa
