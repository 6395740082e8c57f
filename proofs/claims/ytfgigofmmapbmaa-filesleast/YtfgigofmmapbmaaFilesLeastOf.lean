/- FilesLeast, under Works: a new descriptor is the least that is free. -/
import Derived.Test.YtfgigofmmapbmaaFiDone
import Derived.Test.YtfgigofmmapbmaaFiActs
namespace Go.Proofs.Ytfgigofmmapbmaa
open Go.RowKit Go.ChangeShapes Go.WideShapes Go.ChangeAt

set_option maxRecDepth 100000 in
set_option maxHeartbeats 4000000 in
theorem least_of {Fi : World → (Nat → Prop) → Nat → List FV → Nat → Prop} (W : Works Fi) (N : NewOf Fi) (a : Option Addr) (len cap : Nat) (P : Int) (w : World) (hA : ActsAt w a len) :
    Calls Try.prog 8 #[.slice a len cap, .int .i64 P] w fun e w' => e = .returned (.bool true) ∧ Below w.heap.size w w' := by
  have HW := Lib.hid W
  have HNew := Lib.hid N
  have HA := Lib.hid hA.2
  have hlen := hA.1
  have HS := Lib.hid (shown9 W N w)
  unfold maxLen at hlen
  clear W N hA
  by_cases hp1 : P < 1
  · go_enter Try.func8, Try.ntmps8
    go_wp2_with (go_at_call 10; refine HS.out.mono ?_; rintro e w1 ⟨rfl, hB⟩; have HB := Lib.hid hB; clear hB)
    go_ret
    exact ⟨rfl, HB.out⟩
  by_cases hp5 : 5 < P
  · go_enter Try.func8, Try.ntmps8
    go_wp2_with (go_at_call 10; refine HS.out.mono ?_; rintro e w1 ⟨rfl, hB⟩; have HB := Lib.hid hB; clear hB)
    go_ret
    exact ⟨rfl, HB.out⟩
  go_enter Try.func8, Try.ntmps8
  go_wp2_with (first
    | (go_at_call 10; refine HS.out.mono ?_; rintro e w1 ⟨rfl, hB⟩; have HB := Lib.hid hB; clear hB)
    | (go_at_call 11; refine (st_new HNew.out HB.out).mono ?_; rintro e w2 ⟨p, rfl, h2⟩; have H2 := Lib.hid h2; clear h2))
  go_loopw [7] (fun i wr => ∃ j : Nat, j ≤ len ∧ j ≤ 60 ∧ i = .int .i64 j ∧ ∃ L n, St Fi w wr p L n ∧ L.length ≤ 8 * j ∧ n ≤ j) (fun i _ => len - (intOf i).toNat)
  case atStart => exact ⟨0, by omega, by omega, rfl, [], 0, H2.out, by simp, by omega⟩
  case round =>
    obtain ⟨j, hj, hj60, rfl, L, n, hT, hL, hn⟩ := hrel
    have HT := Lib.hid hT
    clear hT
    by_cases hlt : j < len ∧ j < 60
    · obtain ⟨hl1, hl2⟩ := hlt
      obtain ⟨b, off, rfl, hb, hc⟩ := HA.out (by omega)
      obtain ⟨d, Q, F, k, t, hx⟩ := hc j hl1
      have hx' := hx.below HT.out.bel hb
      have y0 := hx'.c0; have y1 := hx'.c1; have y2 := hx'.c2; have y3 := hx'.c3; have y4 := hx'.c4
      have HD := Lib.hid (done9 HW.out HT.out (by omega) (by omega) d Q F k t)
      have HL2 := Lib.hid (act_len (y := whichY d) (p := Q) (d := F) (k := k) (t := t) (HT.out.wf HW.out))
      have HN2 := Lib.hid (act_n (L := L) (n := n) (y := whichY d) (p := Q) (k := k) (t := t))
      clear hx hx' hc
      go_wp2_with (go_at_call 22; refine HD.out.mono ?_; rintro e w3 ⟨rfl, h3⟩; have H3 := Lib.hid h3; clear h3)
      go_roundw
      case rel => exact ⟨j + 1, by omega, by omega, by go_num, _, _, H3.out, by have := HL2.out; omega, by have := HN2.out; omega⟩
      case measure => simp [intOf]; omega
    · rcases (show ¬ j < len ∨ (j < len ∧ ¬ j < 60) by omega) with c | ⟨c, c2⟩
      all_goals
        have hLb : L.length ≤ 80000 := by omega
        have hnb : n ≤ 80000 := by omega
        clear hlt
        go_wp2
        go_loopw [8] (fun i wr2 => ∃ v : Nat, v ≤ 8 ∧ i = .int .i64 v ∧ St Fi w wr2 p L n ∧ ∀ i : Nat, i < v → getE L P i = 0) (fun i _ => 8 - (intOf i).toNat)
        case atStart => exact ⟨0, by omega, rfl, HT.out, fun i hi => absurd hi (by omega)⟩
        case round =>
          obtain ⟨v, hv, rfl, hT2, hlo⟩ := hrel
          have HT2 := Lib.hid hT2; have HLO := Lib.hid hlo
          clear hT2 hlo
          have HG := Lib.hid (st_get HW.out HT2.out hLb hnb P v)
          by_cases hv8 : v < 8
          · by_cases hE : getE L P v = 0
            · have HE := Lib.hid hE
              rw [hE] at HG
              clear hE
              go_wp2_with (go_at_call 15; refine HG.out.mono ?_; rintro e w3 ⟨rfl, h3, -⟩; have H3 := Lib.hid (St.alloc HW.out h3 (.cells #[.int .i64 (getX L P v).kind, .int .i64 (getX L P v).thing] 32)); clear h3)
              go_roundw
              case rel => exact ⟨v + 1, by omega, by go_num, H3.out, fun i hi => by
                rcases Nat.lt_or_ge i v with c | c
                · exact HLO.out i c
                · obtain rfl : i = v := by omega
                  exact HE.out⟩
              case measure => simp [intOf]; omega
            · have hf := least_yes (by omega) hv8 HLO.out hE
              have HO : Hid (∀ w3, St Fi w w3 p L n → Calls Try.prog 17 #[.pointer (some ⟨p, 0, none⟩), .int .i64 P, .agg #[.int .i64 1, .int .i64 0]] w3 fun e w' => (e = .returned (.tuple #[.int .i64 v, .int .i64 0]) ∧ St Fi w w' p (openL L n P 1 0) (openG L n P 1 0)) ∨ (e = .returned (.tuple #[.int .i64 0, .int .i64 82]) ∧ cntN L n = 32 ∧ St Fi w w' p L n)) := fun w3 h3 => by
                refine (st_open HW.out h3 hLb hnb P 1 0).mono ?_
                rintro e w' ⟨rfl, h⟩
                have hwf := (HT2.out.wf HW.out).cnt
                have hOE : openE L n P 1 0 = if 32 ≤ cntN L n then 82 else 0 := by
                  unfold openE
                  rw [if_neg (by omega), hf, if_neg (by omega)]
                by_cases c : 32 ≤ cntN L n
                · rw [if_pos c] at hOE
                  have e1 : openN L n P 1 0 = 0 := by unfold openN; rw [hOE]; rfl
                  have e2 : openL L n P 1 0 = L := by unfold openL; rw [hOE]; rfl
                  have e3 : openG L n P 1 0 = n := by unfold openG; rw [hOE]; rfl
                  rw [e2, e3] at h
                  exact .inr ⟨by rw [hOE, e1], by omega, h⟩
                · rw [if_neg c] at hOE
                  have e1 : openN L n P 1 0 = v := by unfold openN; rw [hOE, if_pos rfl, hf]
                  exact .inl ⟨by rw [hOE, e1], h⟩
              have hE' : (getE L P v == 0) = false := by simpa using hE
              have hv8' : ¬ (v : Int) = 8 := by omega
              clear hf hE
              generalize getE L P v = E at *
              go_wp2_with (first
                | (go_at_call 15; refine HG.out.mono ?_; rintro e w3 ⟨rfl, h3, -⟩; have H3 := Lib.hid (St.alloc HW.out h3 (.cells #[.int .i64 (getX L P v).kind, .int .i64 (getX L P v).thing] 32)); clear h3)
                | (go_at_call 17; refine (HO.out _ H3.out).mono ?_; rintro e w4 (⟨rfl, h4⟩ | ⟨rfl, h5, h4⟩))
                | (go_at_call 13; refine (st_count HW.out h4 hLb hnb).mono ?_; rintro e w5 ⟨rfl, h6⟩; rw [h5]; have H6 := Lib.hid h6; clear h6))
              all_goals go_ret
              · exact ⟨rfl, St.bel h4⟩
              · exact ⟨rfl, H6.out.bel⟩
          · obtain rfl : v = 8 := by omega
            have hf := least_no HLO.out
            have hOE : openE L n P 1 0 = 81 := by
              unfold openE
              rw [if_neg (by omega), hf]
              rfl
            have HO := Lib.hid (st_open HW.out HT2.out hLb hnb P 1 0)
            rw [hOE] at HO
            clear hf hOE
            go_wp2_with (go_at_call 17; refine HO.out.mono ?_; rintro e w4 ⟨rfl, h4⟩; have H4 := Lib.hid h4; clear h4)
            go_ret
            exact ⟨rfl, H4.out.bel⟩
end Go.Proofs.Ytfgigofmmapbmaa
