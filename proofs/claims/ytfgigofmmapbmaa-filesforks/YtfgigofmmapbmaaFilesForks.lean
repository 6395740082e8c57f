/- FilesForks: for every list of things the law answers true: a child has its parent's descriptors, and they are its own. No conditions. -/
import Derived.Test.YtfgigofmmapbmaaFiSide
import Derived.Test.YtfgigofmmapbmaaFiAll
import Derived.Test.YtfgigofmmapbmaaFiActs
import Derived.Test.YtfgigofmmapbmaaFiLaws
namespace Go.Proofs.Ytfgigofmmapbmaa
open Go.RowKit Go.ChangeShapes Go.WideShapes Go.ChangeAt

theorem child_look {L : List FV} (j d : Nat) : look (drL (L ++ moreL L 1 2) 2 j) 1 d = look L 1 d := by rw [dr_other (by decide), look_app2 (more_else (by decide))]
theorem child_gets {L : List FV} (hp : ∀ x ∈ L, x.pid = 1) (v : Nat) :
    (getE (drL (L ++ moreL L 1 2) 2 v) 1 v = getE L 1 v ∧ getX (drL (L ++ moreL L 1 2) 2 v) 1 v = getX L 1 v) ∧
    (getE (drL (L ++ moreL L 1 2) 2 v) 2 v = getE L 1 v ∧ (getX (drL (L ++ moreL L 1 2) 2 v) 2 v).kind = (getX L 1 v).kind ∧ (getX (drL (L ++ moreL L 1 2) 2 v) 2 v).thing = (getX L 1 v).thing) ∧
    (getE (drL (L ++ moreL L 1 2) 2 (v + 1)) 1 v = getE L 1 v ∧ getX (drL (L ++ moreL L 1 2) 2 (v + 1)) 1 v = getX L 1 v) := by
  refine ⟨get_same (child_look v v), ?_, get_same (child_look (v + 1) v)⟩
  have h2 := (child_facts hp (j := v)).2
  have e : getE (drL (L ++ moreL L 1 2) 2 v) 2 v = getE L 1 v := by
    rw [getE_look, getE_look, h2, if_neg (by decide), if_neg (by decide)]
    cases look L 1 v <;> rfl
  refine ⟨e, ?_⟩
  unfold getX
  rw [e]
  by_cases c : getE L 1 v = 0
  · rw [if_pos c, if_pos c, fdX_look, fdX_look, h2]
    cases look L 1 v <;> exact ⟨rfl, rfl⟩
  · rw [if_neg c, if_neg c]
    exact ⟨rfl, rfl⟩
theorem child_stay {L : List FV} (hp : ∀ x ∈ L, x.pid = 1) : fork9L (L ++ moreL L 1 2) 1 2 = L ++ moreL L 1 2 := by
  rcases child_again hp with ⟨rfl, h⟩ | ⟨h, h2⟩
  · rfl
  · unfold fork9L
    rw [h2, if_neg (by decide)]
theorem open_ones {L : List FV} {n : Nat} {k t : Int} (hp : ∀ x ∈ L, x.pid = 1) : (∀ x ∈ openL L n 1 k t, x.pid = 1) ∧ (openL L n 1 k t).length ≤ L.length + 1 ∧ openG L n 1 k t ≤ n + 1 := by
  unfold openL openG
  split
  · refine ⟨fun x hx => ?_, by simp, by omega⟩
    rcases List.mem_append.1 hx with c | c
    · exact hp x c
    · rw [List.mem_singleton.1 c]
  · exact ⟨hp, by omega, by omega⟩
set_option maxRecDepth 100000 in
theorem neq_same9 (k t : Int) (w : World) : (binOp .neq 32 (.agg #[.int .i64 k, .int .i64 t]) (.agg #[.int .i64 k, .int .i64 t])).run Try.prog w = .ok (.bool false) w := by simp [go_sem]

set_option maxRecDepth 100000 in
set_option maxHeartbeats 8000000 in
theorem forks_walk (a : Option Addr) (len cap : Nat) (w : World) (hA : OpensAt w a len) :
    Calls Try.prog 7 #[.slice a len cap] w fun e w' => e = .returned (.bool true) ∧ Below w.heap.size w w' := by
  have HA := Lib.hid hA.2
  have hlen := hA.1
  have HS := Lib.hid (shown9 works9 fi_new9 w)
  have HW := Lib.hid works9
  unfold maxLen at hlen
  clear hA
  go_enter Try.func7, Try.ntmps7
  go_wp2_with (first
    | (go_at_call 10; refine HS.out.mono ?_; rintro e w1 ⟨rfl, hB⟩; have HB := Lib.hid hB; clear hB)
    | (go_at_call 11; refine (st_new fi_new9 HB.out).mono ?_; rintro e w2 ⟨p, rfl, h2⟩; have H2 := Lib.hid h2; clear h2))
  go_loopw [5] (fun i wr => ∃ j : Nat, j ≤ len ∧ j ≤ 8 ∧ i = .int .i64 j ∧ ∃ L n, St Fi w wr p L n ∧ L.length ≤ j ∧ n ≤ j ∧ ∀ x ∈ L, x.pid = 1) (fun i _ => len - (intOf i).toNat)
  case atStart => exact ⟨0, by omega, by omega, rfl, [], 0, H2.out, by simp, by omega, fun x hx => by cases hx⟩
  case round =>
    obtain ⟨j, hj, hj8, rfl, L, n, hT, hL, hn, hp⟩ := hrel
    have HT := Lib.hid hT
    have HP := Lib.hid hp
    clear hT hp
    by_cases hlt : j < len ∧ j < 8
    · obtain ⟨hl1, hl2⟩ := hlt
      obtain ⟨b, off, rfl, hb, hc⟩ := HA.out (by omega)
      obtain ⟨k, t, y0, y1⟩ := hc j hl1
      have z0 := (HT.out.bel.cell (p := ⟨b, off + j * 2, none⟩) hb).trans y0
      have z1 := (HT.out.bel.cell (p := ⟨b, off + j * 2 + 1, none⟩) hb).trans y1
      have HO := Lib.hid (st_open HW.out HT.out (by omega) (by omega) 1 k t)
      have HN2 := Lib.hid (open_ones (n := n) (k := k) (t := t) HP.out)
      clear hc y0 y1
      generalize openN L n 1 k t = N9 at *
      generalize openE L n 1 k t = E9 at *
      go_wp2_with (go_at_call 17; refine HO.out.mono ?_; rintro e w3 ⟨rfl, h3⟩; have H3 := Lib.hid h3; clear h3)
      go_roundw
      case rel => exact ⟨j + 1, by omega, by omega, by go_num, _, _, H3.out, by have := HN2.out.2.1; omega, by have := HN2.out.2.2; omega, HN2.out.1⟩
      case measure => simp [intOf]; omega
    · have HCn := Lib.hid (st_count HW.out HT.out (by omega) (by omega))
      have hwf := HT.out.wf HW.out
      have HF1 : Hid (∀ w3, St Fi w w3 p L n → Calls Try.prog 20 #[.pointer (some ⟨p, 0, none⟩), .int .i64 1, .int .i64 2] w3 fun e w' => e = .returned (.int .i64 0) ∧ St Fi w w' p (L ++ moreL L 1 2) n) := fun w3 h3 => by
        have := st_fork HW.out h3 (by omega) (by omega) 1 2
        unfold fork9L at this
        rw [child_fork HP.out, if_pos rfl] at this
        exact this
      have hml : (L ++ moreL L 1 2).length ≤ 80000 := by
        have := more_len L 1 2
        rw [List.length_append]; omega
      have hn8 : n ≤ 80000 := by omega
      have HML := Lib.hid hml
      have HF2 : Hid (∀ w3, St Fi w w3 p (L ++ moreL L 1 2) n → Calls Try.prog 20 #[.pointer (some ⟨p, 0, none⟩), .int .i64 1, .int .i64 2] w3 fun e w' => e = .returned (.int .i64 (fork9E (L ++ moreL L 1 2) 1 2)) ∧ St Fi w w' p (L ++ moreL L 1 2) n) := fun w3 h3 => by
        have := st_fork HW.out h3 hml hn8 1 2
        rw [child_stay HP.out] at this
        exact this
      have HCN := Lib.hid (child_cnt hwf HP.out)
      have hgc : (fork9E (L ++ moreL L 1 2) 1 2 == 2) = decide (0 < (cntN L n : Int)) := by
        rcases child_again HP.out with ⟨rfl, h⟩ | ⟨h, h2⟩
        · rw [h, cntN_nil]; rfl
        · rw [h2]
          have := (cnt_pos hwf).2 h
          simp; omega
      generalize fork9E (L ++ moreL L 1 2) 1 2 = G9 at *
      have HGC := Lib.hid hgc
      clear hml hgc hwf
      have hcb : cntN L n ≤ 32 := (HT.out.wf HW.out).cnt
      obtain ⟨cn, hcn⟩ : ∃ cn : Nat, cntN L n = cn := ⟨_, rfl⟩
      rw [hcn] at HCn HCN HGC hcb
      clear hcn
      rcases (show ¬ j < len ∨ (j < len ∧ ¬ j < 8) by omega) with c | ⟨c, c2⟩
      all_goals
        clear hlt
        go_wp2_with (first
          | (go_at_call 13; refine HCn.out.mono ?_; rintro e w3 ⟨rfl, h3⟩; have H3 := Lib.hid h3; clear h3)
          | (go_at_call 20; refine (HF1.out _ H3.out).mono ?_; rintro e w4 ⟨rfl, h4⟩; have H4 := Lib.hid h4; clear h4 H3)
          | (go_at_call 20; refine (HF2.out _ H4.out).mono ?_; rintro e w5 ⟨rfl, h5⟩; have H5 := Lib.hid h5; clear h5 H4))
        go_loopw [9] (fun i wr2 => ∃ v : Nat, v ≤ 8 ∧ i = .int .i64 v ∧ St Fi w wr2 p (drL (L ++ moreL L 1 2) 2 v) n) (fun i _ => 8 - (intOf i).toNat)
        case atStart => exact ⟨0, by omega, rfl, H5.out⟩
        case round =>
          obtain ⟨v, hv, rfl, hT2⟩ := hrel
          have HT2 := Lib.hid hT2
          clear hT2
          have hdl : (drL (L ++ moreL L 1 2) 2 v).length ≤ 80000 := Nat.le_trans (drL_len _ _ _) HML.out
          by_cases hv8 : v < 8
          · have hdl2 : (drL (L ++ moreL L 1 2) 2 (v + 1)).length ≤ 80000 := Nat.le_trans (drL_len _ _ _) HML.out
            obtain ⟨⟨g1, g2⟩, ⟨g3, g4, g5⟩, ⟨g6, g7⟩⟩ := child_gets HP.out v
            have g8 := child_not HP.out v
            have HG1 := st_get HW.out HT2.out hdl hn8 1 v
            rw [g1, g2] at HG1
            have HG2 : Hid (∀ w3 C, St (FiA Fi C) w w3 p (drL (L ++ moreL L 1 2) 2 v) n → Calls Try.prog 15 #[.pointer (some ⟨p, 0, none⟩), .int .i64 2, .int .i64 v] w3 fun e w' => e = .returned (.tuple #[.agg #[.int .i64 (getX L 1 v).kind, .int .i64 (getX L 1 v).thing], .int .i64 (getE L 1 v)]) ∧ St (FiA Fi C) w w' p (drL (L ++ moreL L 1 2) 2 v) n ∧ Below w3.heap.size w3 w') := fun w3 C h => by
              have := st_get (works_side HW.out C) h hdl hn8 2 v
              rw [g3, g4, g5] at this
              exact this
            have HC2 : Hid (∀ w3 C, St (FiA Fi C) w w3 p (drL (L ++ moreL L 1 2) 2 v) n → Calls Try.prog 19 #[.pointer (some ⟨p, 0, none⟩), .int .i64 2, .int .i64 v] w3 fun e w' => e = .returned (.tuple #[.agg #[.int .i64 (getX L 1 v).kind, .int .i64 (getX L 1 v).thing], .bool false, .int .i64 (getE L 1 v)]) ∧ St (FiA Fi C) w w' p (drL (L ++ moreL L 1 2) 2 (v + 1)) n) := fun w3 C h => by
              have := st_cls (works_side HW.out C) h hdl hn8 2 v
              rw [g3, g4, g5, g8] at this
              exact this
            have HG3 : Hid (∀ w3 C, St (FiA Fi C) w w3 p (drL (L ++ moreL L 1 2) 2 (v + 1)) n → Calls Try.prog 15 #[.pointer (some ⟨p, 0, none⟩), .int .i64 1, .int .i64 v] w3 fun e w' => e = .returned (.tuple #[.agg #[.int .i64 (getX L 1 v).kind, .int .i64 (getX L 1 v).thing], .int .i64 (getE L 1 v)]) ∧ St (FiA Fi C) w w' p (drL (L ++ moreL L 1 2) 2 (v + 1)) n ∧ Below w3.heap.size w3 w') := fun w3 C h => by
              have := st_get (works_side HW.out C) h hdl2 hn8 1 v
              rw [g6, g7] at this
              exact this
            have HG1 := Lib.hid HG1
            clear g1 g2 g3 g4 g5 g6 g7 g8 hdl hdl2
            generalize (getX L 1 v).kind = kx at *
            generalize (getX L 1 v).thing = tx at *
            generalize getE L 1 v = E at *
            have hneq := neq_same9 kx tx
            go_wp2_with (first
              | (go_at_call 15; refine HG1.out.mono ?_; rintro e w6 ⟨rfl, h6, -⟩; have H6 := Lib.hid (St.side HW.out h6 (.cells #[.int .i64 kx, .int .i64 tx] 32)); clear h6 HG1)
              | (go_at_call 15; refine (HG2.out _ _ H6.out).mono ?_; rintro e w7 ⟨rfl, h7, hb7⟩; have h8 := St.alloc (works_side HW.out _) h7 (.cells #[.int .i64 kx, .int .i64 tx] 32); have x0 := h8.sideBox.at 0 (v := .int .i64 kx) rfl; have x1 := h8.sideBox.at 1 (v := .int .i64 tx) rfl; have H7 := Lib.hid h8; clear h7 hb7 h8 HG2 H6)
              | (go_at_call 19; refine (HC2.out _ _ H7.out).mono ?_; rintro e w8 ⟨rfl, h8⟩; have H8 := Lib.hid (St.alloc (works_side HW.out _) h8 (.cells #[.int .i64 kx, .int .i64 tx] 32)); clear h8 H7 x0 x1)
              | (go_at_call 15; refine (HG3.out _ _ H8.out).mono ?_; rintro e w9 ⟨rfl, h9, hb9⟩; have h10 := St.alloc (works_side HW.out _) h9 (.cells #[.int .i64 kx, .int .i64 tx] 32); have x0 := h10.sideBox.at 0 (v := .int .i64 kx) rfl; have x1 := h10.sideBox.at 1 (v := .int .i64 tx) rfl; have H9 := Lib.hid h10; clear h9 hb9 h10 HG3 H8))
            go_roundw
            case rel => exact ⟨v + 1, by omega, by go_num, H9.out.un⟩
            case measure => simp [intOf]; omega
          · obtain rfl : v = 8 := by omega
            have HCn2 := Lib.hid (st_count HW.out HT2.out hdl hn8)
            rw [HCN.out] at HCn2
            have hgt := HGC.out
            go_wp2_with (go_at_call 13; refine HCn2.out.mono ?_; rintro e w6 ⟨rfl, h6⟩; have H6 := Lib.hid h6; clear h6)
            go_ret
            exact ⟨rfl, H6.out.bel⟩
set_option maxRecDepth 100000 in
theorem forks_lifted (os : Os) (started : os.Started) (H : Type) (enc : TypeId × Value → H) :
    ReturnsInHanded {} Try.checked os 7 .any (Rows.filesForksSpec.pre6 enc Try.prog Try.f7 Rows.filesForksRow.domain false) (Rows.filesForksSpec.post enc Try.prog Try.f7 false true false false) := by
  refine returnsInHanded_of_change (C := Try.checked) own started (by kernel_rfl) Try.func7
    (ChangeSpec.witness6 (enc := enc) (C := Try.checked) false ⟨#[], #[.slice none 0 0], []⟩ 8 (by kernel_rfl) (by kernel_rfl) (by kernel_rfl) (by kernel_rfl)) ?_
  intro W base args ds gs before hval0 hW _ _
  have hval : ∀ (j : Nat) t v, Try.f7.params[j]? = some t → args[j]? = some v → Value.okWide Try.prog W .any base t v := hval0
  have hW' := hW
  obtain ⟨p, q, hA0, hV, rfl, hfz, hnd⟩ := hW
  have hA : DataW.TrodAll enc Try.prog W 0 (fun _ => true) true Try.f7.params.toList args.toList ds p := hA0
  rw [Try.params7] at hA hval
  obtain ⟨v0, vs0, d0, ds0, p0, q0, hargs, rfl, rfl, h0, r0⟩ := trodAll_cons hA
  obtain ⟨rfl, rfl, rfl⟩ := trodAll_nil r0
  obtain rfl : args = #[v0] := by cases args; simp_all
  obtain ⟨a0, len0, cap0, rfl, hops0⟩ := open_opens (hval 0 46 v0 rfl rfl) h0
  have hwalk : Calls Try.prog 7 #[.slice a0 len0 cap0] W fun e w' => e = .returned (.bool true) ∧ Below W.heap.size W w' := forks_walk a0 len0 cap0 W hops0
  refine hwalk.mono fun e W' ⟨he, bel⟩ => ⟨_, he, ?_⟩
  exact law_post laidOut (of_decide_eq_true (by kernel_rfl)) rfl Try.underlying4 rfl hW' (fun ds' e => by subst e; rfl) bel

theorem filesForks_holds : Rows.FilesForksSaid :=
  OpenClaim.holds_of_wide 7 Try.f7 rfl rfl rfl rfl rfl rfl rfl ⟨rfl, rfl, rfl, rfl, rfl⟩ rfl rfl rfl rfl rfl (by kernel_rfl) Try.func7 (by kernel_rfl)
    (of_decide_eq_true (by kernel_rfl)) (by unfold Func.isWrapper; rw [if_neg (by decide +kernel)]; exact ⟨rfl, rfl⟩)
    (fun os started H enc _ => forks_lifted os started H enc)

#print axioms filesForks_holds
end Go.Proofs.Ytfgigofmmapbmaa
