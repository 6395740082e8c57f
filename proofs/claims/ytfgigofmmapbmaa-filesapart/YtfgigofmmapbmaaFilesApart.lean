/- FilesApart: for every list of acts, every act and every number the law answers true: what somebody does touches nobody else's descriptors. No conditions. -/
import Derived.Test.YtfgigofmmapbmaaFiDone
import Derived.Test.YtfgigofmmapbmaaFiSide
import Derived.Test.YtfgigofmmapbmaaFiAll
import Derived.Test.YtfgigofmmapbmaaFiActs
import Derived.Test.YtfgigofmmapbmaaFiLaws
import Derived.BigQuiet
namespace Go.Proofs.Ytfgigofmmapbmaa
open Go.RowKit Go.ChangeShapes Go.WideShapes Go.ChangeAt

set_option maxRecDepth 100000 in
theorem neq_same5 (k t : Int) (w : World) : (binOp .neq 32 (.agg #[.int .i64 k, .int .i64 t]) (.agg #[.int .i64 k, .int .i64 t])).run Try.prog w = .ok (.bool false) w := by simp [go_sem]
/-- what was told of the first v. -/
structure Was (L : List FV) (q : Int) (v : Nat) (xs ys : Array Value) : Prop where
  sx : xs.size = 16
  sy : ys.size = 8
  kind : ∀ i, i < v → xs[i * 2]? = some (.int .i64 (getX L q i).kind)
  thing : ∀ i, i < v → xs[i * 2 + 1]? = some (.int .i64 (getX L q i).thing)
  err : ∀ i, i < v → ys[i]? = some (.int .i64 (getE L q i))
theorem Was.next {L : List FV} {q : Int} {v : Nat} {xs ys : Array Value} (h : Was L q v xs ys) (hv : v < 8) :
    Was L q (v + 1) ((xs.setIfInBounds (v * 2) (.int .i64 (getX L q v).kind)).setIfInBounds (v * 2 + 1) (.int .i64 (getX L q v).thing)) (ys.setIfInBounds v (.int .i64 (getE L q v))) := by
  have hx := h.sx; have hy := h.sy
  refine ⟨by simpa using hx, by simpa using hy, fun i hi => ?_, fun i hi => ?_, fun i hi => ?_⟩
  · rw [Array.getElem?_setIfInBounds_ne (by omega)]
    by_cases c : i = v
    · subst c; rw [Array.getElem?_setIfInBounds_self_of_lt (by omega)]
    · rw [Array.getElem?_setIfInBounds_ne (by omega)]; exact h.kind i (by omega)
  · by_cases c : i = v
    · subst c; rw [Array.getElem?_setIfInBounds_self_of_lt (by simp; omega)]
    · rw [Array.getElem?_setIfInBounds_ne (by omega), Array.getElem?_setIfInBounds_ne (by omega)]; exact h.thing i (by omega)
  · by_cases c : i = v
    · subst c; rw [Array.getElem?_setIfInBounds_self_of_lt (by omega)]
    · rw [Array.getElem?_setIfInBounds_ne (by omega)]; exact h.err i (by omega)

set_option maxRecDepth 100000 in
set_option maxHeartbeats 8000000 in
theorem apart_walk (a : Option Addr) (len cap : Nat) (d P F k t q : Int) (w : World) (hA : ActsAt w a len) :
    Calls Try.prog 5 #[.slice a len cap, .agg #[.int .i64 d, .int .i64 P, .int .i64 F, .int .i64 k, .int .i64 t], .int .i64 q] w fun e w' => e = .returned (.bool true) ∧ Below w.heap.size w w' := by
  have HA := Lib.hid hA.2
  have hlen := hA.1
  have HS := Lib.hid (shown9 works9 fi_new9 (w.alloc (.cells #[.int .i64 d, .int .i64 P, .int .i64 F, .int .i64 k, .int .i64 t] 34)))
  have HW := Lib.hid works9
  have HB0 := Lib.hid ((Below.refl w.heap.size w).alloc (Nat.le_refl _) (.cells #[.int .i64 d, .int .i64 P, .int .i64 F, .int .i64 k, .int .i64 t] 34))
  have HX0 := Lib.hid (BoxA.new w 34 #[.int .i64 d, .int .i64 P, .int .i64 F, .int .i64 k, .int .i64 t])
  unfold maxLen at hlen
  clear hA
  go_enter Try.func5, Try.ntmps5
  go_wp2_with (first
    | (go_at_call 10; refine HS.out.mono ?_; rintro e w1 ⟨rfl, hB⟩; have HB := Lib.hid (HB0.out.trans (hB.mono HB0.out.size)); have HX1 := Lib.hid (HX0.out.below' hB); clear hB)
    | (go_at_call 11; refine (st_new (w0 := w1) fi_new9 (Below.refl _ w1)).mono ?_; rintro e w2 ⟨p, rfl, h2⟩; have H2 := Lib.hid h2; clear h2))
  go_loopw [9] (fun i wr => ∃ j : Nat, j ≤ len ∧ j ≤ 60 ∧ i = .int .i64 j ∧ ∃ L n, St Fi w1 wr p L n ∧ L.length ≤ 8 * j ∧ n ≤ j) (fun i _ => len - (intOf i).toNat)
  case atStart => exact ⟨0, by omega, by omega, rfl, [], 0, H2.out, by simp, by omega⟩
  case round =>
    obtain ⟨j, hj, hj60, rfl, L, n, hT, hL, hn⟩ := hrel
    have HT := Lib.hid hT
    clear hT
    by_cases hlt : j < len ∧ j < 60
    · obtain ⟨hl1, hl2⟩ := hlt
      obtain ⟨b, off, rfl, hb, hc⟩ := HA.out (by omega)
      obtain ⟨d', Q, F', k', t', hx⟩ := hc j hl1
      have hx' := (hx.below HB.out hb).below HT.out.bel (Nat.lt_of_lt_of_le hb HB.out.size)
      have y0 := hx'.c0; have y1 := hx'.c1; have y2 := hx'.c2; have y3 := hx'.c3; have y4 := hx'.c4
      have HD := Lib.hid (done9 HW.out HT.out (by omega) (by omega) d' Q F' k' t')
      have HL2 := Lib.hid (act_len (y := whichY d') (p := Q) (d := F') (k := k') (t := t') (HT.out.wf HW.out))
      have HN2 := Lib.hid (act_n (L := L) (n := n) (y := whichY d') (p := Q) (k := k') (t := t'))
      clear hx hx' hc
      go_wp2_with (go_at_call 22; refine HD.out.mono ?_; rintro e w3 ⟨rfl, h3⟩; have H3 := Lib.hid h3; clear h3)
      go_roundw
      case rel => exact ⟨j + 1, by omega, by omega, by go_num, _, _, H3.out, by have := HL2.out; omega, by have := HN2.out; omega⟩
      case measure => simp [intOf]; omega
    · have hX2 := HX1.out.below' HT.out.bel
      have x0 := hX2.at 0 (v := .int .i64 d) rfl
      have x1 := hX2.at 1 (v := .int .i64 P) rfl
      have HBW := Lib.hid (HB.out.trans (HT.out.bel.mono HB.out.size))
      obtain ⟨y, hy, hd⟩ := mod8 d
      have HWY : Hid (whichY d = y) := by unfold Hid whichY; rw [hd]; rfl
      clear hX2
      have hlb : L.length ≤ 80000 := by omega
      have hnb : n ≤ 80000 := by omega
      by_cases hqp : q = P
      · have b0 : (q == P) = true := by simpa using hqp
        rcases (show ¬ j < len ∨ (j < len ∧ ¬ j < 60) by omega) with c | ⟨c, c2⟩
        all_goals
          clear hlt
          go_wp2
          go_ret
          exact ⟨rfl, HBW.out⟩
      have b0 : (q == P) = false := by simpa using hqp
      by_cases h6 : y = 6
      · subst h6
        rcases (show ¬ j < len ∨ (j < len ∧ ¬ j < 60) by omega) with c | ⟨c, c2⟩
        all_goals
          clear hlt
          go_wp2
          go_ret
          exact ⟨rfl, HBW.out⟩
      have hy6 : ((y : Int) == 6) = false := by rw [beq_eq_false_iff_ne]; omega
      have HOT : Hid (∀ v : Int, getE (actL y P F k t L n) q v = getE L q v ∧ getX (actL y P F k t L n) q v = getX L q v) := fun v => get_same (act_other (fun e => hqp e.symm) h6)
      have hll := Lib.hid (act_len (y := y) (p := P) (d := F) (k := k) (t := t) (HT.out.wf HW.out))
      have hnn := Lib.hid (act_n (L := L) (n := n) (y := y) (p := P) (k := k) (t := t))
      clear hqp h6
      have hs1 := HT.out.bel.size
      have hxs := HX1.out.lt
      have S1 := St.side HW.out HT.out (.cells #[.int .i64 0, .int .i64 0, .int .i64 0, .int .i64 0, .int .i64 0, .int .i64 0, .int .i64 0, .int .i64 0, .int .i64 0, .int .i64 0, .int .i64 0, .int .i64 0, .int .i64 0, .int .i64 0, .int .i64 0, .int .i64 0] 51)
      have S2 := St.side2 HW.out S1 (.cells #[.int .i64 0, .int .i64 0, .int .i64 0, .int .i64 0, .int .i64 0, .int .i64 0, .int .i64 0, .int .i64 0] 52)
      rw [World.size_alloc] at S2
      obtain ⟨B, hBe⟩ : ∃ B, wr.heap.size = B := ⟨_, rfl⟩
      rw [hBe] at S2 hs1
      have SS := Lib.hid S2
      clear S1 S2
      rcases (show ¬ j < len ∨ (j < len ∧ ¬ j < 60) by omega) with c | ⟨c, c2⟩
      all_goals
        clear hlt
        go_wp2
        go_loopw [12] (fun i wX => ∃ (v : Nat) (xs ys : Array Value), v ≤ 8 ∧ i = .int .i64 v ∧ Was L q v xs ys ∧ St (FiA Fi (two9 B (.cells xs 51) (B + 1) (.cells ys 52))) w1 wX p L n) (fun i _ => 8 - (intOf i).toNat)
        case atStart => exact ⟨0, _, _, by omega, rfl, ⟨rfl, rfl, fun i hi => absurd hi (by omega), fun i hi => absurd hi (by omega), fun i hi => absurd hi (by omega)⟩, SS.out⟩
        case round =>
          obtain ⟨v, xs, ys, hv, rfl, hWas, hT2⟩ := hrel
          have HWas := Lib.hid hWas
          have HT2 := Lib.hid hT2
          clear hWas hT2
          by_cases hv8 : v < 8
          · have HG : Hid (Calls Try.prog 15 #[.pointer (some ⟨p, 0, none⟩), .int .i64 q, .int .i64 v] wr fun e w' => e = .returned (.tuple #[.agg #[.int .i64 (getX L q v).kind, .int .i64 (getX L q v).thing], .int .i64 (getE L q v)]) ∧ St (FiA Fi (two9 B (.cells xs 51) (B + 1) (.cells ys 52))) w1 w' p L n ∧ Below wr.heap.size wr w') := st_get (works_side HW.out _) HT2.out hlb hnb q v
            have HWn := Lib.hid (HWas.out.next hv8)
            obtain ⟨u0, hu0⟩ : ∃ u, xs[v * 2]? = some u := ⟨_, Array.getElem?_eq_getElem (by have := HWas.out.sx; omega)⟩
            obtain ⟨u1, hu1⟩ : ∃ u, xs[v * 2 + 1]? = some u := ⟨_, Array.getElem?_eq_getElem (by have := HWas.out.sx; omega)⟩
            obtain ⟨u2, hu2⟩ : ∃ u, ys[v]? = some u := ⟨_, Array.getElem?_eq_getElem (by have := HWas.out.sy; omega)⟩
            have HU := Lib.hid (And.intro hu0 (And.intro hu1 hu2))
            clear hu0 hu1 hu2
            generalize (getX L q v).kind = kx at *
            generalize (getX L q v).thing = tx at *
            generalize getE L q v = E at *
            go_wp2_with (go_at_call 15; refine HG.out.mono ?_; rintro e w3 ⟨rfl, h3, -⟩; have H3 := Lib.hid h3; have e0 := h3.boxA.at (v * 2) HU.out.1; have e1 := h3.boxA.at (v * 2 + 1) HU.out.2.1; have e2 := (h3.boxB (by omega)).at v HU.out.2.2; have f0 := h3.boxA.f (v * 2); have f1 := h3.boxA.f (v * 2 + 1); have f2 := (h3.boxB (by omega)).f v; clear h3)
            go_roundw
            case rel => exact ⟨v + 1, _, _, by omega, by go_num, HWn.out, St.setB HW.out (St.setA HW.out (St.setA HW.out H3.out (v * 2) (.int .i64 kx)) (v * 2 + 1) (.int .i64 tx)) (by omega) v (.int .i64 E)⟩
            case measure => simp [intOf]; omega
          · obtain rfl : v = 8 := by omega
            have hX3 := HX1.out.below' HT2.out.bel
            have z0 := hX3.at 0 (v := .int .i64 d) rfl; have z1 := hX3.at 1 (v := .int .i64 P) rfl; have z2 := hX3.at 2 (v := .int .i64 F) rfl; have z3 := hX3.at 3 (v := .int .i64 k) rfl; have z4 := hX3.at 4 (v := .int .i64 t) rfl
            have HD : Hid (Calls Try.prog 22 #[.pointer (some ⟨p, 0, none⟩), .agg #[.int .i64 d, .int .i64 P, .int .i64 F, .int .i64 k, .int .i64 t]] wr fun e w' => e = .returned (.tuple #[]) ∧ St (FiA Fi (two9 B (.cells xs 51) (B + 1) (.cells ys 52))) w1 w' p (actL y P F k t L n) (actN y P k t L n)) := by
              have := done9 (works_side HW.out _) HT2.out hlb hnb d P F k t
              rw [HWY.out] at this
              exact this
            clear hX3
            go_wp2_with (go_at_call 22; refine HD.out.mono ?_; rintro e w4 ⟨rfl, h4⟩; have H4 := Lib.hid h4; clear h4)
            go_loopw [13] (fun i wX => ∃ v : Nat, v ≤ 8 ∧ i = .int .i64 v ∧ St (FiA Fi (two9 B (.cells xs 51) (B + 1) (.cells ys 52))) w1 wX p (actL y P F k t L n) (actN y P k t L n)) (fun i _ => 8 - (intOf i).toNat)
            case atStart => exact ⟨0, by omega, rfl, H4.out⟩
            case round =>
              obtain ⟨v, hv, rfl, hT3⟩ := hrel
              have HT3 := Lib.hid hT3
              clear hT3
              by_cases hv8 : v < 8
              · have HG : Hid (Calls Try.prog 15 #[.pointer (some ⟨p, 0, none⟩), .int .i64 q, .int .i64 v] wr fun e w' => e = .returned (.tuple #[.agg #[.int .i64 (getX L q v).kind, .int .i64 (getX L q v).thing], .int .i64 (getE L q v)]) ∧ St (FiA Fi (two9 B (.cells xs 51) (B + 1) (.cells ys 52))) w1 w' p (actL y P F k t L n) (actN y P k t L n) ∧ Below wr.heap.size wr w') := by
                  have := st_get (works_side HW.out _) HT3.out (by have := hll.out; omega) (by have := hnn.out; omega) q v
                  rw [(HOT.out v).1, (HOT.out v).2] at this
                  exact this
                have HK := Lib.hid (And.intro (HWas.out.kind v hv8) (And.intro (HWas.out.thing v hv8) (HWas.out.err v hv8)))
                generalize (getX L q v).kind = kx at *
                generalize (getX L q v).thing = tx at *
                generalize getE L q v = E at *
                have hneq := neq_same5 kx tx
                clear z0 z1 z2 z3 z4
                go_wp2_with (go_at_call 15; refine HG.out.mono ?_; rintro e w5 ⟨rfl, h5, -⟩; have h6 := St.alloc (works_side HW.out _) h5 (.cells #[.int .i64 kx, .int .i64 tx] 32); have H6 := Lib.hid h6; have e0 := h6.boxA.at (v * 2) HK.out.1; have e1 := h6.boxA.at (v * 2 + 1) HK.out.2.1; have e2 := (h6.boxB (by omega)).at v HK.out.2.2; have bx := BoxA.new w5 32 #[.int .i64 kx, .int .i64 tx]; have c0 := bx.at 0 (v := .int .i64 kx) rfl; have c1 := bx.at 1 (v := .int .i64 tx) rfl; clear h5 h6 bx)
                go_quiet (fail)
                go_wp2
                go_roundw
                case rel => exact ⟨v + 1, by omega, by go_num, St.below (works_side HW.out _) H6.out (below_drewN' (Below.refl _ _))⟩
                case measure => simp [intOf]; omega
              · obtain rfl : v = 8 := by omega
                go_wp2
                go_ret
                exact ⟨rfl, HB.out.trans (HT3.out.bel.mono HB.out.size)⟩
set_option maxRecDepth 100000 in
theorem apart_lifted (os : Os) (started : os.Started) (H : Type) (enc : TypeId × Value → H) :
    ReturnsInHanded {} Try.checked os 5 .any (Rows.filesApartSpec.pre6 enc Try.prog Try.f5 Rows.filesApartRow.domain false) (Rows.filesApartSpec.post enc Try.prog Try.f5 false true false false) := by
  refine returnsInHanded_of_change (C := Try.checked) own started (by kernel_rfl) Try.func5
    (ChangeSpec.witness6 (enc := enc) (C := Try.checked) false ⟨#[], #[.slice none 0 0, .agg #[.int .i64 0, .int .i64 0, .int .i64 0, .int .i64 0, .int .i64 0], .int .i64 0], []⟩ 8 (by kernel_rfl) (by kernel_rfl) (by kernel_rfl) (by kernel_rfl)) ?_
  intro W base args ds gs before hval0 hW _ _
  have hval : ∀ (j : Nat) t v, Try.f5.params[j]? = some t → args[j]? = some v → Value.okWide Try.prog W .any base t v := hval0
  have hW' := hW
  obtain ⟨p, q, hA0, hV, rfl, hfz, hnd⟩ := hW
  have hA : DataW.TrodAll enc Try.prog W 0 (fun _ => true) true Try.f5.params.toList args.toList ds p := hA0
  rw [Try.params5] at hA hval
  obtain ⟨v0, vs0, d0, ds0, p0, q0, hargs, rfl, rfl, h0, r0⟩ := trodAll_cons hA
  obtain ⟨v1, vs1, d1, ds1, p1, q1, rfl, rfl, rfl, h1, r1⟩ := trodAll_cons r0
  obtain ⟨v2, vs2, d2, ds2, p2, q2, rfl, rfl, rfl, h2, r2⟩ := trodAll_cons r1
  obtain ⟨rfl, rfl, rfl⟩ := trodAll_nil r2
  obtain rfl : args = #[v0, v1, v2] := by cases args; simp_all
  obtain ⟨a0, len0, cap0, rfl, hacts0⟩ := open_acts (hval 0 22 v0 rfl rfl) h0
  obtain ⟨e1, P1, F1, k1, t1, rfl⟩ := open_act (hval 1 34 v1 rfl rfl) h1
  obtain ⟨x2, rfl, -, -, wf2⟩ := open_int Try.underlying3 (hval 2 3 v2 rfl rfl) h2
  have hwalk : Calls Try.prog 5 #[.slice a0 len0 cap0, .agg #[.int .i64 e1, .int .i64 P1, .int .i64 F1, .int .i64 k1, .int .i64 t1], .int .i64 x2] W fun e w' => e = .returned (.bool true) ∧ Below W.heap.size W w' := apart_walk a0 len0 cap0 e1 P1 F1 k1 t1 x2 W hacts0
  refine hwalk.mono fun e W' ⟨he, bel⟩ => ⟨_, he, ?_⟩
  exact law_post laidOut (of_decide_eq_true (by kernel_rfl)) rfl Try.underlying4 rfl hW' (fun ds' e => by subst e; rfl) bel

theorem filesApart_holds : Rows.FilesApartSaid :=
  OpenClaim.holds_of_wide 5 Try.f5 rfl rfl rfl rfl rfl rfl rfl ⟨rfl, rfl, rfl, rfl, rfl⟩ rfl rfl rfl rfl rfl (by kernel_rfl) Try.func5 (by kernel_rfl)
    (of_decide_eq_true (by kernel_rfl)) (by unfold Func.isWrapper; rw [if_neg (by decide +kernel)]; exact ⟨rfl, rfl⟩)
    (fun os started H enc _ => apart_lifted os started H enc)

#print axioms filesApart_holds
end Go.Proofs.Ytfgigofmmapbmaa
