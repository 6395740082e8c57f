/- FilesDo: for every list of acts the law answers true: what acts tell, and all descriptors of six behind each of them, are the document's. No conditions. -/
import Derived.Test.YtfgigofmmapbmaaFiDid
import Derived.Test.YtfgigofmmapbmaaFiAll
import Derived.Test.YtfgigofmmapbmaaFiActs
namespace Go.Proofs.Ytfgigofmmapbmaa
open Go.RowKit Go.ChangeShapes Go.WideShapes Go.ChangeAt

theorem bo_start {w0 w : World} {p : Nat} (h : St Fi w0 w p [] 0) : Bo Fi w0 (w.alloc (.cells #[.slice none 0 0, .int .i64 0] 29)) p w.heap.size (w.heap.size + 1) [] 0 [] 0 := by
  obtain ⟨S, h1, h2, h3⟩ := h
  have hl := works9.lt h1
  refine ⟨.slice none 0 0, S, works9.keep h1 (by simp) (fun k hk => Below.heap_alloc w _ k (hl k hk)), fun k hk => ⟨h2 k hk, by have := hl k hk; omega, fun e => by cases e⟩, ⟨BoxA.new w _ _, FsAt.nil _ _, h3.size⟩, h3.alloc h3.size _, by omega, fun k e => by cases e⟩
set_option maxRecDepth 100000 in
theorem neq_same6 (k t : Int) (w : World) : (binOp .neq 32 (.agg #[.int .i64 k, .int .i64 t]) (.agg #[.int .i64 k, .int .i64 t])).run Try.prog w = .ok (.bool false) w := by simp [go_sem]

set_option maxRecDepth 100000 in
set_option maxHeartbeats 8000000 in
theorem do_walk (a : Option Addr) (len cap : Nat) (w : World) (hA : ActsAt w a len) :
    Calls Try.prog 3 #[.slice a len cap] w fun e w' => e = .returned (.bool true) ∧ Below w.heap.size w w' := by
  have HA := Lib.hid hA.2
  have hlen := hA.1
  have HS := Lib.hid (shown9 works9 fi_new9 w)
  have HW := Lib.hid works9
  unfold maxLen at hlen
  clear hA
  go_enter Try.func3, Try.ntmps3
  go_wp2_with (first
    | (go_at_call 10; refine HS.out.mono ?_; rintro e w1 ⟨rfl, hB⟩; have HB := Lib.hid hB; clear hB)
    | (go_at_call 11; refine (st_new fi_new9 HB.out).mono ?_; rintro e w2 ⟨p, rfl, h2⟩; have H2 := Lib.hid (bo_start h2); clear h2))
  generalize w2.heap.size = q at *
  go_loopw [6] (fun i wr => ∃ j : Nat, j ≤ len ∧ j ≤ 100 ∧ i = .int .i64 j ∧ ∃ L n t, Bo Fi w wr p q t L n L n ∧ L.length ≤ 8 * j ∧ n ≤ j) (fun i _ => len - (intOf i).toNat)
  case atStart => exact ⟨0, by omega, by omega, rfl, [], 0, _, H2.out, by simp, by omega⟩
  case round =>
    obtain ⟨j, hj, hj100, rfl, L, n, t0, hT, hL, hn⟩ := hrel
    have HT := Lib.hid hT
    clear hT
    by_cases hlt : j < len ∧ j < 100
    · obtain ⟨hl1, hl2⟩ := hlt
      obtain ⟨b, off, rfl, hb, hc⟩ := HA.out (by omega)
      obtain ⟨d, Q, F, k, t, hx⟩ := hc j hl1
      have hx' := hx.below HT.out.bel hb
      have y0 := hx'.c0; have y1 := hx'.c1; have y2 := hx'.c2; have y3 := hx'.c3; have y4 := hx'.c4
      have HD := Lib.hid (did9 HW.out HT.out (by omega) (by omega) d Q F k t)
      have hl2' := act_len (y := whichY d) (p := Q) (d := F) (k := k) (t := t) (HT.out.wf HW.out)
      have hn2' := act_n (L := L) (n := n) (y := whichY d) (p := Q) (k := k) (t := t)
      generalize actL (whichY d) Q F k t L n = L' at *
      generalize actN (whichY d) Q k t L n = n' at *
      have HCF : Hid (∀ w3 t3, Bo Fi w w3 p q t3 L' n' L' n' → Calls Try.prog 13 #[.pointer (some ⟨p, 0, none⟩)] w3 fun e w' => e = .returned (.int .i64 (cntN L' n')) ∧ Bo Fi w w' p q t3 L' n' L' n') := fun w3 t3 h3 => bof_count HW.out h3 (by omega) (by omega)
      have HCR : Hid (∀ w3 t3, Bo Fi w w3 p q t3 L' n' L' n' → Calls Try.prog 14 #[.pointer (some ⟨q, 0, none⟩)] w3 fun e w' => e = .returned (.int .i64 (cntN L' n')) ∧ w3 = w') := fun w3 t3 h3 => bor_count h3 (by omega) (by omega)
      clear hx hx' hc
      generalize cntN L' n' = cn at *
      go_wp2_with (first
        | (go_at_call 12; refine HD.out.mono ?_; rintro e w3 ⟨rfl, t3, h3⟩; have H3 := Lib.hid h3; clear h3)
        | (go_at_call 13; refine (HCF.out _ _ H3.out).mono ?_; rintro e w4 ⟨rfl, h4⟩; have H4 := Lib.hid h4; clear h4)
        | (go_at_call 14; refine (HCR.out _ _ H4.out).mono ?_; rintro e w5 ⟨rfl, rfl⟩))

      go_loopw [8] (fun i wX => ∃ v : Nat, v ≤ 6 ∧ i = .int .i64 ((v : Int) + 1) ∧ ∃ t, Bo Fi w wX p q t L' n' L' n') (fun i _ => 7 - (intOf i).toNat)
      case atStart => exact ⟨0, by omega, rfl, _, H4.out⟩
      case round =>
        obtain ⟨v, hv, rfl, t5, hT5⟩ := hrel
        have HT5 := Lib.hid hT5
        clear hT5
        by_cases hv6 : v < 6
        · go_wp2
          rw [show decide ((v : Int) + 1 ≤ 6) = true by simp; omega]
          go_loopw [9] (fun i wX => ∃ u : Nat, u ≤ 10 ∧ i = .int .i64 ((u : Int) - 1) ∧ ∃ t, Bo Fi w wX p q t L' n' L' n') (fun i _ => 10 - (intOf i + 1).toNat)
          case atStart => exact ⟨0, by omega, rfl, _, HT5.out⟩
          case round =>
            obtain ⟨u, hu, rfl, t6, hT6⟩ := hrel
            have HT6 := Lib.hid hT6
            clear hT6
            by_cases hu10 : u < 10
            · have HGF := Lib.hid (bof_get HW.out HT6.out (by omega) (by omega) ((v : Int) + 1) ((u : Int) - 1))
              have HGR : Hid (∀ w7 C t7, Bo (FiA Fi C) w w7 p q t7 L' n' L' n' → Calls Try.prog 16 #[.pointer (some ⟨q, 0, none⟩), .int .i64 ((v : Int) + 1), .int .i64 ((u : Int) - 1)] w7 fun e w' => e = .returned (.tuple #[.agg #[.int .i64 (getX L' ((v : Int) + 1) ((u : Int) - 1)).kind, .int .i64 (getX L' ((v : Int) + 1) ((u : Int) - 1)).thing], .int .i64 (getE L' ((v : Int) + 1) ((u : Int) - 1))]) ∧ Bo (FiA Fi C) w w' p q t7 L' n' L' n') := fun w7 C t7 h7 => bor_get (works_side HW.out C) h7 (by omega) _ _
              generalize (getX L' ((v : Int) + 1) ((u : Int) - 1)).kind = K9 at *
              generalize (getX L' ((v : Int) + 1) ((u : Int) - 1)).thing = T9 at *
              generalize getE L' ((v : Int) + 1) ((u : Int) - 1) = E9 at *
              have hneq := neq_same6 K9 T9
              go_wp2_with (first
                | (go_at_call 15; refine HGF.out.mono ?_; rintro e w7 ⟨rfl, h7⟩; have H7 := Lib.hid (h7.side HW.out (.cells #[.int .i64 K9, .int .i64 T9] 32)); clear h7)
                | (go_at_call 16; refine (HGR.out _ _ _ H7.out).mono ?_; rintro e w8 ⟨rfl, h8⟩; have h9 := h8.alloc (works_side HW.out _) (.cells #[.int .i64 K9, .int .i64 T9] 32); have z0 := h9.box.at 0 (v := .int .i64 K9) rfl; have z1 := h9.box.at 1 (v := .int .i64 T9) rfl; have H9 := Lib.hid h9; clear h8 h9))
              go_roundw
              case rel => exact ⟨u + 1, by omega, by go_num, _, H9.out.un⟩
              case measure => simp [intOf]; omega
            · obtain rfl : u = 10 := by omega
              go_wp2
              go_roundw
              case rel => exact ⟨v + 1, by omega, by go_num, _, HT6.out⟩
              case measure => simp [intOf]; omega
        · obtain rfl : v = 6 := by omega
          go_wp2
          go_roundw
          case rel => exact ⟨j + 1, by omega, by omega, by go_num, L', n', _, HT5.out, by omega, by omega⟩
          case measure => simp [intOf]; omega
    · have HBW := Lib.hid HT.out.bel
      rcases (show ¬ j < len ∨ (j < len ∧ ¬ j < 100) by omega) with c | ⟨c, c2⟩
      all_goals
        clear hlt
        go_wp2
        go_ret
        exact ⟨rfl, HBW.out⟩
set_option maxRecDepth 100000 in
theorem do_lifted (os : Os) (started : os.Started) (H : Type) (enc : TypeId × Value → H) :
    ReturnsInHanded {} Try.checked os 3 .any (Rows.filesDoSpec.pre6 enc Try.prog Try.f3 Rows.filesDoRow.domain false) (Rows.filesDoSpec.post enc Try.prog Try.f3 false true false false) := by
  refine returnsInHanded_of_change (C := Try.checked) own started (by kernel_rfl) Try.func3
    (ChangeSpec.witness6 (enc := enc) (C := Try.checked) false ⟨#[], #[.slice none 0 0], []⟩ 8 (by kernel_rfl) (by kernel_rfl) (by kernel_rfl) (by kernel_rfl)) ?_
  intro W base args ds gs before hval0 hW _ _
  have hval : ∀ (j : Nat) t v, Try.f3.params[j]? = some t → args[j]? = some v → Value.okWide Try.prog W .any base t v := hval0
  have hW' := hW
  obtain ⟨p, q, hA0, hV, rfl, hfz, hnd⟩ := hW
  have hA : DataW.TrodAll enc Try.prog W 0 (fun _ => true) true Try.f3.params.toList args.toList ds p := hA0
  rw [Try.params3] at hA hval
  obtain ⟨v0, vs0, d0, ds0, p0, q0, hargs, rfl, rfl, h0, r0⟩ := trodAll_cons hA
  obtain ⟨rfl, rfl, rfl⟩ := trodAll_nil r0
  obtain rfl : args = #[v0] := by cases args; simp_all
  obtain ⟨a0, len0, cap0, rfl, hacts0⟩ := open_acts (hval 0 22 v0 rfl rfl) h0
  have hwalk : Calls Try.prog 3 #[.slice a0 len0 cap0] W fun e w' => e = .returned (.bool true) ∧ Below W.heap.size W w' := do_walk a0 len0 cap0 W hacts0
  refine hwalk.mono fun e W' ⟨he, bel⟩ => ⟨_, he, ?_⟩
  exact law_post laidOut (of_decide_eq_true (by kernel_rfl)) rfl Try.underlying4 rfl hW' (fun ds' e => by subst e; rfl) bel

theorem filesDo_holds : Rows.FilesDoSaid :=
  OpenClaim.holds_of_wide 3 Try.f3 rfl rfl rfl rfl rfl rfl rfl ⟨rfl, rfl, rfl, rfl, rfl⟩ rfl rfl rfl rfl rfl (by kernel_rfl) Try.func3 (by kernel_rfl)
    (of_decide_eq_true (by kernel_rfl)) (by unfold Func.isWrapper; rw [if_neg (by decide +kernel)]; exact ⟨rfl, rfl⟩)
    (fun os started H enc _ => do_lifted os started H enc)

#print axioms filesDo_holds
end Go.Proofs.Ytfgigofmmapbmaa
