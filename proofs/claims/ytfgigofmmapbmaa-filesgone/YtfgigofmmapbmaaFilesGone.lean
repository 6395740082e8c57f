/- FilesGone: for every list of acts the law answers true: when all have dropped all, no open file is left, and as many were told to be gone as there were. No conditions. -/
import Derived.Test.YtfgigofmmapbmaaFiDone
import Derived.Test.YtfgigofmmapbmaaFiAll
import Derived.Test.YtfgigofmmapbmaaFiActs
import Derived.Test.YtfgigofmmapbmaaFiLaws
namespace Go.Proofs.Ytfgigofmmapbmaa
open Go.RowKit Go.ChangeShapes Go.WideShapes Go.ChangeAt

theorem mod40 (d : Int) : ∃ y : Nat, y < 40 ∧ (IntKind.u64.wrap d).tmod 40 = (y : Int) := by
  have h0 := wrap_u64_nonneg d
  generalize IntKind.u64.wrap d = y at *
  have h1 : 0 ≤ y.tmod 40 := Int.tmod_nonneg _ h0
  have h2 : y.tmod 40 < 40 := Int.tmod_lt_of_pos _ (by omega)
  exact ⟨(y.tmod 40).toNat, by omega, by omega⟩

theorem gone_all {L : List FV} {n : Nat} (hw : WF L n) (hp : ∀ x ∈ L, x.pid ≤ 40) (M : Nat) (hM : M = 40) : allL L M = [] ∧ allN L M = cntN L n := by
  have hnil : allL L M = [] := all_nil hw (fun x hx => by have := hp x hx; omega)
  have hall := all_cnt hw M
  rw [hnil, cntN_nil] at hall
  exact ⟨hnil, by omega⟩

set_option maxRecDepth 100000 in
set_option maxHeartbeats 8000000 in
theorem gone_walk (a : Option Addr) (len cap : Nat) (w : World) (hA : ActsAt w a len) :
    Calls Try.prog 6 #[.slice a len cap] w fun e w' => e = .returned (.bool true) ∧ Below w.heap.size w w' := by
  have HA := Lib.hid hA.2
  have hlen := hA.1
  have HS := Lib.hid (shown9 works9 fi_new9 w)
  have HW := Lib.hid works9
  unfold maxLen at hlen
  clear hA
  go_enter Try.func6, Try.ntmps6
  go_wp2_with (first
    | (go_at_call 10; refine HS.out.mono ?_; rintro e w1 ⟨rfl, hB⟩; have HB := Lib.hid hB; clear hB)
    | (go_at_call 11; refine (st_new fi_new9 HB.out).mono ?_; rintro e w2 ⟨p, rfl, h2⟩; have H2 := Lib.hid h2; clear h2))
  go_loopw [5] (fun i wr => ∃ j : Nat, j ≤ len ∧ j ≤ 80 ∧ i = .int .i64 j ∧ ∃ L n, St Fi w wr p L n ∧ L.length ≤ 8 * j ∧ n ≤ j ∧ ∀ x ∈ L, x.pid ≤ 40) (fun i _ => len - (intOf i).toNat)
  case atStart => exact ⟨0, by omega, by omega, rfl, [], 0, H2.out, by simp, by omega, fun x hx => by cases hx⟩
  case round =>
    obtain ⟨j, hj, hj80, rfl, L, n, hT, hL, hn, hp⟩ := hrel
    have HT := Lib.hid hT
    have HP := Lib.hid hp
    clear hT hp
    by_cases hlt : j < len ∧ j < 80
    · obtain ⟨hl1, hl2⟩ := hlt
      obtain ⟨b, off, rfl, hb, hc⟩ := HA.out (by omega)
      obtain ⟨d, Q, F, k, t, hx⟩ := hc j hl1
      have hx' := hx.below HT.out.bel hb
      have y0 := hx'.c0; have y1 := hx'.c1; have y2 := hx'.c2; have y3 := hx'.c3; have y4 := hx'.c4
      have HL2 : Hid (∀ P' F', (actL (whichY d) P' F' k t L n).length ≤ L.length + 8) := fun P' F' => act_len (y := whichY d) (p := P') (d := F') (k := k) (t := t) (HT.out.wf HW.out)
      have HN2 : Hid (∀ P', actN (whichY d) P' k t L n ≤ n + 1) := fun P' => act_n (L := L) (n := n) (y := whichY d) (p := P') (k := k) (t := t)
      have HD : Hid (∀ (o : Obj) (P' F' : Int), Calls Try.prog 22 #[.pointer (some ⟨p, 0, none⟩), .agg #[.int .i64 d, .int .i64 P', .int .i64 F', .int .i64 k, .int .i64 t]] (wr.alloc o) fun e w' => e = .returned (.tuple #[]) ∧ St Fi w w' p (actL (whichY d) P' F' k t L n) (actN (whichY d) P' k t L n)) := fun o P' F' => done9 HW.out (St.alloc HW.out HT.out o) (by omega) (by omega) d P' F' k t
      obtain ⟨y, hy, hd⟩ := mod8 d
      obtain ⟨q, hq, hdq⟩ := mod40 Q
      obtain ⟨r, hr, hdr⟩ := mod40 F
      have hwy : Hid (whichY d = y) := by unfold Hid whichY; rw [hd]; rfl
      clear hx hx' hc
      by_cases h6 : y = 6
      · subst h6
        go_wp2_with (go_at_call 22; refine (HD.out _ _ _).mono ?_; rintro e w3 ⟨rfl, h3⟩; have H3 := Lib.hid h3; clear h3)
        go_roundw
        case rel => exact ⟨j + 1, by omega, by omega, by go_num, _, _, H3.out, by have := HL2.out (1 + (q : Int)) (1 + (r : Int)); omega, by have := HN2.out (1 + (q : Int)); omega, act_pids HP.out (by omega) (fun _ => by omega)⟩
        case measure => simp [intOf]; omega
      · have hy6 : ((y : Int) == 6) = false := by rw [beq_eq_false_iff_ne]; omega
        go_wp2_with (go_at_call 22; refine (HD.out _ _ _).mono ?_; rintro e w3 ⟨rfl, h3⟩; have H3 := Lib.hid h3; clear h3)
        go_roundw
        case rel => exact ⟨j + 1, by omega, by omega, by go_num, _, _, H3.out, by have := HL2.out (1 + (q : Int)) F; omega, by have := HN2.out (1 + (q : Int)); omega, act_pids HP.out (by omega) (fun e => absurd (hwy.out.symm.trans e) h6)⟩
        case measure => simp [intOf]; omega
    · have hwf := HT.out.wf HW.out
      have hlb : L.length ≤ 80000 := by omega
      have hnb : n ≤ 80000 := by omega
      have HCn := Lib.hid (st_count HW.out HT.out hlb hnb)
      have hcb : cntN L n ≤ 32 := hwf.cnt
      obtain ⟨M, hM⟩ : ∃ M : Nat, M = 40 := ⟨_, rfl⟩
      obtain ⟨hnil, hall⟩ := gone_all hwf HP.out M hM
      have HM := Lib.hid hM
      have HNIL := Lib.hid hnil
      have HALL := Lib.hid hall
      obtain ⟨cn, hcn⟩ : ∃ cn : Nat, cntN L n = cn := ⟨_, rfl⟩
      rw [hcn] at HCn HALL hcb
      clear hcn hall hnil hwf hM
      rcases (show ¬ j < len ∨ (j < len ∧ ¬ j < 80) by omega) with c | ⟨c, c2⟩
      all_goals
        clear hlt
        go_wp2_with (go_at_call 13; refine HCn.out.mono ?_; rintro e w3 ⟨rfl, h3⟩; have H3 := Lib.hid h3; clear h3)
        go_loopw [8, 9] (fun g i wr2 => ∃ v : Nat, v ≤ 40 ∧ i = .int .i64 ((v : Int) + 1) ∧ g = .int .i64 (allN L v : Nat) ∧ St Fi w wr2 p (allL L v) n) (fun _ i _ => 41 - (intOf i).toNat)
        case atStart => exact ⟨0, by omega, rfl, rfl, H3.out⟩
        case round =>
          obtain ⟨v, hv, rfl, rfl, hT2⟩ := hrel
          have hal : (allL L v).length ≤ 80000 := Nat.le_trans (all_len L v) hlb
          have HT2 := Lib.hid hT2
          clear hT2
          by_cases hv40 : v < 40
          · have HDr := Lib.hid (st_drop HW.out HT2.out hal hnb ((v : Int) + 1))
            have HA1 : Hid (allL L (v + 1) = drL (allL L v) ((v : Int) + 1) 8) := rfl
            have HA2 : Hid (allN L (v + 1) = allN L v + (drO (allL L v) ((v : Int) + 1) 8).length) := rfl
            have hl8 := drO_len (allL L v) ((v : Int) + 1) 8
            have hg := allN_le L v
            generalize hdr : drO (allL L v) ((v : Int) + 1) 8 = O at *
            clear hdr
            generalize allN L v = g at *
            go_wp2_with (go_at_call 21; refine HDr.out.mono ?_; rintro e w4 ⟨u, rfl, ⟨a4, cap4, rfl, hu⟩, h4⟩; have H4 := Lib.hid h4; clear h4 hu)
            go_roundw
            case rel => exact ⟨v + 1, by omega, by go_num, by rw [HA2.out]; go_num, by rw [HA1.out]; exact H4.out⟩
            case measure => simp [intOf]; omega
          · have hvM : v = M := by have := HM.out; omega
            rw [hvM, HNIL.out] at HT2
            have e1 : allN L v = cn := by rw [hvM]; exact HALL.out
            rw [e1]
            have hv4 : v = 40 := by omega
            clear hvM hal e1
            subst hv4
            have HCn2 := Lib.hid (st_count HW.out HT2.out (by decide) hnb)
            rw [cntN_nil] at HCn2
            go_wp2_with (go_at_call 13; refine HCn2.out.mono ?_; rintro e w6 ⟨rfl, h6⟩; have H6 := Lib.hid h6; clear h6)
            go_ret
            exact ⟨rfl, H6.out.bel⟩
set_option maxRecDepth 100000 in
theorem gone_lifted (os : Os) (started : os.Started) (H : Type) (enc : TypeId × Value → H) :
    ReturnsInHanded {} Try.checked os 6 .any (Rows.filesGoneSpec.pre6 enc Try.prog Try.f6 Rows.filesGoneRow.domain false) (Rows.filesGoneSpec.post enc Try.prog Try.f6 false true false false) := by
  refine returnsInHanded_of_change (C := Try.checked) own started (by kernel_rfl) Try.func6
    (ChangeSpec.witness6 (enc := enc) (C := Try.checked) false ⟨#[], #[.slice none 0 0], []⟩ 8 (by kernel_rfl) (by kernel_rfl) (by kernel_rfl) (by kernel_rfl)) ?_
  intro W base args ds gs before hval0 hW _ _
  have hval : ∀ (j : Nat) t v, Try.f6.params[j]? = some t → args[j]? = some v → Value.okWide Try.prog W .any base t v := hval0
  have hW' := hW
  obtain ⟨p, q, hA0, hV, rfl, hfz, hnd⟩ := hW
  have hA : DataW.TrodAll enc Try.prog W 0 (fun _ => true) true Try.f6.params.toList args.toList ds p := hA0
  rw [Try.params6] at hA hval
  obtain ⟨v0, vs0, d0, ds0, p0, q0, hargs, rfl, rfl, h0, r0⟩ := trodAll_cons hA
  obtain ⟨rfl, rfl, rfl⟩ := trodAll_nil r0
  obtain rfl : args = #[v0] := by cases args; simp_all
  obtain ⟨a0, len0, cap0, rfl, hacts0⟩ := open_acts (hval 0 22 v0 rfl rfl) h0
  have hwalk : Calls Try.prog 6 #[.slice a0 len0 cap0] W fun e w' => e = .returned (.bool true) ∧ Below W.heap.size W w' := gone_walk a0 len0 cap0 W hacts0
  refine hwalk.mono fun e W' ⟨he, bel⟩ => ⟨_, he, ?_⟩
  exact law_post laidOut (of_decide_eq_true (by kernel_rfl)) rfl Try.underlying4 rfl hW' (fun ds' e => by subst e; rfl) bel

theorem filesGone_holds : Rows.FilesGoneSaid :=
  OpenClaim.holds_of_wide 6 Try.f6 rfl rfl rfl rfl rfl rfl rfl ⟨rfl, rfl, rfl, rfl, rfl⟩ rfl rfl rfl rfl rfl (by kernel_rfl) Try.func6 (by kernel_rfl)
    (of_decide_eq_true (by kernel_rfl)) (by unfold Func.isWrapper; rw [if_neg (by decide +kernel)]; exact ⟨rfl, rfl⟩)
    (fun os started H enc _ => gone_lifted os started H enc)

#print axioms filesGone_holds
end Go.Proofs.Ytfgigofmmapbmaa
