/- PtableApart: for every list of acts, pages, frame, flags the law answers true: a page that is mapped, or unmapped, touches no other one. No conditions. -/
import Derived.Test.YtkcoeibbmfkjlaaPtFacts
import Derived.Test.YtkcoeibbmfkjlaaPtActs
namespace Go.Proofs.Ytkcoeibbmfkjlaa
open Go.RowKit Go.ChangeShapes Go.WideShapes Go.ChangeAt

set_option maxRecDepth 100000 in
set_option maxHeartbeats 8000000 in
theorem apart_walk (a : Option Addr) (len cap : Nat) (w : World) (hacts : ActsAt w a len) (page other frame flags : Int) (hf0 : -9223372036854775808 ≤ flags) (hf1 : flags < 9223372036854775808) :
    Calls Try.prog 4 #[.slice a len cap, .int .i64 page, .int .i64 other, .int .i64 frame, .int .i64 flags] w fun e w' => e = .returned (.bool true) ∧ Below w.heap.size w w' := by
  obtain ⟨_hlen, hc⟩ := hacts
  unfold maxLen at _hlen
  have HC := Lib.hid hc; clear hc
  have HF0 := Lib.hid hf0; have HF1 := Lib.hid hf1; clear hf0 hf1
  go_enter Try.func4, Try.ntmps4
  go_wp2_with fail
  refine (shown_any _).mono ?_
  rintro e w1 ⟨rfl, hB1⟩
  have HB1 := Lib.hid hB1; clear hB1
  go_wp2_with fail
  refine (new_ok 60 (by omega) (by omega) _).mono ?_
  rintro e w2 ⟨rfl, hM2, hB2⟩
  have HB2 := Lib.hid (below_step HB1.out hB2); clear hB2
  have hsz : Hid (w.heap.size ≤ w1.heap.size) := HB1.out.size
  go_wp2_with fail
  refine (pnew_any hM2).mono ?_
  rintro e w3 ⟨rfl, hM3, hG3⟩
  generalize w1.heap.size + 1 = p at *
  generalize w1.heap.size = g at *
  have hgb : Hid (∀ (W W' : World), Below w.heap.size w W → W.grownBy W' (some g) → Below w.heap.size w W') := fun W W' h1 h => h1.trans (below_of_grown h h1.size (fun j e => by cases e; exact hsz.out))
  have HB3 := Lib.hid (hgb.out _ _ HB2.out hG3); clear hG3 hM2
  have HM3 := Lib.hid hM3; clear hM3
  go_wp2_with fail
  go_loopw [16] (fun i wr => ∃ (k : Nat) (S : PtS), k ≤ len ∧ i = .int .i64 k ∧ S.ok 60 0 ∧ S.at wr p g 60 ∧ Below w.heap.size w wr) (fun i _ => len - (intOf i).toNat)
  case atStart => exact ⟨0, S0, Nat.zero_le _, rfl, S0_ok (by omega) (by omega), HM3.out, HB3.out⟩
  case round =>
    obtain ⟨k, S, hk, rfl, hok, hM, hB⟩ := hrel
    have HO := Lib.hid hok; have HM := Lib.hid hM
    clear hok hM
    by_cases hgo : k < len ∧ k < 60
    · obtain ⟨hlt, h60⟩ := hgo
      obtain ⟨b, off, rfl, hb, hcs⟩ := HC.out (by omega)
      obtain ⟨d, pg, fr, fl, hA⟩ := hcs k hlt
      obtain ⟨_, c1, c2, c3, x0, x1⟩ := hA.below hB hb
      have HX0 := Lib.hid x0; have HX1 := Lib.hid x1
      have i0 : (0 : Int) ≤ (k : Int) := by omega
      have i1 : (k : Int) < (len : Int) := by omega
      have hbg : Hid (b ≠ g) := by have := hsz.out; unfold Hid; omega
      have HB := Lib.hid hB
      clear hA hB x0 x1 hcs
      go_wp2_with fail
      go_region_held3 (fun w' => w'.cell? ⟨b, off + k * 4 + 1, none⟩ = some (.int .i64 pg) ∧ w'.cell? ⟨b, off + k * 4 + 2, none⟩ = some (.int .i64 fr) ∧ w'.cell? ⟨b, off + k * 4 + 3, none⟩ = some (.int .i64 fl)) (first | exact ⟨c1, c2, c3⟩ | exact ⟨d1, d2, d3⟩ | go_keep)
        ((go_at_call 14; refine (map_rep (MemAt.drew HM.out) HO.out pg fr fl HX0.out HX1.out).mono ?_; rintro e w4 ⟨rfl, hM4, hG4⟩; have d1 := hG4.cell c1 (by intro e; exact hbg.out (Option.some.inj e)); have d2 := hG4.cell c2 (by intro e; exact hbg.out (Option.some.inj e)); have d3 := hG4.cell c3 (by intro e; exact hbg.out (Option.some.inj e)); have HM4 := Lib.hid hM4; have HB4 := Lib.hid (hgb.out _ _ HB.out (drew_grown hG4)); clear hM4 hG4))
      go_wp2
      go_roundw
      case rel => exact ⟨k + 1, _, by omega, by go_num, map_ok HO.out pg fr fl, HM4.out, HB4.out⟩
      case measure => simp [intOf]; omega
    · have hex : (¬ k < len) ∨ (k < len ∧ ¬ k < 60) := by omega
      have HB := Lib.hid hB
      clear hgo hB
      by_cases hpo : page = other
      · subst hpo
        have HSM := Lib.hid (fun h0 => map_same (n := 60) (root := 0) (S := (unmapS 0 S page).2.2) (page := page) (fr := frame) (fl := flags) h0)
        by_cases hz : (mapS 60 0 (unmapS 0 S page).2.2 page frame flags).1 = 0
        · obtain ⟨z1, z2, z3⟩ := HSM.out hz
          have Z0 := Lib.hid hz; have Z1 := Lib.hid z1; have Z2 := Lib.hid z2; have Z3 := Lib.hid z3
          clear hz z1 z2 z3
          rcases hex with h1 | ⟨h1, h2⟩
          all_goals
            go_wp2_with fail
            refine (walk_rep HM.out HO.out page).mono ?_
            rintro e w4 ⟨rfl, hB4⟩
            have HM4 := Lib.hid (S_keep HM.out hB4)
            have HB4 := Lib.hid (below_step HB.out hB4); clear hB4
            generalize wkT S.E page = t1; generalize wkF S.E page = t2; generalize wkE S.E page = t3
            go_wp2_with fail
            refine (unmap_rep HM4.out HO.out page).mono ?_
            rintro e w5 ⟨rfl, hM5, hG5⟩
            have HM5 := Lib.hid hM5
            have HB5 := Lib.hid (hgb.out _ _ HB4.out hG5); clear hM5 hG5
            generalize (unmapS 0 S page).1 = u1; generalize (unmapS 0 S page).2.1 = u2
            go_wp2_with fail
            refine (map_rep HM5.out (unmap_ok HO.out page) page frame flags HF0.out HF1.out).mono ?_
            rintro e w6 ⟨rfl, hM6, hG6⟩
            rw [Z0.out]
            have HM6 := Lib.hid hM6
            have HB6 := Lib.hid (hgb.out _ _ HB5.out hG6); clear hM6 hG6
            go_wp2_with fail
            refine (walk_rep HM6.out (map_ok (unmap_ok HO.out page) page frame flags) page).mono ?_
            rintro e w7 ⟨rfl, hB7⟩
            rw [Z1.out, Z2.out, Z3.out]
            have HB7 := Lib.hid (below_step HB6.out hB7); clear hB7
            go_wp2
            go_ret
            exact ⟨rfl, HB7.out⟩
        · have hz1 : ((mapS 60 0 (unmapS 0 S page).2.2 page frame flags).1 != 0) = true := by simpa using hz
          clear hz
          rcases hex with h1 | ⟨h1, h2⟩
          all_goals
            go_wp2_with fail
            refine (walk_rep HM.out HO.out page).mono ?_
            rintro e w4 ⟨rfl, hB4⟩
            have HM4 := Lib.hid (S_keep HM.out hB4)
            have HB4 := Lib.hid (below_step HB.out hB4); clear hB4
            generalize wkT S.E page = t1; generalize wkF S.E page = t2; generalize wkE S.E page = t3
            go_wp2_with fail
            refine (unmap_rep HM4.out HO.out page).mono ?_
            rintro e w5 ⟨rfl, hM5, hG5⟩
            have HM5 := Lib.hid hM5
            have HB5 := Lib.hid (hgb.out _ _ HB4.out hG5); clear hM5 hG5
            generalize (unmapS 0 S page).1 = u1; generalize (unmapS 0 S page).2.1 = u2
            go_wp2_with fail
            refine (map_rep HM5.out (unmap_ok HO.out page) page frame flags HF0.out HF1.out).mono ?_
            rintro e w6 ⟨rfl, hM6, hG6⟩
            have HM6 := Lib.hid hM6
            have HB6 := Lib.hid (hgb.out _ _ HB5.out hG6); clear hM6 hG6
            go_wp2_with fail
            refine (walk_rep HM6.out (map_ok (unmap_ok HO.out page) page frame flags) page).mono ?_
            rintro e w7 ⟨rfl, hB7⟩
            have HB7 := Lib.hid (below_step HB6.out hB7); clear hB7
            go_wp2
            go_ret
            exact ⟨rfl, HB7.out⟩
      · have hpo1 : (page == other) = false := by simpa using hpo
        have m1 := map_other 60 0 (unmapS 0 S page).2.2 page frame flags other hpo
        have m2 := unmap_other 0 S page other hpo
        rw [m2.1, m2.2.1, m2.2.2] at m1
        have M1 := Lib.hid m1.1; have M2 := Lib.hid m1.2.1; have M3 := Lib.hid m1.2.2
        clear m1 m2 hpo
        rcases hex with h1 | ⟨h1, h2⟩
        all_goals
          go_wp2_with fail
          refine (walk_rep HM.out HO.out other).mono ?_
          rintro e w4 ⟨rfl, hB4⟩
          have HM4 := Lib.hid (S_keep HM.out hB4)
          have HB4 := Lib.hid (below_step HB.out hB4); clear hB4
          go_wp2_with fail
          refine (unmap_rep HM4.out HO.out page).mono ?_
          rintro e w5 ⟨rfl, hM5, hG5⟩
          have HM5 := Lib.hid hM5
          have HB5 := Lib.hid (hgb.out _ _ HB4.out hG5); clear hM5 hG5
          go_wp2_with fail
          refine (map_rep HM5.out (unmap_ok HO.out page) page frame flags HF0.out HF1.out).mono ?_
          rintro e w6 ⟨rfl, hM6, hG6⟩
          have HM6 := Lib.hid hM6
          have HB6 := Lib.hid (hgb.out _ _ HB5.out hG6); clear hM6 hG6
          go_wp2_with fail
          refine (walk_rep HM6.out (map_ok (unmap_ok HO.out page) page frame flags) other).mono ?_
          rintro e w7 ⟨rfl, hB7⟩
          rw [M1.out, M2.out, M3.out]
          have HB7 := Lib.hid (below_step HB6.out hB7); clear hB7
          generalize wkT S.E other = t1; generalize wkF S.E other = t2; generalize wkE S.E other = t3
          go_wp2
          go_ret
          exact ⟨rfl, HB7.out⟩

set_option maxRecDepth 100000 in
theorem apart_lifted (os : Os) (started : os.Started) (H : Type) (enc : TypeId × Value → H) :
    ReturnsInHanded {} Try.checked os 4 .any (Rows.ptableApartSpec.pre6 enc Try.prog Try.f4 Rows.ptableApartRow.domain false) (Rows.ptableApartSpec.post enc Try.prog Try.f4 false true false false) := by
  refine returnsInHanded_of_change (C := Try.checked) own started (by kernel_rfl) Try.func4
    (ChangeSpec.witness6 (enc := enc) (C := Try.checked) false ⟨#[], #[.slice none 0 0, .int .i64 0, .int .i64 0, .int .i64 0, .int .i64 0], []⟩ 8 (by kernel_rfl) (by kernel_rfl) (by kernel_rfl) (by kernel_rfl)) ?_
  intro W base args ds gs before hval0 hW _ _
  have hval : ∀ (j : Nat) t v, Try.f4.params[j]? = some t → args[j]? = some v → Value.okWide Try.prog W .any base t v := hval0
  have hW' := hW
  obtain ⟨p, q, hA0, hV, rfl, hfz, hnd⟩ := hW
  have hA : DataW.TrodAll enc Try.prog W 0 (fun _ => true) true Try.f4.params.toList args.toList ds p := hA0
  rw [Try.params4] at hA hval
  obtain ⟨v0, vs0, d0, ds0, p0, q0, hargs, rfl, rfl, h0, r0⟩ := trodAll_cons hA
  obtain ⟨v1, vs1, d1, ds1, p1, q1, rfl, rfl, rfl, h1, r1⟩ := trodAll_cons r0
  obtain ⟨v2, vs2, d2, ds2, p2, q2, rfl, rfl, rfl, h2, r2⟩ := trodAll_cons r1
  obtain ⟨v3, vs3, d3, ds3, p3, q3, rfl, rfl, rfl, h3, r3⟩ := trodAll_cons r2
  obtain ⟨v4, vs4, d4, ds4, p4, q4, rfl, rfl, rfl, h4, r4⟩ := trodAll_cons r3
  obtain ⟨rfl, rfl, rfl⟩ := trodAll_nil r4
  obtain rfl : args = #[v0, v1, v2, v3, v4] := by cases args; simp_all
  obtain ⟨a, len, cap, rfl, hacts⟩ := open_acts (hval 0 22 v0 rfl rfl) h0
  obtain ⟨x1, rfl, -, -, _⟩ := open_int Try.underlying3 (hval 1 3 v1 rfl rfl) h1
  obtain ⟨x2, rfl, -, -, _⟩ := open_int Try.underlying3 (hval 2 3 v2 rfl rfl) h2
  obtain ⟨x3, rfl, -, -, _⟩ := open_int Try.underlying3 (hval 3 3 v3 rfl rfl) h3
  obtain ⟨x4, rfl, wf4⟩ := open_int Try.underlying3 (hval 4 3 v4 rfl rfl) h4
  have hwalk : Calls Try.prog 4 #[.slice a len cap, .int .i64 x1, .int .i64 x2, .int .i64 x3, .int .i64 x4] W fun e w' => e = .returned (.bool true) ∧ Below W.heap.size W w' :=
    apart_walk a len cap W hacts x1 x2 x3 x4 (wf_i64 wf4.2.2).1 (wf_i64 wf4.2.2).2
  refine hwalk.mono fun e W' ⟨he, bel⟩ => ⟨_, he, ?_⟩
  exact law_post laidOut (of_decide_eq_true (by kernel_rfl)) rfl Try.underlying4 rfl hW' (fun ds' e => by subst e; rfl) bel

theorem ptableApart_holds : Rows.PtableApartSaid :=
  OpenClaim.holds_of_wide 4 Try.f4 rfl rfl rfl rfl rfl rfl rfl ⟨rfl, rfl, rfl, rfl, rfl⟩ rfl rfl rfl rfl rfl (by kernel_rfl) Try.func4 (by kernel_rfl)
    (of_decide_eq_true (by kernel_rfl)) (by unfold Func.isWrapper; rw [if_neg (by decide +kernel)]; exact ⟨rfl, rfl⟩)
    (fun os started H enc _ => apart_lifted os started H enc)

#print axioms ptableApart_holds
end Go.Proofs.Ytkcoeibbmfkjlaa
