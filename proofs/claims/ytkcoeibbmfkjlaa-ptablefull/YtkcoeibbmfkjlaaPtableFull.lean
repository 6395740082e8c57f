/- PtableFull: for every list of acts and number of frames the law answers true: what can't be mapped for want of frames changes nothing. No conditions. -/
import Derived.Test.YtkcoeibbmfkjlaaPtLists
import Derived.Test.YtkcoeibbmfkjlaaPtActs
namespace Go.Proofs.Ytkcoeibbmfkjlaa
open Go.RowKit Go.ChangeShapes Go.WideShapes Go.ChangeAt

set_option maxRecDepth 100000 in
set_option maxHeartbeats 8000000 in
theorem full_walk (a : Option Addr) (len cap : Nat) (w : World) (hacts : ActsAt w a len) (n : Nat) (hn1 : 1 ≤ n) (hn8 : n ≤ 8) :
    Calls Try.prog 6 #[.slice a len cap, .int .i64 n] w fun e w' => e = .returned (.bool true) ∧ Below w.heap.size w w' := by
  obtain ⟨_hlen, hc⟩ := hacts
  unfold maxLen at _hlen
  have HC := Lib.hid hc; clear hc
  have d8 : decide (8 < (n : Int)) = false := by simp; omega
  go_enter Try.func6, Try.ntmps6
  go_wp2_with fail
  refine (shown_any _).mono ?_
  rintro e w1 ⟨rfl, hB1⟩
  have HB1 := Lib.hid hB1; clear hB1
  go_wp2_with fail
  refine (new_ok n (by omega) (by omega) _).mono ?_
  rintro e w2 ⟨rfl, hM2, hB2⟩
  have HB2 := Lib.hid (below_step HB1.out hB2); clear hB2
  have hsz : Hid (w.heap.size ≤ w1.heap.size) := HB1.out.size
  go_wp2_with fail
  refine (pnew_any hM2).mono ?_
  rintro e w3 ⟨rfl, hM3, hG3⟩
  generalize w1.heap.size + 1 = p at *
  generalize w1.heap.size = g at *
  have hgb : Hid (∀ (W W' : World), Below w.heap.size w W → W.grownBy W' (some g) → Below w.heap.size w W') := fun W W' h1 h => h1.trans (below_of_grown h h1.size (fun j e => by cases e; exact hsz.out))
  have HB3 := Lib.hid (hgb.out _ _ HB2.out hG3); clear hG3 hM2
  have HM3 := Lib.hid hM3; clear hM3
  go_wp2_with fail
  go_loopw [10] (fun i wr => ∃ (k : Nat) (S : PtS), k ≤ len ∧ i = .int .i64 k ∧ S.ok n 0 ∧ S.at wr p g n ∧ Below w.heap.size w wr) (fun i _ => len - (intOf i).toNat)
  case atStart => exact ⟨0, S0, Nat.zero_le _, rfl, S0_ok (by omega) (by omega), HM3.out, HB3.out⟩
  case round =>
    obtain ⟨k, S, hk, rfl, hok, hM, hB⟩ := hrel
    have HO := Lib.hid hok; have HM := Lib.hid hM
    clear hok hM
    by_cases hgo : k < len ∧ k < 60
    · obtain ⟨hlt, h60⟩ := hgo
      obtain ⟨b, off, rfl, hb, hcs⟩ := HC.out (by omega)
      obtain ⟨d, pg, fr, fl, hA⟩ := hcs k hlt
      have HX0 := Lib.hid hA.h0; have HX1 := Lib.hid hA.h1
      have i0 : (0 : Int) ≤ (k : Int) := by omega
      have i1 : (k : Int) < (len : Int) := by omega
      have hbg : Hid (b ≠ g) := by have := hsz.out; unfold Hid; omega
      have HA := Lib.hid hA
      have HB := Lib.hid hB
      have hgl : Hid (g < wr.heap.size) := MemAt.g_lt HM.out
      clear hA hB hcs
      go_wp2_with fail
      refine (pages_sl HM.out HO.out).mono ?_
      rintro e w4 ⟨⟨pa, pc, rfl, hL4, hO4⟩, hB4⟩
      have hp4 := pages_len_le S.E
      have HM4 := Lib.hid (S_keep HM.out hB4)
      have HB4 := Lib.hid (below_step HB.out hB4)
      have HL4 := Lib.hid hL4
      have HO4 : Hid (∀ b, (Value.slice pa (pagesL S.E).length pc).ownBlock = some b → b < w4.heap.size ∧ b ≠ g) := fun b e => ⟨(hO4 b e).2, by have := (hO4 b e).1; have := hgl.out; omega⟩
      clear hB4 hL4 hO4
      go_wp2_with fail
      refine (left_any HM4.out).mono ?_
      rintro e w5 ⟨rfl, hB5⟩
      have HM5 := Lib.hid (S_keep HM4.out hB5)
      have HB5 := Lib.hid (below_step HB4.out hB5)
      have HL5 := Lib.hid (HL4.out.below hB5 (fun b e => (HO4.out b e).1))
      have HO5 : Hid (∀ b, (Value.slice pa (pagesL S.E).length pc).ownBlock = some b → b < w5.heap.size ∧ b ≠ g) := fun b e => ⟨Nat.lt_of_lt_of_le (HO4.out b e).1 hB5.size, (HO4.out b e).2⟩
      clear hB5
      obtain ⟨_, c1, c2, c3, _, _⟩ := HA.out.below HB5.out hb
      go_wp2_with fail
      go_region_held3 (fun w' => w'.cell? ⟨b, off + k * 4 + 1, none⟩ = some (.int .i64 pg) ∧ w'.cell? ⟨b, off + k * 4 + 2, none⟩ = some (.int .i64 fr) ∧ w'.cell? ⟨b, off + k * 4 + 3, none⟩ = some (.int .i64 fl)) (first | exact ⟨c1, c2, c3⟩ | exact ⟨d1, d2, d3⟩ | go_keep)
        ((go_at_call 14; refine (map_rep (MemAt.drew HM5.out) HO.out pg fr fl HX0.out HX1.out).mono ?_; rintro e w6 ⟨rfl, hM6, hG6⟩; have d1 := hG6.cell c1 (by intro e; exact hbg.out (Option.some.inj e)); have d2 := hG6.cell c2 (by intro e; exact hbg.out (Option.some.inj e)); have d3 := hG6.cell c3 (by intro e; exact hbg.out (Option.some.inj e)); have HM6 := Lib.hid hM6; have HB6 := Lib.hid (hgb.out _ _ HB5.out (drew_grown hG6)); have HL6 := Lib.hid (HL5.out.grown (drew_grown hG6) HO5.out); have HO6 : Hid (∀ b, (Value.slice pa (pagesL S.E).length pc).ownBlock = some b → b < w6.heap.size ∧ b ≠ g) := (fun b e => ⟨Nat.lt_of_lt_of_le (HO5.out b e).1 hG6.size, (HO5.out b e).2⟩); have HGL6 := Lib.hid (MemAt.g_lt hM6); clear hM6 hG6))
      clear d1 d2 d3 c1 c2 c3
      have HOK := Lib.hid (map_ok HO.out pg fr fl)
      go_wp2_with fail
      refine (pages_sl HM6.out HOK.out).mono ?_
      rintro e w7 ⟨⟨qa, qc, rfl, hL7, hO7⟩, hB7⟩
      have hp7 := pages_len_le (mapS n 0 S pg fr fl).2.E
      have HM7 := Lib.hid (S_keep HM6.out hB7)
      have HB7 := Lib.hid (below_step HB6.out hB7)
      have HL7' := Lib.hid (HL6.out.below hB7 (fun b e => (HO6.out b e).1))
      have HO7' : Hid (∀ b, (Value.slice pa (pagesL S.E).length pc).ownBlock = some b → b < w7.heap.size) := fun b e => Nat.lt_of_lt_of_le (HO6.out b e).1 hB7.size
      have HL7 := Lib.hid hL7
      have HO7 : Hid (∀ b, (Value.slice qa (pagesL (mapS n 0 S pg fr fl).2.E).length qc).ownBlock = some b → b < w7.heap.size) := fun b e => (hO7 b e).2
      clear hB7 hL7 hO7
      by_cases hz : (mapS n 0 S pg fr fl).1 = 0
      · have hlen2 : (((pagesL (mapS n 0 S pg fr fl).2.E).length : Int) != ((pagesL S.E).length : Int) + 1) = false := by
          have := pages_map_len hz
          rw [this]; simp
        have HZ := Lib.hid hz
        rw [hz]
        clear hz
        generalize (pagesL (mapS n 0 S pg fr fl).2.E).length = L2 at *
        generalize (pagesL S.E).length = L1 at *
        go_wp2
        go_roundw
        case rel => exact ⟨k + 1, _, by omega, by go_num, HOK.out, HM7.out, HB7.out⟩
        case measure => simp [intOf]; omega
      · have hS : (mapS n 0 S pg fr fl).2 = S := (mapS_E n 0 S pg fr fl).elim (fun h => h.2) (fun h => absurd h.1 hz)
        have hz1 : ((mapS n 0 S pg fr fl).1 != 0) = true := by simpa using hz
        have hz2 : ((mapS n 0 S pg fr fl).1 == 0) = false := by simpa using hz
        clear hz
        generalize (mapS n 0 S pg fr fl).1 = M1 at *
        generalize (mapS n 0 S pg fr fl).2 = M2 at *
        subst hS
        go_wp2_with fail
        refine (ints_same (by omega) HL7'.out HL7.out HO7'.out HO7.out).mono ?_
        rintro e w8 ⟨rfl, hB8⟩
        have HM8 := Lib.hid (S_keep HM7.out hB8)
        have HB8 := Lib.hid (below_step HB7.out hB8)
        clear hB8
        go_wp2_with fail
        refine (left_any HM8.out).mono ?_
        rintro e w9 ⟨rfl, hB9⟩
        have HM9 := Lib.hid (S_keep HM8.out hB9)
        have HB9 := Lib.hid (below_step HB8.out hB9)
        clear hB9
        go_wp2
        go_roundw
        case rel => exact ⟨k + 1, _, by omega, by go_num, HO.out, HM9.out, HB9.out⟩
        case measure => simp [intOf]; omega
    · have hex : (¬ k < len) ∨ (k < len ∧ ¬ k < 60) := by omega
      have HB := Lib.hid hB
      clear hgo hB
      rcases hex with h1 | ⟨h1, h2⟩
      all_goals
        go_wp2
        go_ret
        exact ⟨rfl, HB.out⟩

set_option maxRecDepth 100000 in
set_option maxHeartbeats 1000000 in
theorem full_out (a : Option Addr) (len cap : Nat) (w : World) (n : Int) (hn : n < 1 ∨ 8 < n) :
    Calls Try.prog 6 #[.slice a len cap, .int .i64 n] w fun e w' => e = .returned (.bool true) ∧ Below w.heap.size w w' := by
  have hn' : (n < 1) ∨ (¬ n < 1 ∧ 8 < n) := by omega
  clear hn
  rcases hn' with h1 | ⟨h1, h2⟩
  all_goals
    go_enter Try.func6, Try.ntmps6
    go_wp2_with fail
    refine (shown_any _).mono ?_
    rintro e w1 ⟨rfl, hB1⟩
    have HB1 := Lib.hid hB1; clear hB1
    go_wp2
    go_ret
    exact ⟨rfl, HB1.out⟩

set_option maxRecDepth 100000 in
theorem full_lifted (os : Os) (started : os.Started) (H : Type) (enc : TypeId × Value → H) :
    ReturnsInHanded {} Try.checked os 6 .any (Rows.ptableFullSpec.pre6 enc Try.prog Try.f6 Rows.ptableFullRow.domain false) (Rows.ptableFullSpec.post enc Try.prog Try.f6 false true false false) := by
  refine returnsInHanded_of_change (C := Try.checked) own started (by kernel_rfl) Try.func6
    (ChangeSpec.witness6 (enc := enc) (C := Try.checked) false ⟨#[], #[.slice none 0 0, .int .i64 0], []⟩ 8 (by kernel_rfl) (by kernel_rfl) (by kernel_rfl) (by kernel_rfl)) ?_
  intro W base args ds gs before hval0 hW _ _
  have hval : ∀ (j : Nat) t v, Try.f6.params[j]? = some t → args[j]? = some v → Value.okWide Try.prog W .any base t v := hval0
  have hW' := hW
  obtain ⟨p, q, hA0, hV, rfl, hfz, hnd⟩ := hW
  have hA : DataW.TrodAll enc Try.prog W 0 (fun _ => true) true Try.f6.params.toList args.toList ds p := hA0
  rw [Try.params6] at hA hval
  obtain ⟨v0, vs0, d0, ds0, p0, q0, hargs, rfl, rfl, h0, r0⟩ := trodAll_cons hA
  obtain ⟨v1, vs1, d1, ds1, p1, q1, rfl, rfl, rfl, h1, r1⟩ := trodAll_cons r0
  obtain ⟨rfl, rfl, rfl⟩ := trodAll_nil r1
  obtain rfl : args = #[v0, v1] := by cases args; simp_all
  obtain ⟨a, len, cap, rfl, hacts⟩ := open_acts (hval 0 22 v0 rfl rfl) h0
  obtain ⟨x1, rfl, -, -, wf1⟩ := open_int Try.underlying3 (hval 1 3 v1 rfl rfl) h1
  have hwalk : Calls Try.prog 6 #[.slice a len cap, .int .i64 x1] W fun e w' => e = .returned (.bool true) ∧ Below W.heap.size W w' := by
    by_cases hn : 1 ≤ x1 ∧ x1 ≤ 8
    · obtain ⟨m, rfl⟩ := Int.eq_ofNat_of_zero_le (show 0 ≤ x1 by omega)
      exact full_walk a len cap W hacts m (by omega) (by omega)
    · exact full_out a len cap W x1 (by omega)
  refine hwalk.mono fun e W' ⟨he, bel⟩ => ⟨_, he, ?_⟩
  exact law_post laidOut (of_decide_eq_true (by kernel_rfl)) rfl Try.underlying4 rfl hW' (fun ds' e => by subst e; rfl) bel

theorem ptableFull_holds : Rows.PtableFullSaid :=
  OpenClaim.holds_of_wide 6 Try.f6 rfl rfl rfl rfl rfl rfl rfl ⟨rfl, rfl, rfl, rfl, rfl⟩ rfl rfl rfl rfl rfl (by kernel_rfl) Try.func6 (by kernel_rfl)
    (of_decide_eq_true (by kernel_rfl)) (by unfold Func.isWrapper; rw [if_neg (by decide +kernel)]; exact ⟨rfl, rfl⟩)
    (fun os started H enc _ => full_lifted os started H enc)

#print axioms ptableFull_holds
end Go.Proofs.Ytkcoeibbmfkjlaa
