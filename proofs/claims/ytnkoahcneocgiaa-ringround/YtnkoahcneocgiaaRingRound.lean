/- RingRound: for every size, text and number the law answers true: bytes put one by one, and got one by one, come out in order. No conditions. -/
import Derived.Test.YtnkoahcneocgiaaRiText
import Derived.Test.YtnkoahcneocgiaaLaw
import Derived.Test.YtnkoahcneocgiaaArgs
namespace Go.Proofs.Ytnkoahcneocgiaa
open Go.RowKit Go.ChangeShapes Go.WideShapes Go.ChangeAt Go.Lib
open Go.ChangeMaps (open_string)

theorem rget_one {w : World} {q N : Nat} {L : List UInt8} {y : UInt8} (h : Rg w q N (y :: L)) : Calls Try.prog 14 #[.pointer (some ⟨q, 0, none⟩), .int .i64 1] w fun e w' =>
    ∃ B : ByteArray, e = .returned (.tuple #[.string B, .int .i64 0]) ∧ B.data.toList = [y] ∧ B.size = 1 ∧ Rg w' q N L ∧ Tur q w w' := by
  refine (rget h 1 (by omega)).mono ?_
  rintro e w' ⟨rfl, h1, h2⟩
  exact ⟨_, rfl, rfl, rfl, h1, h2⟩

set_option maxRecDepth 100000 in
set_option maxHeartbeats 4000000 in
theorem round_walk (k : Int) (s : ByteArray) (n : Int) (w : World) (hs : s.size ≤ maxLen) :
    Calls Try.prog 8 #[.int .i64 k, .string s, .int .i64 n] w fun e w' => e = .returned (.bool true) ∧ Below w.heap.size w w' := by
  have S := shown8 w
  by_cases hn : k < 1 ∨ 64 < k ∨ n < 0 ∨ k ≤ n
  · have hn' : k < 1 ∨ (¬ k < 1 ∧ 64 < k) ∨ (¬ k < 1 ∧ ¬ 64 < k ∧ n < 0) ∨ (¬ k < 1 ∧ ¬ 64 < k ∧ ¬ n < 0 ∧ k ≤ n) := by omega
    clear hn
    go_enter Try.func8, Try.ntmps8
    rcases hn' with h1 | ⟨h1, h2⟩ | ⟨h1, h2, h3⟩ | ⟨h1, h2, h3, h4⟩
    all_goals
      go_wp2_with (go_at_call 9; refine S.mono ?_; clear S; rintro e w0 ⟨rfl, hB0⟩)
      go_ret
      exact ⟨rfl, hB0⟩
  · obtain ⟨K, rfl⟩ : ∃ K : Nat, k = (K : Int) := ⟨k.toNat, by omega⟩
    obtain ⟨m, rfl⟩ : ∃ m : Nat, n = (m : Int) := ⟨n.toNat, by omega⟩
    have hK1 : 1 ≤ K := by omega
    have hK : K ≤ 64 := by omega
    have hmK : m < K := by omega
    have h1 : ¬ ((K : Int) < 1) := by omega
    have h2 : ¬ (64 < (K : Int)) := by omega
    have h3 : ¬ ((m : Int) < 0) := by omega
    have h4 : ¬ ((K : Int) ≤ (m : Int)) := by omega
    have TX := fun w => text8 s hs w
    have hT : (textS8 s).size ≤ 100 := by rw [textS8_size]; omega
    generalize textS8 s = T at *
    have HT : Hid (T.size ≤ 140737488355328) := by unfold Hid; omega
    have HT100 := Lib.hid hT
    clear hn hs hT
    go_enter Try.func8, Try.ntmps8
    go_wp2_with (first
      | (go_at_call 9; refine S.mono ?_; clear S; rintro e w0 ⟨rfl, hB0⟩; have B0 := Lib.hid hB0; have NW := rnew K hK1 hK w0; clear hB0)
      | (go_at_call 10; refine NW.mono ?_; clear NW; rintro e w1 ⟨rfl, hq, hB⟩; have P1 := Lib.hid hq; have B1 := Lib.hid (B0.out.trans (hB.mono B0.out.size)); have hq0 := B0.out.size; generalize w0.heap.size = q at *; clear hq hB)
      | (go_at_call 12; refine (TX _).mono ?_; rintro e wt ⟨rfl, rfl⟩))
    go_loopw [11, 10] (fun i o wr => ∃ j : Nat, j ≤ T.size ∧ i = .int .i64 (j : Int) ∧ ∃ (O : ByteArray) (L : List UInt8), o = .string O ∧ O.data.toList ++ L = T.data.toList.take j ∧ L.length ≤ m ∧ Rg wr q K L ∧ Below w.heap.size w wr) (fun i _ _ => T.size - (intOf i).toNat)
    case atStart => exact ⟨0, Nat.zero_le _, rfl, ⟨#[]⟩, [], rfl, rfl, Nat.zero_le _, P1.out, B1.out⟩
    case round =>
      obtain ⟨j, hj, rfl, O, L, rfl, hOL, hLm, hR, hB⟩ := hrel
      have HOL := Lib.hid hOL; have HR := Lib.hid hR; have HB := Lib.hid hB
      clear hOL hR hB
      by_cases hlt : j < T.size
      · obtain ⟨x, hx⟩ : ∃ x, T.data.toList[j]? = some x := ⟨_, List.getElem?_eq_getElem (by rw [list_size]; exact hlt)⟩
        have hX := one_extract hx
        have hX1 : (T.extract j (j + 1)).size = 1 := by rw [← list_size, hX]; rfl
        have PX := fun W (h : Rg W q K L) => rput h (T.extract j (j + 1)) (by rw [hX1]; omega)
        rw [hX, hX1, show min 1 (K - L.length) = 1 by omega, List.take_of_length_le (show [x].length ≤ K - L.length by simp; omega)] at PX
        have HPX := Lib.hid PX
        have HX := Lib.hid hx
        have hsum : (j : Int) + 1 ≤ (T.size : Int) := by omega
        have hj100 : (j : Int) + 1 ≤ 100 := by have := HT100.out; omega
        have hj99 : (j : Int) ≤ 99 := by omega
        have hjle : (j : Int) ≤ (j : Int) + 1 := by omega
        have htn : ((j : Int) + 1).toNat = j + 1 := by omega
        clear PX hx hX hX1
        obtain ⟨y, L', hyL⟩ : ∃ y L', L ++ [x] = y :: L' := by
          cases L with
          | nil => exact ⟨x, [], rfl⟩
          | cons y L => exact ⟨y, L ++ [x], rfl⟩
        have hlen : L'.length = L.length := by have := congrArg List.length hyL; simp at this; omega
        have HY := Lib.hid hyL; have HLEN := Lib.hid hlen
        clear hyL hlen
        obtain ⟨c, hc⟩ : ∃ c, L.length = c := ⟨_, rfl⟩
        have HC := Lib.hid hc
        have hcm : c ≤ m := by omega
        clear hc hLm
        rcases Nat.lt_or_ge c m with d | d
        · have d1 : ¬ ((m : Int) < (c : Int) + 1) := by omega
          go_wp2_with (first
            | (go_at_call 11; with_reducible refine (HPX.out _ HR.out).mono ?_; rintro e w2 ⟨rfl, hp, t⟩; have P2 := Lib.hid hp; have B2 := Lib.hid (t.below HB.out hq0 HB.out.size); clear hp t)
            | (go_at_call 17; refine (rlen P2.out).mono ?_; rintro e w3 ⟨rfl, hB⟩; rw [List.length_append, List.length_singleton, HC.out, Int.natCast_add]; have P3 := Lib.hid (P2.out.below' hB); have B3 := Lib.hid (B2.out.trans (hB.mono B2.out.size)); clear hB))
          go_roundw
          case rel => exact ⟨j + 1, by omega, by go_num, O, L ++ [x], rfl, by rw [← List.append_assoc, HOL.out, List.take_add_one, HX.out]; rfl, by rw [List.length_append, HC.out]; simp; omega, P3.out, B3.out⟩
          case measure => simp [intOf]; omega
        · have d1 : (m : Int) < (c : Int) + 1 := by omega
          have hO1 : Hid (O.data.toList.length ≤ 100) := by
            unfold Hid
            have h1 := congrArg List.length HOL.out
            have h2 := HT100.out
            rw [List.length_append, List.length_take, list_size T] at h1
            omega
          go_wp2_with (first
            | (go_at_call 11; with_reducible refine (HPX.out _ HR.out).mono ?_; rintro e w2 ⟨rfl, hp, t⟩; have P2 := Lib.hid hp; have B2 := Lib.hid (t.below HB.out hq0 HB.out.size); clear hp t)
            | (go_at_call 17; refine (rlen P2.out).mono ?_; rintro e w3 ⟨rfl, hB⟩; rw [List.length_append, List.length_singleton, HC.out, Int.natCast_add]; have hP := P2.out.below' hB; rw [HY.out] at hP; have P3 := Lib.hid hP; have B3 := Lib.hid (B2.out.trans (hB.mono B2.out.size)); clear hB hP)
            | (go_at_call 14; refine (rget_one P3.out).mono ?_; rintro e w4 ⟨B, rfl, hb, hb1, hp, t⟩; have P4 := Lib.hid hp; have B4 := Lib.hid (t.below B3.out hq0 B3.out.size); have HBB := Lib.hid hb; have hadd := add_known (X := O) (Y := B) (Z := ⟨(O.data.toList ++ [y]).toArray⟩) (by show _ = O.data.toList ++ [y]; rw [hb]) (by rw [size_mk, List.length_append]; have := hO1.out; show O.data.toList.length + 1 ≤ 1000000; omega); clear hp t hb))
          go_roundw
          case rel => exact ⟨j + 1, by omega, by go_num, _, L', rfl, by
              show O.data.toList ++ [y] ++ L' = _
              rw [List.append_assoc, List.singleton_append, ← HY.out, ← List.append_assoc, HOL.out, List.take_add_one, HX.out]; rfl, by rw [HLEN.out, HC.out]; omega, P4.out, B4.out⟩
          case measure => simp [intOf]; omega
      · obtain rfl : j = T.size := by omega
        have hadd := add_known (X := O) (Y := ⟨L.toArray⟩) (Z := T) (by
          show O.data.toList ++ L = _
          rw [HOL.out, List.take_of_length_le (by rw [list_size]; exact Nat.le_refl _)]) (by have := HT100.out; omega)
        go_wp2_with (go_at_call 16; refine (rbytes HR.out).mono ?_; rintro e w2 ⟨rfl, hB⟩; have B2 := Lib.hid (HB.out.trans (hB.mono HB.out.size)); clear hB)
        go_ret
        exact ⟨rfl, B2.out⟩
set_option maxRecDepth 100000 in
theorem round_lifted (os : Os) (started : os.Started) (H : Type) (enc : TypeId × Value → H) :
    ReturnsInHanded {} Try.checked os 8 .any (Rows.ringRoundSpec.pre6 enc Try.prog Try.f8 Rows.ringRoundRow.domain false) (Rows.ringRoundSpec.post enc Try.prog Try.f8 false true false false) := by
  refine returnsInHanded_of_change (C := Try.checked) own started (by kernel_rfl) Try.func8
    (ChangeSpec.witness6 (enc := enc) (C := Try.checked) false ⟨#[], #[.int .i64 0, .string ⟨#[]⟩, .int .i64 0], []⟩ 8 (by kernel_rfl) (by kernel_rfl) (by kernel_rfl) (by kernel_rfl)) ?_
  intro W base args ds gs before hval0 hW _ _
  have hval : ∀ (j : Nat) t v, Try.f8.params[j]? = some t → args[j]? = some v → Value.okWide Try.prog W .any base t v := hval0
  have hW' := hW
  obtain ⟨p, q, hA0, hV, rfl, hfz, hnd⟩ := hW
  have hA : DataW.TrodAll enc Try.prog W 0 (fun _ => true) true Try.f8.params.toList args.toList ds p := hA0
  rw [Try.params8] at hA hval
  obtain ⟨v0, vs0, d0, ds0, p0, q0, hargs, rfl, rfl, h0, r0⟩ := trodAll_cons hA
  obtain ⟨v1, vs1, d1, ds1, p1, q1, rfl, rfl, rfl, h1, r1⟩ := trodAll_cons r0
  obtain ⟨v2, vs2, d2, ds2, p2, q2, rfl, rfl, rfl, h2, r2⟩ := trodAll_cons r1
  obtain ⟨rfl, rfl, rfl⟩ := trodAll_nil r2
  obtain rfl : args = #[v0, v1, v2] := by cases args; simp_all
  obtain ⟨x0, rfl, -, -, wf0⟩ := open_int Try.underlying3 (hval 0 3 v0 rfl rfl) h0
  obtain ⟨s1, rfl, -, -, hs1⟩ := open_string Try.underlying9 (hval 1 9 v1 rfl rfl) h1
  obtain ⟨x2, rfl, -, -, wf2⟩ := open_int Try.underlying3 (hval 2 3 v2 rfl rfl) h2
  have hwalk : Calls Try.prog 8 #[.int .i64 x0, .string s1, .int .i64 x2] W fun e w' => e = .returned (.bool true) ∧ Below W.heap.size W w' := round_walk x0 s1 x2 W hs1
  refine hwalk.mono fun e W' ⟨he, bel⟩ => ⟨_, he, ?_⟩
  exact law_post laidOut (of_decide_eq_true (by kernel_rfl)) rfl Try.underlying4 rfl hW' (fun ds' e => by subst e; rfl) bel

theorem ringRound_holds : Rows.RingRoundSaid :=
  OpenClaim.holds_of_wide 8 Try.f8 rfl rfl rfl rfl rfl rfl rfl ⟨rfl, rfl, rfl, rfl, rfl⟩ rfl rfl rfl rfl rfl (by kernel_rfl) Try.func8 (by kernel_rfl)
    (of_decide_eq_true (by kernel_rfl)) (by unfold Func.isWrapper; rw [if_neg (by decide +kernel)]; exact ⟨rfl, rfl⟩)
    (fun os started H enc _ => round_lifted os started H enc)

#print axioms ringRound_holds
end Go.Proofs.Ytnkoahcneocgiaa
