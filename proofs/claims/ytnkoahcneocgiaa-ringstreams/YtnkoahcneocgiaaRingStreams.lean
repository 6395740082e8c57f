/- RingStreams: for every size and every list of acts the law answers true: what comes out is what went in, in that order. No conditions. -/
import Derived.Test.YtnkoahcneocgiaaRiActs
namespace Go.Proofs.Ytnkoahcneocgiaa
open Go.RowKit Go.ChangeShapes Go.WideShapes Go.ChangeAt Go.Lib

set_option maxRecDepth 100000 in
set_option maxHeartbeats 4000000 in
theorem streams_walk (k : Int) (a : Option Addr) (len cap : Nat) (w : World) (hacts : ActsAt w a len) :
    Calls Try.prog 4 #[.int .i64 k, .slice a len cap] w fun e w' => e = .returned (.bool true) ∧ Below w.heap.size w w' := by
  have S := shown8 w
  by_cases hn : k < 1 ∨ 64 < k
  · have hn' : k < 1 ∨ (¬ k < 1 ∧ 64 < k) := by omega
    clear hn
    go_enter Try.func4, Try.ntmps4
    rcases hn' with h1 | ⟨h1, h2⟩
    all_goals
      go_wp2_with (go_at_call 9; refine S.mono ?_; clear S; rintro e w0 ⟨rfl, hB0⟩)
      go_ret
      exact ⟨rfl, hB0⟩
  · obtain ⟨K, rfl⟩ : ∃ K : Nat, k = (K : Int) := ⟨k.toNat, by omega⟩
    have hK1 : 1 ≤ K := by omega
    have hK : K ≤ 64 := by omega
    have h1 : ¬ ((K : Int) < 1) := by omega
    have h2 : ¬ (64 < (K : Int)) := by omega
    have HACT := Lib.hid hacts
    clear hn hacts
    go_enter Try.func4, Try.ntmps4
    go_wp2_with (first
      | (go_at_call 9; refine S.mono ?_; clear S; rintro e w0 ⟨rfl, hB0⟩; have B0 := Lib.hid hB0; have NW := rnew K hK1 hK w0; clear hB0)
      | (go_at_call 10; refine NW.mono ?_; clear NW; rintro e w1 ⟨rfl, hq, hB⟩; have P1 := Lib.hid hq; have B1 := Lib.hid (B0.out.trans (hB.mono B0.out.size)); have hq0 := B0.out.size; generalize w0.heap.size = q at *; clear hq hB))
    go_loopw [10, 8, 9] (fun i u o wr => ∃ j : Nat, j ≤ len ∧ j ≤ 200 ∧ i = .int .i64 (j : Int) ∧ ∃ (I O : ByteArray) (L : List UInt8), u = .string I ∧ o = .string O ∧ (O.data.toList ++ L = I.data.toList ∧ I.size ≤ 100 * j) ∧ Rg wr q K L ∧ Below w.heap.size w wr) (fun i _ _ _ => 200 - (intOf i).toNat)
    case atStart => exact ⟨0, Nat.zero_le _, by omega, rfl, ⟨#[]⟩, ⟨#[]⟩, [], rfl, rfl, ⟨rfl, Nat.le_refl _⟩, P1.out, B1.out⟩
    case round =>
      obtain ⟨j, hj, hj2, rfl, I, O, L, rfl, rfl, hOL, hR, hB⟩ := hrel
      have HOL := Lib.hid hOL; have HR := Lib.hid hR; have HB := Lib.hid hB
      have hLK := hR.le
      clear hR hB hOL
      by_cases hlt : j < len ∧ j < 200
      · obtain ⟨l1, l2⟩ := hlt
        have l3 : (j : Int) < (len : Int) := by omega
        have l4 : (j : Int) < 200 := by omega
        obtain ⟨b, off, rfl, hb, hcs⟩ := HACT.out.2 (by omega)
        obtain ⟨y, s, n, hA⟩ := hcs j l1
        have HA := Lib.hid hA
        have hA0 := hA.below HB.out hb
        have c0 := hA0.c0
        clear hcs hA
        cases y with
        | true =>
          have c1 := hA0.c1
          have TX := fun w => text8 s HA.out.hs w
          have hT : (textS8 s).size ≤ 100 := by rw [textS8_size]; omega
          generalize textS8 s = T at *
          have HT : Hid (T.size ≤ 140737488355328) := by unfold Hid; omega
          obtain ⟨m, hm⟩ : ∃ m, min T.size (K - L.length) = m := ⟨_, rfl⟩
          have hmT : m ≤ T.size := by omega
          have hadd := add_known (X := I) (Y := T.extract 0 m) (Z := ⟨(I.data.toList ++ T.data.toList.take m).toArray⟩) (by rw [take_extract8]) (by
            rw [size_mk, List.length_append, List.length_take, list_size, list_size]
            have := HOL.out.2
            omega)
          have hTm : L ++ T.data.toList.take (K - L.length) = L ++ T.data.toList.take m := by
            congr 1
            by_cases c : K - L.length ≤ T.size
            · rw [show m = K - L.length by omega]
            · rw [List.take_of_length_le (by rw [list_size]; omega), List.take_of_length_le (by rw [list_size]; omega)]
          obtain ⟨t, ht⟩ : ∃ t, T.size = t := ⟨_, rfl⟩
          have HTT := Lib.hid ht
          have HM := Lib.hid hm; have HTM := Lib.hid hTm
          have m1 : ¬ ((t : Int) < (m : Int)) := by omega
          have m2 : (m : Int) ≤ (t : Int) := by omega
          have hmt : m ≤ 100 := by omega
          clear hm hTm hA0 hT hmT
          obtain ⟨J, hJ⟩ : ∃ J : ByteArray, (⟨(I.data.toList ++ T.data.toList.take m).toArray⟩ : ByteArray) = J := ⟨_, rfl⟩
          have HJ := Lib.hid hJ
          rw [hJ] at hadd
          clear hJ
          go_wp2_with (first
            | (go_at_call 12; refine (TX _).mono ?_; rintro e wt ⟨rfl, rfl⟩)
            | (go_at_call 11; refine (rput HR.out T HT.out).mono ?_; rintro e w2 ⟨rfl, hp, t⟩; rw [HM.out]; rw [HTM.out] at hp; have P2 := Lib.hid hp; have hB2 := t.below HB.out hq0 HB.out.size; have d1 := (HA.out.below hB2 hb).c1; have B2 := Lib.hid hB2; clear hp t hB2))
          go_roundw
          case rel => exact ⟨j + 1, by omega, by omega, by go_num, J, O, L ++ T.data.toList.take m, rfl, rfl, ⟨by
              rw [← HJ.out]
              show _ = I.data.toList ++ T.data.toList.take m
              rw [← List.append_assoc, HOL.out.1], by
              rw [← HJ.out, size_mk, List.length_append, List.length_take, list_size, list_size]
              have := HOL.out.2
              omega⟩, P2.out, B2.out⟩
          case measure => simp [intOf]; omega
        | false =>
          have c2 := hA0.c2
          have hO : O.size ≤ I.size := by
            have := congrArg List.length HOL.out.1
            rw [List.length_append, list_size, list_size] at this
            omega
          obtain ⟨L2, hL2⟩ : ∃ L2, getR n L = L2 := ⟨_, rfl⟩
          obtain ⟨X, hX⟩ : ∃ X : ByteArray, (⟨(getT n L).toArray⟩ : ByteArray) = X := ⟨_, rfl⟩
          obtain ⟨g, hg⟩ : ∃ g, getE n = g := ⟨_, rfl⟩
          have hXl : X.data.toList = getT n L := by rw [← hX]
          have hXL : X.data.toList ++ L2 = L := by rw [hXl, ← hL2]; exact getT_R n L
          obtain ⟨Z, hZ⟩ : ∃ Z : ByteArray, (⟨(O.data.toList ++ X.data.toList).toArray⟩ : ByteArray) = Z := ⟨_, rfl⟩
          have hadd := add_known (X := O) (Y := X) (Z := Z) (by rw [← hZ]) (by
            rw [← hZ, size_mk, List.length_append]
            have h1 := congrArg List.length HOL.out.1
            have h2 := congrArg List.length hXL
            have h3 := HOL.out.2
            rw [List.length_append] at h1 h2
            rw [list_size I] at h1
            omega)
          have PG := fun W (h : Rg W q K L) => rget_any h n HA.out.hn
          rw [hL2, hX, hg] at PG
          have HPG := Lib.hid PG; have HZ := Lib.hid hZ; have HXL := Lib.hid hXL
          clear hX hL2 hg PG hA0 hXl hXL hZ hO
          go_wp2_with (go_at_call 14; refine (HPG.out _ HR.out).mono ?_; rintro e w2 ⟨rfl, hp, t⟩; have P2 := Lib.hid hp; have B2 := Lib.hid (t.below HB.out hq0 HB.out.size); clear hp t)
          go_roundw
          case rel => exact ⟨j + 1, by omega, by omega, by go_num, I, Z, L2, rfl, rfl, ⟨by
              rw [← HZ.out]
              show O.data.toList ++ X.data.toList ++ L2 = _
              rw [List.append_assoc, HXL.out, HOL.out.1], by have := HOL.out.2; omega⟩, P2.out, B2.out⟩
          case measure => simp [intOf]; omega
      · have hadd := add_known (X := O) (Y := ⟨L.toArray⟩) (Z := I) (by
          show O.data.toList ++ L = _
          exact HOL.out.1) (by have := HOL.out.2; omega)
        obtain ⟨c, hc⟩ : ∃ c, L.length = c := ⟨_, rfl⟩
        have HC := Lib.hid hc
        have hcK : c ≤ K := by omega
        have hsum : (c : Int) + ((K : Int) - (c : Int)) = (K : Int) := by omega
        have hor : ¬ ((j : Int) < (len : Int)) ∨ ((j : Int) < (len : Int) ∧ ¬ ((j : Int) < 200)) := by omega
        clear hlt hc hLK
        rcases hor with e1 | ⟨e1, e2⟩
        all_goals
          go_wp2_with (first
            | (go_at_call 16; refine (rbytes HR.out).mono ?_; rintro e w4 ⟨rfl, hB⟩; have P4 := Lib.hid (HR.out.below' hB); have B4 := Lib.hid (HB.out.trans (hB.mono HB.out.size)); clear hB)
            | (go_at_call 17; refine (rlen P4.out).mono ?_; rintro e w5 ⟨rfl, hB⟩; rw [HC.out]; have P5 := Lib.hid (P4.out.below' hB); have B5 := Lib.hid (B4.out.trans (hB.mono B4.out.size)); clear hB)
            | (go_at_call 18; refine (rroom P5.out).mono ?_; rintro e w6 ⟨rfl, hB⟩; rw [HC.out, show ((K - c : Nat) : Int) = (K : Int) - (c : Int) by omega]; have B6 := Lib.hid (B5.out.trans (hB.mono B5.out.size)); clear hB))
          go_ret
          exact ⟨rfl, B6.out⟩
set_option maxRecDepth 100000 in
theorem streams_lifted (os : Os) (started : os.Started) (H : Type) (enc : TypeId × Value → H) :
    ReturnsInHanded {} Try.checked os 4 .any (Rows.ringStreamsSpec.pre6 enc Try.prog Try.f4 Rows.ringStreamsRow.domain false) (Rows.ringStreamsSpec.post enc Try.prog Try.f4 false true false false) := by
  refine returnsInHanded_of_change (C := Try.checked) own started (by kernel_rfl) Try.func4
    (ChangeSpec.witness6 (enc := enc) (C := Try.checked) false ⟨#[], #[.int .i64 0, .slice none 0 0], []⟩ 8 (by kernel_rfl) (by kernel_rfl) (by kernel_rfl) (by kernel_rfl)) ?_
  intro W base args ds gs before hval0 hW _ _
  have hval : ∀ (j : Nat) t v, Try.f4.params[j]? = some t → args[j]? = some v → Value.okWide Try.prog W .any base t v := hval0
  have hW' := hW
  obtain ⟨p, q, hA0, hV, rfl, hfz, hnd⟩ := hW
  have hA : DataW.TrodAll enc Try.prog W 0 (fun _ => true) true Try.f4.params.toList args.toList ds p := hA0
  rw [Try.params4] at hA hval
  obtain ⟨v0, vs0, d0, ds0, p0, q0, hargs, rfl, rfl, h0, r0⟩ := trodAll_cons hA
  obtain ⟨v1, vs1, d1, ds1, p1, q1, rfl, rfl, rfl, h1, r1⟩ := trodAll_cons r0
  obtain ⟨rfl, rfl, rfl⟩ := trodAll_nil r1
  obtain rfl : args = #[v0, v1] := by cases args; simp_all
  obtain ⟨x0, rfl, -, -, wf0⟩ := open_int Try.underlying3 (hval 0 3 v0 rfl rfl) h0
  obtain ⟨a1, len1, cap1, rfl, hacts1⟩ := open_acts (hval 1 22 v1 rfl rfl) h1
  have hwalk : Calls Try.prog 4 #[.int .i64 x0, .slice a1 len1 cap1] W fun e w' => e = .returned (.bool true) ∧ Below W.heap.size W w' := streams_walk x0 a1 len1 cap1 W hacts1
  refine hwalk.mono fun e W' ⟨he, bel⟩ => ⟨_, he, ?_⟩
  exact law_post laidOut (of_decide_eq_true (by kernel_rfl)) rfl Try.underlying4 rfl hW' (fun ds' e => by subst e; rfl) bel

theorem ringStreams_holds : Rows.RingStreamsSaid :=
  OpenClaim.holds_of_wide 4 Try.f4 rfl rfl rfl rfl rfl rfl rfl ⟨rfl, rfl, rfl, rfl, rfl⟩ rfl rfl rfl rfl rfl (by kernel_rfl) Try.func4 (by kernel_rfl)
    (of_decide_eq_true (by kernel_rfl)) (by unfold Func.isWrapper; rw [if_neg (by decide +kernel)]; exact ⟨rfl, rfl⟩)
    (fun os started H enc _ => streams_lifted os started H enc)

#print axioms ringStreams_holds
end Go.Proofs.Ytnkoahcneocgiaa
