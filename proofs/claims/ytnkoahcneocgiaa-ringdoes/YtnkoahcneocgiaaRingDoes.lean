/- RingDoes: for every size and every list of acts the law answers true: what acts tell, and what a ring holds behind each of them. No conditions. -/
import Derived.Test.YtnkoahcneocgiaaRiActs
import Derived.Test.YtnkoahcneocgiaaRef8
namespace Go.Proofs.Ytnkoahcneocgiaa
open Go.RowKit Go.ChangeShapes Go.WideShapes Go.ChangeAt Go.Lib

set_option maxRecDepth 100000 in
set_option maxHeartbeats 4000000 in
theorem does_walk (k : Int) (a : Option Addr) (len cap : Nat) (w : World) (hacts : ActsAt w a len) :
    Calls Try.prog 3 #[.int .i64 k, .slice a len cap] w fun e w' => e = .returned (.bool true) ∧ Below w.heap.size w w' := by
  have S := shown8 w
  by_cases hn : k < 1 ∨ 64 < k
  · have hn' : k < 1 ∨ (¬ k < 1 ∧ 64 < k) := by omega
    have NO := fun w => new_no k hn w
    clear hn
    go_enter Try.func3, Try.ntmps3
    rcases hn' with h1 | ⟨h1, h2⟩
    all_goals
      go_wp2_with (first
        | (go_at_call 9; refine S.mono ?_; clear S; rintro e w0 ⟨rfl, hB0⟩)
        | (go_at_call 10; refine (NO _).mono ?_; rintro e w1 ⟨rfl, rfl⟩))
      go_ret
      exact ⟨rfl, hB0⟩
  · obtain ⟨K, rfl⟩ : ∃ K : Nat, k = (K : Int) := ⟨k.toNat, by omega⟩
    have hK1 : 1 ≤ K := by omega
    have hK : K ≤ 64 := by omega
    have h1 : ¬ ((K : Int) < 1) := by omega
    have h2 : ¬ (64 < (K : Int)) := by omega
    have HACT := Lib.hid hacts
    clear hn hacts
    go_enter Try.func3, Try.ntmps3
    go_wp2_with (first
      | (go_at_call 9; refine S.mono ?_; clear S; rintro e w0 ⟨rfl, hB0⟩; have B0 := Lib.hid hB0; have NW := rnew K hK1 hK w0; clear hB0)
      | (go_at_call 10; refine NW.mono ?_; clear NW; rintro e w1 ⟨rfl, hq, hB⟩; have P1 := Lib.hid hq; have B1 := Lib.hid (B0.out.trans (hB.mono B0.out.size)); have hq0 := B0.out.size; generalize w0.heap.size = q at *; clear hq hB))
    go_loopw [9, 8] (fun i o wr => ∃ j : Nat, j ≤ len ∧ j ≤ 200 ∧ i = .int .i64 (j : Int) ∧ ∃ L : List UInt8, o = .string ⟨L.toArray⟩ ∧ Rg wr q K L ∧ Below w.heap.size w wr) (fun i _ _ => 200 - (intOf i).toNat)
    case atStart => exact ⟨0, Nat.zero_le _, by omega, rfl, [], rfl, P1.out, B1.out⟩
    case round =>
      obtain ⟨j, hj, hj2, rfl, L, rfl, hR, hB⟩ := hrel
      have HR := Lib.hid hR; have HB := Lib.hid hB
      have hLK := hR.le
      clear hR hB
      by_cases hlt : j < len ∧ j < 200
      · obtain ⟨l1, l2⟩ := hlt
        have l3 : (j : Int) < (len : Int) := by omega
        have l4 : (j : Int) < 200 := by omega
        obtain ⟨b, off, rfl, hb, hcs⟩ := HACT.out.2 (by omega)
        obtain ⟨y, s, n, hA⟩ := hcs j l1
        have HA := Lib.hid hA
        have hA0 := hA.below HB.out hb
        have c0 := hA0.c0
        obtain ⟨H, hH⟩ : ∃ H : ByteArray, (⟨L.toArray⟩ : ByteArray) = H := ⟨_, rfl⟩
        have HH := Lib.hid hH
        rw [hH]
        clear hcs hA hH
        cases y with
        | true =>
          have c1 := hA0.c1
          have TX := fun w => text8 s HA.out.hs w
          have hT : (textS8 s).size ≤ 100 := by rw [textS8_size]; omega
          have HSS := Lib.hid HA
          generalize textS8 s = T at *
          have HT : Hid (T.size ≤ 140737488355328) := by unfold Hid; omega
          obtain ⟨m, hm⟩ : ∃ m, min T.size (K - L.length) = m := ⟨_, rfl⟩
          obtain ⟨L2, hL2⟩ : ∃ L2, L ++ T.data.toList.take (K - L.length) = L2 := ⟨_, rfl⟩
          obtain ⟨H2, hH2⟩ : ∃ H2 : ByteArray, (⟨L2.toArray⟩ : ByteArray) = H2 := ⟨_, rfl⟩
          obtain ⟨c, hc⟩ : ∃ c, L2.length = c := ⟨_, rfl⟩
          have hsz : H2.size = c := by rw [← hH2, size_mk, hc]
          have HM := Lib.hid hm; have HL2 := Lib.hid hL2; have HH2 := Lib.hid hH2; have HC := Lib.hid hc
          have RP := fun w => ref_put L K T hLK hK w
          rw [HH.out, HL2.out, HH2.out, HM.out] at RP
          have HRP := Lib.hid RP
          clear hm hL2 hH2 hc RP hA0 hT
          go_wp2_with (first
            | (go_at_call 12; refine (TX _).mono ?_; rintro e wt ⟨rfl, rfl⟩)
            | (go_at_call 11; refine (rput HR.out T HT.out).mono ?_; rintro e w2 ⟨rfl, hp, t⟩; rw [HM.out]; rw [HL2.out] at hp; have P2 := Lib.hid hp; have hB2 := t.below HB.out hq0 HB.out.size; have d1 := (HA.out.below hB2 hb).c1; have B2 := Lib.hid hB2; have hcK : c ≤ K := (by have := hp.le; rw [HC.out] at this; exact this); clear hp t hB2)
            | (go_at_call 13; refine (HRP.out _).mono ?_; rintro e w3 ⟨rfl, rfl⟩)
            | (go_at_call 16; refine (rbytes P2.out).mono ?_; rintro e w4 ⟨rfl, hB⟩; rw [HH2.out]; have P4 := Lib.hid (P2.out.below' hB); have B4 := Lib.hid (B2.out.trans (hB.mono B2.out.size)); clear hB)
            | (go_at_call 17; refine (rlen P4.out).mono ?_; rintro e w5 ⟨rfl, hB⟩; rw [HC.out]; have P5 := Lib.hid (P4.out.below' hB); have B5 := Lib.hid (B4.out.trans (hB.mono B4.out.size)); clear hB)
            | (go_at_call 18; refine (rroom P5.out).mono ?_; rintro e w6 ⟨rfl, hB⟩; rw [HC.out, show ((K - c : Nat) : Int) = (K : Int) - (c : Int) by omega]; have P6 := Lib.hid (P5.out.below' hB); have B6 := Lib.hid (B5.out.trans (hB.mono B5.out.size)); clear hB))
          go_roundw
          case rel => exact ⟨j + 1, by omega, by omega, by go_num, L2, by rw [HH2.out], P6.out, B6.out⟩
          case measure => simp [intOf]; omega
        | false =>
          have c2 := hA0.c2
          obtain ⟨L2, hL2⟩ : ∃ L2, getR n L = L2 := ⟨_, rfl⟩
          obtain ⟨X, hX⟩ : ∃ X : ByteArray, (⟨(getT n L).toArray⟩ : ByteArray) = X := ⟨_, rfl⟩
          obtain ⟨g, hg⟩ : ∃ g, getE n = g := ⟨_, rfl⟩
          obtain ⟨H2, hH2⟩ : ∃ H2 : ByteArray, (⟨L2.toArray⟩ : ByteArray) = H2 := ⟨_, rfl⟩
          obtain ⟨c, hc⟩ : ∃ c, L2.length = c := ⟨_, rfl⟩
          have hsz : H2.size = c := by rw [← hH2, size_mk, hc]
          have HX := Lib.hid hX; have HL2 := Lib.hid hL2; have HH2 := Lib.hid hH2; have HC := Lib.hid hc; have HG := Lib.hid hg
          have RG := fun w => ref_get L n w
          rw [HH.out, HL2.out, HH2.out, HX.out, HG.out] at RG
          have PG := fun W (h : Rg W q K L) => rget_any h n HA.out.hn
          rw [HL2.out, HX.out, HG.out] at PG
          have HRG := Lib.hid RG; have HPG := Lib.hid PG
          clear hX hL2 hH2 hc hg RG PG hA0
          go_wp2_with (first
            | (go_at_call 14; refine (HPG.out _ HR.out).mono ?_; rintro e w2 ⟨rfl, hp, t⟩; have P2 := Lib.hid hp; have hB2 := t.below HB.out hq0 HB.out.size; have d1 := (HA.out.below hB2 hb).c2; have B2 := Lib.hid hB2; have hcK : c ≤ K := (by have := hp.le; rw [HC.out] at this; exact this); clear hp t hB2)
            | (go_at_call 15; refine (HRG.out _).mono ?_; rintro e w3 ⟨rfl, hB⟩; have P3 := Lib.hid (P2.out.below' hB); have B3 := Lib.hid (B2.out.trans (hB.mono B2.out.size)); clear hB)
            | (go_at_call 16; refine (rbytes P3.out).mono ?_; rintro e w4 ⟨rfl, hB⟩; rw [HH2.out]; have P4 := Lib.hid (P3.out.below' hB); have B4 := Lib.hid (B3.out.trans (hB.mono B3.out.size)); clear hB)
            | (go_at_call 17; refine (rlen P4.out).mono ?_; rintro e w5 ⟨rfl, hB⟩; rw [HC.out]; have P5 := Lib.hid (P4.out.below' hB); have B5 := Lib.hid (B4.out.trans (hB.mono B4.out.size)); clear hB)
            | (go_at_call 18; refine (rroom P5.out).mono ?_; rintro e w6 ⟨rfl, hB⟩; rw [HC.out, show ((K - c : Nat) : Int) = (K : Int) - (c : Int) by omega]; have P6 := Lib.hid (P5.out.below' hB); have B6 := Lib.hid (B5.out.trans (hB.mono B5.out.size)); clear hB))
          go_roundw
          case rel => exact ⟨j + 1, by omega, by omega, by go_num, L2, by rw [HH2.out], P6.out, B6.out⟩
          case measure => simp [intOf]; omega
      · have hor : ¬ ((j : Int) < (len : Int)) ∨ ((j : Int) < (len : Int) ∧ ¬ ((j : Int) < 200)) := by omega
        rcases hor with e1 | ⟨e1, e2⟩
        all_goals
          go_wp2
          go_ret
          exact ⟨rfl, HB.out⟩
set_option maxRecDepth 100000 in
theorem does_lifted (os : Os) (started : os.Started) (H : Type) (enc : TypeId × Value → H) :
    ReturnsInHanded {} Try.checked os 3 .any (Rows.ringDoesSpec.pre6 enc Try.prog Try.f3 Rows.ringDoesRow.domain false) (Rows.ringDoesSpec.post enc Try.prog Try.f3 false true false false) := by
  refine returnsInHanded_of_change (C := Try.checked) own started (by kernel_rfl) Try.func3
    (ChangeSpec.witness6 (enc := enc) (C := Try.checked) false ⟨#[], #[.int .i64 0, .slice none 0 0], []⟩ 8 (by kernel_rfl) (by kernel_rfl) (by kernel_rfl) (by kernel_rfl)) ?_
  intro W base args ds gs before hval0 hW _ _
  have hval : ∀ (j : Nat) t v, Try.f3.params[j]? = some t → args[j]? = some v → Value.okWide Try.prog W .any base t v := hval0
  have hW' := hW
  obtain ⟨p, q, hA0, hV, rfl, hfz, hnd⟩ := hW
  have hA : DataW.TrodAll enc Try.prog W 0 (fun _ => true) true Try.f3.params.toList args.toList ds p := hA0
  rw [Try.params3] at hA hval
  obtain ⟨v0, vs0, d0, ds0, p0, q0, hargs, rfl, rfl, h0, r0⟩ := trodAll_cons hA
  obtain ⟨v1, vs1, d1, ds1, p1, q1, rfl, rfl, rfl, h1, r1⟩ := trodAll_cons r0
  obtain ⟨rfl, rfl, rfl⟩ := trodAll_nil r1
  obtain rfl : args = #[v0, v1] := by cases args; simp_all
  obtain ⟨x0, rfl, -, -, wf0⟩ := open_int Try.underlying3 (hval 0 3 v0 rfl rfl) h0
  obtain ⟨a1, len1, cap1, rfl, hacts1⟩ := open_acts (hval 1 22 v1 rfl rfl) h1
  have hwalk : Calls Try.prog 3 #[.int .i64 x0, .slice a1 len1 cap1] W fun e w' => e = .returned (.bool true) ∧ Below W.heap.size W w' := does_walk x0 a1 len1 cap1 W hacts1
  refine hwalk.mono fun e W' ⟨he, bel⟩ => ⟨_, he, ?_⟩
  exact law_post laidOut (of_decide_eq_true (by kernel_rfl)) rfl Try.underlying4 rfl hW' (fun ds' e => by subst e; rfl) bel

theorem ringDoes_holds : Rows.RingDoesSaid :=
  OpenClaim.holds_of_wide 3 Try.f3 rfl rfl rfl rfl rfl rfl rfl ⟨rfl, rfl, rfl, rfl, rfl⟩ rfl rfl rfl rfl rfl (by kernel_rfl) Try.func3 (by kernel_rfl)
    (of_decide_eq_true (by kernel_rfl)) (by unfold Func.isWrapper; rw [if_neg (by decide +kernel)]; exact ⟨rfl, rfl⟩)
    (fun os started H enc _ => does_lifted os started H enc)

#print axioms ringDoes_holds
end Go.Proofs.Ytnkoahcneocgiaa
