/- RingFull: for every size and every text the law answers true: as many bytes are put as there is room for. No conditions. -/
import Derived.Test.YtnkoahcneocgiaaRiShown
import Derived.Test.YtnkoahcneocgiaaLaw
import Derived.Test.YtnkoahcneocgiaaArgs
namespace Go.Proofs.Ytnkoahcneocgiaa
open Go.RowKit Go.ChangeShapes Go.WideShapes Go.ChangeAt Go.Lib
open Go.ChangeMaps (open_string)

set_option maxRecDepth 100000 in
set_option maxHeartbeats 4000000 in
theorem full_walk (n : Int) (s : ByteArray) (w : World) (hs : s.size ≤ maxLen) :
    Calls Try.prog 7 #[.int .i64 n, .string s] w fun e w' => e = .returned (.bool true) ∧ Below w.heap.size w w' := by
  have S := shown8 w
  by_cases hn : n < 1 ∨ 64 < n
  · have hn' : n < 1 ∨ (¬ n < 1 ∧ 64 < n) := by omega
    clear hn
    go_enter Try.func7, Try.ntmps7
    rcases hn' with h1 | ⟨h1, h2⟩
    all_goals
      go_wp2_with (go_at_call 9; refine S.mono ?_; clear S; rintro e w0 ⟨rfl, hB0⟩)
      go_ret
      exact ⟨rfl, hB0⟩
  · obtain ⟨N, rfl⟩ : ∃ N : Nat, n = (N : Int) := ⟨n.toNat, by omega⟩
    have hN1 : 1 ≤ N := by omega
    have hN : N ≤ 64 := by omega
    have h1 : ¬ ((N : Int) < 1) := by omega
    have h2 : ¬ (64 < (N : Int)) := by omega
    have TX := fun w => text8 s hs w
    have hT : (textS8 s).size ≤ 100 := by rw [textS8_size]; omega
    have hT2 : (textS8 s).data.toList.length = (textS8 s).size := (Lib.size_eq _).symm
    generalize textS8 s = T at *
    obtain ⟨t, ht⟩ : ∃ t, T.size = t := ⟨_, rfl⟩
    have HT := Lib.hid ht; have HT2 := Lib.hid hT2
    have hT100 : t ≤ 100 := by omega
    clear hn hT hT2 hs
    have hr := Nat.le_refl w.heap.size
    rcases Nat.lt_or_ge t N with c | c
    · have c1 : (t : Int) < (N : Int) := by omega
      have c2 : ¬ ((N : Int) - (t : Int) < 1) := by omega
      go_enter Try.func7, Try.ntmps7
      go_wp2_with (first
        | (go_at_call 9; refine S.mono ?_; clear S; rintro e w0 ⟨rfl, hB0⟩; have B0 := Lib.hid hB0; have NW := rnew N hN1 hN w0; clear hB0)
        | (go_at_call 10; refine NW.mono ?_; clear NW; rintro e w1 ⟨rfl, hq, hB⟩; have Q1 := Lib.hid hq; have B1 := Lib.hid (B0.out.trans (hB.mono B0.out.size)); have hq0 := B0.out.size; clear hq hB)
        | (go_at_call 12; refine (TX _).mono ?_; rintro e wt ⟨rfl, rfl⟩)
        | (go_at_call 11; refine (rput Q1.out T (by rw [HT.out]; omega)).mono ?_; rintro e w2 ⟨rfl, h3, t3⟩; rw [show min T.size (N - ([] : List UInt8).length) = t by rw [HT.out]; simp; omega]; obtain ⟨L1, hL1⟩ : ∃ L1, ([] : List UInt8) ++ T.data.toList.take (N - ([] : List UInt8).length) = L1 := ⟨_, rfl⟩; have hl1 : L1.length = t := (by rw [← hL1]; simp [HT2.out, HT.out]; omega); rw [hL1] at h3; have Q2 := Lib.hid h3; have HL1 := Lib.hid hl1; have B2 := Lib.hid (t3.below B1.out hq0 B1.out.size); clear hL1 h3 t3 hl1 Q1)
        | (go_at_call 11; refine (rput Q2.out ⟨#[120]⟩ (by decide)).mono ?_; rintro e w3 ⟨rfl, h3, t3⟩; rw [show min (⟨#[120]⟩ : ByteArray).size (N - L1.length) = 1 by rw [HL1.out]; show min 1 (N - t) = 1; omega]; obtain ⟨L2, hL2⟩ : ∃ L2, L1 ++ (⟨#[120]⟩ : ByteArray).data.toList.take (N - L1.length) = L2 := ⟨_, rfl⟩; have hl2 : L2.length = t + 1 := (by rw [← hL2, List.length_append, List.length_take, HL1.out]; show t + min (N - t) 1 = t + 1; omega); rw [hL2] at h3; have Q3 := Lib.hid h3; have HL2 := Lib.hid hl2; have B3 := Lib.hid (t3.below B2.out hq0 B2.out.size); clear hL2 h3 t3 hl2 Q2)
        | (go_at_call 17; refine (rlen Q3.out).mono ?_; rintro e w4 ⟨rfl, hB⟩; rw [HL2.out]; have B4 := Lib.hid (B3.out.trans (hB.mono B3.out.size)); clear hB))
      go_ret
      exact ⟨rfl, B4.out⟩
    · have c1 : ¬ ((t : Int) < (N : Int)) := by omega
      have c2 : (N : Int) - (N : Int) < 1 := by omega
      go_enter Try.func7, Try.ntmps7
      go_wp2_with (first
        | (go_at_call 9; refine S.mono ?_; clear S; rintro e w0 ⟨rfl, hB0⟩; have B0 := Lib.hid hB0; have NW := rnew N hN1 hN w0; clear hB0)
        | (go_at_call 10; refine NW.mono ?_; clear NW; rintro e w1 ⟨rfl, hq, hB⟩; have Q1 := Lib.hid hq; have B1 := Lib.hid (B0.out.trans (hB.mono B0.out.size)); have hq0 := B0.out.size; clear hq hB)
        | (go_at_call 12; refine (TX _).mono ?_; rintro e wt ⟨rfl, rfl⟩)
        | (go_at_call 11; refine (rput Q1.out T (by rw [HT.out]; omega)).mono ?_; rintro e w2 ⟨rfl, h3, t3⟩; rw [show min T.size (N - ([] : List UInt8).length) = N by rw [HT.out]; simp; omega]; obtain ⟨L1, hL1⟩ : ∃ L1, ([] : List UInt8) ++ T.data.toList.take (N - ([] : List UInt8).length) = L1 := ⟨_, rfl⟩; have hl1 : L1.length = N := (by rw [← hL1]; simp [HT2.out, HT.out]; omega); rw [hL1] at h3; have Q2 := Lib.hid h3; have HL1 := Lib.hid hl1; have B2 := Lib.hid (t3.below B1.out hq0 B1.out.size); clear hL1 h3 t3 hl1 Q1)
        | (go_at_call 11; refine (rput Q2.out ⟨#[120]⟩ (by decide)).mono ?_; rintro e w3 ⟨rfl, h3, t3⟩; rw [show min (⟨#[120]⟩ : ByteArray).size (N - L1.length) = 0 by rw [HL1.out]; simp]; obtain ⟨L2, hL2⟩ : ∃ L2, L1 ++ (⟨#[120]⟩ : ByteArray).data.toList.take (N - L1.length) = L2 := ⟨_, rfl⟩; have hl2 : L2.length = N := (by rw [← hL2, List.length_append, List.length_take, HL1.out]; simp); rw [hL2] at h3; have Q3 := Lib.hid h3; have HL2 := Lib.hid hl2; have B3 := Lib.hid (t3.below B2.out hq0 B2.out.size); clear hL2 h3 t3 hl2 Q2)
        | (go_at_call 17; refine (rlen Q3.out).mono ?_; rintro e w4 ⟨rfl, hB⟩; rw [HL2.out]; have B4 := Lib.hid (B3.out.trans (hB.mono B3.out.size)); clear hB))
      go_ret
      exact ⟨rfl, B4.out⟩
set_option maxRecDepth 100000 in
theorem full_lifted (os : Os) (started : os.Started) (H : Type) (enc : TypeId × Value → H) :
    ReturnsInHanded {} Try.checked os 7 .any (Rows.ringFullSpec.pre6 enc Try.prog Try.f7 Rows.ringFullRow.domain false) (Rows.ringFullSpec.post enc Try.prog Try.f7 false true false false) := by
  refine returnsInHanded_of_change (C := Try.checked) own started (by kernel_rfl) Try.func7
    (ChangeSpec.witness6 (enc := enc) (C := Try.checked) false ⟨#[], #[.int .i64 0, .string ⟨#[]⟩], []⟩ 8 (by kernel_rfl) (by kernel_rfl) (by kernel_rfl) (by kernel_rfl)) ?_
  intro W base args ds gs before hval0 hW _ _
  have hval : ∀ (j : Nat) t v, Try.f7.params[j]? = some t → args[j]? = some v → Value.okWide Try.prog W .any base t v := hval0
  have hW' := hW
  obtain ⟨p, q, hA0, hV, rfl, hfz, hnd⟩ := hW
  have hA : DataW.TrodAll enc Try.prog W 0 (fun _ => true) true Try.f7.params.toList args.toList ds p := hA0
  rw [Try.params7] at hA hval
  obtain ⟨v0, vs0, d0, ds0, p0, q0, hargs, rfl, rfl, h0, r0⟩ := trodAll_cons hA
  obtain ⟨v1, vs1, d1, ds1, p1, q1, rfl, rfl, rfl, h1, r1⟩ := trodAll_cons r0
  obtain ⟨rfl, rfl, rfl⟩ := trodAll_nil r1
  obtain rfl : args = #[v0, v1] := by cases args; simp_all
  obtain ⟨x0, rfl, -, -, wf0⟩ := open_int Try.underlying3 (hval 0 3 v0 rfl rfl) h0
  obtain ⟨s1, rfl, -, -, hs1⟩ := open_string Try.underlying9 (hval 1 9 v1 rfl rfl) h1
  have hwalk : Calls Try.prog 7 #[.int .i64 x0, .string s1] W fun e w' => e = .returned (.bool true) ∧ Below W.heap.size W w' := full_walk x0 s1 W hs1
  refine hwalk.mono fun e W' ⟨he, bel⟩ => ⟨_, he, ?_⟩
  exact law_post laidOut (of_decide_eq_true (by kernel_rfl)) rfl Try.underlying4 rfl hW' (fun ds' e => by subst e; rfl) bel

theorem ringFull_holds : Rows.RingFullSaid :=
  OpenClaim.holds_of_wide 7 Try.f7 rfl rfl rfl rfl rfl rfl rfl ⟨rfl, rfl, rfl, rfl, rfl⟩ rfl rfl rfl rfl rfl (by kernel_rfl) Try.func7 (by kernel_rfl)
    (of_decide_eq_true (by kernel_rfl)) (by unfold Func.isWrapper; rw [if_neg (by decide +kernel)]; exact ⟨rfl, rfl⟩)
    (fun os started H enc _ => full_lifted os started H enc)

#print axioms ringFull_holds
end Go.Proofs.Ytnkoahcneocgiaa
