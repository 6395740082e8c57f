/- RingParts: for every size, text and two numbers the law answers true: got in two parts is got at once. No conditions. -/
import Derived.Test.YtnkoahcneocgiaaRiShown
import Derived.Test.YtnkoahcneocgiaaLaw
import Derived.Test.YtnkoahcneocgiaaArgs
import Derived.Laws.Concat
namespace Go.Proofs.Ytnkoahcneocgiaa
open Go.RowKit Go.ChangeShapes Go.WideShapes Go.ChangeAt Go.Lib
open Go.ChangeMaps (open_string)

theorem cat_bytes (a b : List UInt8) : (⟨a.toArray⟩ : ByteArray) ++ ⟨b.toArray⟩ = ⟨(a ++ b).toArray⟩ := by
  apply ByteArray.ext
  simp [ByteArray.data_append]
theorem size_bytes (a : List UInt8) : (⟨a.toArray⟩ : ByteArray).size = a.length := by simp [ByteArray.size]

set_option maxRecDepth 100000 in
set_option maxHeartbeats 4000000 in
theorem parts_walk (k : Int) (s : ByteArray) (n m : Int) (w : World) (hs : s.size ≤ maxLen) :
    Calls Try.prog 6 #[.int .i64 k, .string s, .int .i64 n, .int .i64 m] w fun e w' => e = .returned (.bool true) ∧ Below w.heap.size w w' := by
  have S := shown8 w
  by_cases hn : k < 1 ∨ 64 < k ∨ n < 0 ∨ m < 0 ∨ 100 < n ∨ 100 < m
  · have hn' : k < 1 ∨ (¬ k < 1 ∧ 64 < k) ∨ (¬ k < 1 ∧ ¬ 64 < k ∧ n < 0) ∨ (¬ k < 1 ∧ ¬ 64 < k ∧ ¬ n < 0 ∧ m < 0) ∨ (¬ k < 1 ∧ ¬ 64 < k ∧ ¬ n < 0 ∧ ¬ m < 0 ∧ 100 < n) ∨ (¬ k < 1 ∧ ¬ 64 < k ∧ ¬ n < 0 ∧ ¬ m < 0 ∧ ¬ 100 < n ∧ 100 < m) := by omega
    clear hn
    go_enter Try.func6, Try.ntmps6
    rcases hn' with h1 | ⟨h1, h2⟩ | ⟨h1, h2, h3⟩ | ⟨h1, h2, h3, h4⟩ | ⟨h1, h2, h3, h4, h5⟩ | ⟨h1, h2, h3, h4, h5, h6⟩
    all_goals
      go_wp2_with (go_at_call 9; refine S.mono ?_; clear S; rintro e w0 ⟨rfl, hB0⟩)
      go_ret
      exact ⟨rfl, hB0⟩
  · obtain ⟨K, rfl⟩ : ∃ K : Nat, k = (K : Int) := ⟨k.toNat, by omega⟩
    obtain ⟨a, rfl⟩ : ∃ a : Nat, n = (a : Int) := ⟨n.toNat, by omega⟩
    obtain ⟨b, rfl⟩ : ∃ b : Nat, m = (b : Int) := ⟨m.toNat, by omega⟩
    have hK1 : 1 ≤ K := by omega
    have hK : K ≤ 64 := by omega
    have ha : a ≤ 100 := by omega
    have hb : b ≤ 100 := by omega
    have h1 : ¬ ((K : Int) < 1) := by omega
    have h2 : ¬ (64 < (K : Int)) := by omega
    have h3 : ¬ ((a : Int) < 0) := by omega
    have h4 : ¬ ((b : Int) < 0) := by omega
    have h5 : ¬ (100 < (a : Int)) := by omega
    have h6 : ¬ (100 < (b : Int)) := by omega
    have TX := fun w => text8 s hs w
    have hT : (textS8 s).size ≤ 100 := by rw [textS8_size]; omega
    generalize textS8 s = T at *
    have HT : Hid (T.size ≤ 140737488355328) := by unfold Hid; omega
    obtain ⟨L, hL⟩ : ∃ L, T.data.toList.take K = L := ⟨_, rfl⟩
    have HL := Lib.hid hL
    have hLl : L.length ≤ K := by rw [← hL, List.length_take]; omega
    have hE : (([] : List UInt8) ++ (⟨#[49, 50]⟩ : ByteArray).data.toList.take (K - ([] : List UInt8).length)).drop 2 = [] := List.drop_eq_nil_of_le (by simp; omega)
    have HE := Lib.hid hE
    have hXY : (⟨(L.take a).toArray⟩ : ByteArray) ++ ⟨((L.drop a).take b).toArray⟩ = ⟨(L.take (a + b)).toArray⟩ := by rw [cat_bytes, List.take_add]
    have hDD : (⟨((L.drop a).drop b).toArray⟩ : ByteArray) = ⟨(L.drop (a + b)).toArray⟩ := by rw [List.drop_drop]
    have hadd : ∀ W, (Op.stringOp .add (⟨(L.take a).toArray⟩ : ByteArray) ⟨((L.drop a).take b).toArray⟩).run Try.prog W = .ok (.string ⟨(L.take (a + b)).toArray⟩) W := fun W => by
      rw [run_string_add_sum W _ _ (by rw [size_bytes, size_bytes, List.length_take, List.length_take, List.length_drop]; omega), hXY]
    have GA : ∀ W q, Rg W q K L → Calls Try.prog 14 #[.pointer (some ⟨q, 0, none⟩), .int .i64 (a : Int)] W fun e w' => e = .returned (.tuple #[.string ⟨(L.take a).toArray⟩, .int .i64 0]) ∧ Rg w' q K (L.drop a) ∧ Tur q W w' := fun W q h => rget h a (by omega)
    have GB : ∀ W q, Rg W q K (L.drop a) → Calls Try.prog 14 #[.pointer (some ⟨q, 0, none⟩), .int .i64 (b : Int)] W fun e w' => e = .returned (.tuple #[.string ⟨((L.drop a).take b).toArray⟩, .int .i64 0]) ∧ Rg w' q K ((L.drop a).drop b) ∧ Tur q W w' := fun W q h => rget h b (by omega)
    have GC : ∀ W q, Rg W q K L → Calls Try.prog 14 #[.pointer (some ⟨q, 0, none⟩), .int .i64 ((a : Int) + (b : Int))] W fun e w' => e = .returned (.tuple #[.string ⟨(L.take (a + b)).toArray⟩, .int .i64 0]) ∧ Rg w' q K (L.drop (a + b)) ∧ Tur q W w' := fun W q h => rget h (a + b) (by omega)
    have BA : ∀ W q, Rg W q K ((L.drop a).drop b) → Calls Try.prog 16 #[.pointer (some ⟨q, 0, none⟩)] W fun e w' => e = .returned (.string ⟨(L.drop (a + b)).toArray⟩) ∧ Below W.heap.size W w' := fun W q h => by have := rbytes h; rw [hDD] at this; exact this
    have BB : ∀ W q, Rg W q K (L.drop (a + b)) → Calls Try.prog 16 #[.pointer (some ⟨q, 0, none⟩)] W fun e w' => e = .returned (.string ⟨(L.drop (a + b)).toArray⟩) ∧ Below W.heap.size W w' := fun W q h => rbytes h
    have PE : ∀ W q, Rg W q K [] → Calls Try.prog 11 #[.pointer (some ⟨q, 0, none⟩), .string T] W fun e w' => (∃ x, e = .returned (.tuple #[.int .i64 x, .int .i64 0])) ∧ Rg w' q K L ∧ Tur q W w' := fun W q h => by
      refine (rput h T HT.out).mono ?_
      rintro e w' ⟨rfl, h1, h2⟩
      rw [List.nil_append, List.length_nil, Nat.sub_zero, HL.out] at h1
      exact ⟨⟨_, rfl⟩, h1, h2⟩
    have PI : ∀ W q, Rg W q K [] → Calls Try.prog 11 #[.pointer (some ⟨q, 0, none⟩), .string ⟨#[49, 50]⟩] W fun e w' => (∃ x, e = .returned (.tuple #[.int .i64 x, .int .i64 0])) ∧ Rg w' q K (([] : List UInt8) ++ (⟨#[49, 50]⟩ : ByteArray).data.toList.take (K - ([] : List UInt8).length)) ∧ Tur q W w' := fun W q h => by
      refine (rput h ⟨#[49, 50]⟩ (by decide)).mono ?_
      rintro e w' ⟨rfl, h1, h2⟩
      exact ⟨⟨_, rfl⟩, h1, h2⟩
    have PG : ∀ W q, Rg W q K (([] : List UInt8) ++ (⟨#[49, 50]⟩ : ByteArray).data.toList.take (K - ([] : List UInt8).length)) → Calls Try.prog 14 #[.pointer (some ⟨q, 0, none⟩), .int .i64 2] W fun e w' => (∃ x, e = .returned (.tuple #[.string x, .int .i64 0])) ∧ Rg w' q K [] ∧ Tur q W w' := fun W q h => by
      refine (rget h 2 (by omega)).mono ?_
      rintro e w' ⟨rfl, h1, h2⟩
      rw [HE.out] at h1
      exact ⟨⟨_, rfl⟩, h1, h2⟩
    have HGA := Lib.hid GA; have HGB := Lib.hid GB; have HGC := Lib.hid GC; have HBA := Lib.hid BA; have HBB := Lib.hid BB; have HPE := Lib.hid PE; have HPI := Lib.hid PI; have HPG := Lib.hid PG
    clear hn hT hs hL hE hXY hDD GA GB GC BA BB PE PI PG
    go_enter Try.func6, Try.ntmps6
    go_wp2_with (first
      | (go_at_call 9; refine S.mono ?_; clear S; rintro e w0 ⟨rfl, hB0⟩; have B0 := Lib.hid hB0; have NW := rnew K hK1 hK w0; clear hB0)
      | (go_at_call 10; refine NW.mono ?_; clear NW; rintro e w1 ⟨rfl, hq, hB⟩; have P1 := Lib.hid hq; have B1 := Lib.hid (B0.out.trans (hB.mono B0.out.size)); have hq0 := B0.out.size; have hq1 := hq.lt; have NW2 := rnew K hK1 hK w1; generalize w0.heap.size = p at *; clear hq hB)
      | (go_at_call 10; refine NW2.mono ?_; clear NW2; rintro e w2 ⟨rfl, hq, hB⟩; have P2 := Lib.hid (P1.out.below' hB); have Q2 := Lib.hid hq; have B2 := Lib.hid (B1.out.trans (hB.mono B1.out.size)); have hpq := Nat.ne_of_lt hq1; have hq2 := B1.out.size; have HPQ := Lib.hid hpq; generalize w1.heap.size = q at *; clear hq hB P1 hpq)
      | (go_at_call 11; refine (HPI.out _ _ P2.out).mono ?_; rintro e w3 ⟨⟨x3, rfl⟩, hp, t⟩; have P3 := Lib.hid hp; have Q3 := Lib.hid (Q2.out.tur t (Ne.symm HPQ.out)); have B3 := Lib.hid (t.below B2.out hq0 B2.out.size); clear hp t P2 Q2)
      | (go_at_call 11; refine (HPI.out _ _ Q3.out).mono ?_; rintro e w4 ⟨⟨x4, rfl⟩, hp, t⟩; have Q4 := Lib.hid hp; have P4 := Lib.hid (P3.out.tur t HPQ.out); have B4 := Lib.hid (t.below B3.out hq2 B3.out.size); clear hp t P3 Q3)
      | (go_at_call 14; refine (HPG.out _ _ P4.out).mono ?_; rintro e w5 ⟨⟨x5, rfl⟩, hp, t⟩; have P5 := Lib.hid hp; have Q5 := Lib.hid (Q4.out.tur t (Ne.symm HPQ.out)); have B5 := Lib.hid (t.below B4.out hq0 B4.out.size); clear hp t P4 Q4)
      | (go_at_call 14; refine (HPG.out _ _ Q5.out).mono ?_; rintro e w6 ⟨⟨x6, rfl⟩, hp, t⟩; have Q6 := Lib.hid hp; have P6 := Lib.hid (P5.out.tur t HPQ.out); have B6 := Lib.hid (t.below B5.out hq2 B5.out.size); clear hp t P5 Q5)
      | (go_at_call 12; refine (TX _).mono ?_; rintro e wt ⟨rfl, rfl⟩)
      | (go_at_call 11; refine (HPE.out _ _ P6.out).mono ?_; rintro e w7 ⟨⟨x7, rfl⟩, hp, t⟩; have P7 := Lib.hid hp; have Q7 := Lib.hid (Q6.out.tur t (Ne.symm HPQ.out)); have B7 := Lib.hid (t.below B6.out hq0 B6.out.size); clear hp t P6 Q6)
      | (go_at_call 11; refine (HPE.out _ _ Q7.out).mono ?_; rintro e w8 ⟨⟨x8, rfl⟩, hp, t⟩; have Q8 := Lib.hid hp; have P8 := Lib.hid (P7.out.tur t HPQ.out); have B8 := Lib.hid (t.below B7.out hq2 B7.out.size); clear hp t P7 Q7)
      | (go_at_call 14; refine (HGA.out _ _ P8.out).mono ?_; rintro e w9 ⟨rfl, hp, t⟩; have P9 := Lib.hid hp; have Q9 := Lib.hid (Q8.out.tur t (Ne.symm HPQ.out)); have B9 := Lib.hid (t.below B8.out hq0 B8.out.size); clear hp t P8 Q8)
      | (go_at_call 14; refine (HGB.out _ _ P9.out).mono ?_; rintro e w10 ⟨rfl, hp, t⟩; have P10 := Lib.hid hp; have Q10 := Lib.hid (Q9.out.tur t (Ne.symm HPQ.out)); have B10 := Lib.hid (t.below B9.out hq0 B9.out.size); clear hp t P9 Q9)
      | (go_at_call 14; refine (HGC.out _ _ Q10.out).mono ?_; rintro e w11 ⟨rfl, hp, t⟩; have Q11 := Lib.hid hp; have P11 := Lib.hid (P10.out.tur t HPQ.out); have B11 := Lib.hid (t.below B10.out hq2 B10.out.size); clear hp t P10 Q10)
      | (go_at_call 16; refine (HBA.out _ _ P11.out).mono ?_; rintro e w12 ⟨rfl, hB⟩; have Q12 := Lib.hid (Q11.out.below' hB); have B12 := Lib.hid (B11.out.trans (hB.mono B11.out.size)); clear hB P11 Q11)
      | (go_at_call 16; refine (HBB.out _ _ Q12.out).mono ?_; rintro e w13 ⟨rfl, hB⟩; have B13 := Lib.hid (B12.out.trans (hB.mono B12.out.size)); clear hB Q12))
    go_ret
    exact ⟨rfl, B13.out⟩
set_option maxRecDepth 100000 in
theorem parts_lifted (os : Os) (started : os.Started) (H : Type) (enc : TypeId × Value → H) :
    ReturnsInHanded {} Try.checked os 6 .any (Rows.ringPartsSpec.pre6 enc Try.prog Try.f6 Rows.ringPartsRow.domain false) (Rows.ringPartsSpec.post enc Try.prog Try.f6 false true false false) := by
  refine returnsInHanded_of_change (C := Try.checked) own started (by kernel_rfl) Try.func6
    (ChangeSpec.witness6 (enc := enc) (C := Try.checked) false ⟨#[], #[.int .i64 0, .string ⟨#[]⟩, .int .i64 0, .int .i64 0], []⟩ 8 (by kernel_rfl) (by kernel_rfl) (by kernel_rfl) (by kernel_rfl)) ?_
  intro W base args ds gs before hval0 hW _ _
  have hval : ∀ (j : Nat) t v, Try.f6.params[j]? = some t → args[j]? = some v → Value.okWide Try.prog W .any base t v := hval0
  have hW' := hW
  obtain ⟨p, q, hA0, hV, rfl, hfz, hnd⟩ := hW
  have hA : DataW.TrodAll enc Try.prog W 0 (fun _ => true) true Try.f6.params.toList args.toList ds p := hA0
  rw [Try.params6] at hA hval
  obtain ⟨v0, vs0, d0, ds0, p0, q0, hargs, rfl, rfl, h0, r0⟩ := trodAll_cons hA
  obtain ⟨v1, vs1, d1, ds1, p1, q1, rfl, rfl, rfl, h1, r1⟩ := trodAll_cons r0
  obtain ⟨v2, vs2, d2, ds2, p2, q2, rfl, rfl, rfl, h2, r2⟩ := trodAll_cons r1
  obtain ⟨v3, vs3, d3, ds3, p3, q3, rfl, rfl, rfl, h3, r3⟩ := trodAll_cons r2
  obtain ⟨rfl, rfl, rfl⟩ := trodAll_nil r3
  obtain rfl : args = #[v0, v1, v2, v3] := by cases args; simp_all
  obtain ⟨x0, rfl, -, -, wf0⟩ := open_int Try.underlying3 (hval 0 3 v0 rfl rfl) h0
  obtain ⟨s1, rfl, -, -, hs1⟩ := open_string Try.underlying9 (hval 1 9 v1 rfl rfl) h1
  obtain ⟨x2, rfl, -, -, wf2⟩ := open_int Try.underlying3 (hval 2 3 v2 rfl rfl) h2
  obtain ⟨x3, rfl, -, -, wf3⟩ := open_int Try.underlying3 (hval 3 3 v3 rfl rfl) h3
  have hwalk : Calls Try.prog 6 #[.int .i64 x0, .string s1, .int .i64 x2, .int .i64 x3] W fun e w' => e = .returned (.bool true) ∧ Below W.heap.size W w' := parts_walk x0 s1 x2 x3 W hs1
  refine hwalk.mono fun e W' ⟨he, bel⟩ => ⟨_, he, ?_⟩
  exact law_post laidOut (of_decide_eq_true (by kernel_rfl)) rfl Try.underlying4 rfl hW' (fun ds' e => by subst e; rfl) bel

theorem ringParts_holds : Rows.RingPartsSaid :=
  OpenClaim.holds_of_wide 6 Try.f6 rfl rfl rfl rfl rfl rfl rfl ⟨rfl, rfl, rfl, rfl, rfl⟩ rfl rfl rfl rfl rfl (by kernel_rfl) Try.func6 (by kernel_rfl)
    (of_decide_eq_true (by kernel_rfl)) (by unfold Func.isWrapper; rw [if_neg (by decide +kernel)]; exact ⟨rfl, rfl⟩)
    (fun os started H enc _ => parts_lifted os started H enc)

#print axioms ringParts_holds
end Go.Proofs.Ytnkoahcneocgiaa
