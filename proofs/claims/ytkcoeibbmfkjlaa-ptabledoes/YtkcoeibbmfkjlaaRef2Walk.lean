/- The document's own page tables (package taffrailref02): New, Walk, Map, walked, over the same plain machine. -/
import Derived.Test.YtkcoeibbmfkjlaaRef2Base
namespace Go.Proofs.Ytkcoeibbmfkjlaa
open Go.RowKit

/-- the ways through a page's flags. -/
theorem flag_ways {f : Int} (h : flagB f = true) : (f != 1) = false ∨ ((f != 1) = true ∧ (f != 3) = false) ∨ ((f != 1) = true ∧ (f != 3) = true ∧ (f != 5) = false) ∨ ((f != 1) = true ∧ (f != 3) = true ∧ (f != 5) = true ∧ (f != 7) = false) := by
  simp only [flagB, decide_eq_true_eq] at h
  rcases h with rfl | rfl | rfl | rfl <;> simp
theorem flag_not {f : Int} (h : flagB f = false) : (f != 1) = true ∧ (f != 3) = true ∧ (f != 5) = true ∧ (f != 7) = true := by
  simp only [flagB, decide_eq_false_iff_not] at h
  simp
  omega

theorem Two.grownL {a b : World} {x y : Nat} (h : a.grownBy b (some x)) : Two a b x y := Two.of_left h

/-- the document's memory holds it. -/
def PtS.rat (w : World) (q gb gr n : Nat) (S : PtS) : Prop := RefAt w q gb gr n S.R S.B

section
variable {w : World} {q gb gr n root : Nat} {S : PtS}

set_option maxHeartbeats 400000 in
theorem rpnew (h : RefAt w q gb gr n (fun _ => 0) (fun _ => zeroPage)) :
    Calls Try.prog 13 #[.pointer (some ⟨q, 0, none⟩)] w fun e w' => e = .returned (.tuple #[.int .i64 0, .int .i64 0]) ∧ RefAt w' q gb gr n (updR (fun _ => 0) 0 1) (updB (fun _ => zeroPage) 0 zeroPage) ∧ Two w w' gb gr := by
  have h1 := h.h1
  have HF : Hid (allocF n (fun _ => 0) = some 0) := allocF_some (by omega) rfl (fun j hj => by omega)
  have HAL : Hid (Calls Try.prog 30 #[.pointer (some ⟨q, 0, none⟩)] w fun e w' => e = .returned (.tuple #[.int .i64 0, .int .i64 0]) ∧ RefAt w' q gb gr n (updR (fun _ => 0) 0 1) (updB (fun _ => zeroPage) 0 zeroPage) ∧ Two w w' gb gr) := by
    refine (ralloc h).mono ?_
    rintro e W' ⟨rfl, hM, hG⟩
    simp only [allocN, allocE, allocR, allocB, HF.out, Option.isSome_some, if_true, Option.getD_some] at hM ⊢
    exact ⟨rfl, hM, hG⟩
  go_enter Try.func13, Try.ntmps13
  go_wp2_with fail
  refine HAL.out.mono ?_
  rintro e w1 ⟨rfl, hM, hG⟩
  have HM := Lib.hid hM; have HG := Lib.hid hG
  clear hM hG
  go_wp2
  go_ret2
  exact ⟨rfl, HM.out, HG.out⟩

set_option maxRecDepth 100000 in
set_option maxHeartbeats 800000 in
theorem rwalk_arg (hm : S.rat w q gb gr n) (h : S.ok n root) (page : Int) (hp : belowB 256 page = false) :
    Calls Try.prog 17 #[.pointer (some ⟨q, 0, none⟩), .int .i64 root, .int .i64 page] w fun e w' => e = .returned (.tuple #[.int .i64 0, .int .i64 0, .int .i64 2]) ∧ Below w.heap.size w w' := by
  have HL := Lib.hid (Rep.live h)
  have HP := Lib.hid hp; clear hp
  go_enter Try.func17, Try.ntmps17
  go_wp2_with fail
  refine (rright_arg hm _ _ HL.out HP.out).mono ?_
  rintro e w' ⟨rfl, rfl⟩
  go_wp2
  exact bodyPost_ret (results_tmp3 rfl _ _ _) rfl ⟨rfl, Below.refl _ _⟩

set_option maxRecDepth 100000 in
set_option maxHeartbeats 800000 in
theorem rwalk_none (hm : S.rat w q gb gr n) (h : S.ok n root) (pg i : Nat) (hp : pg < 256) (hpi : (pg : Int) / 16 = i) (hi : i < 16) (hT : S.T i = (0, 0)) :
    Calls Try.prog 17 #[.pointer (some ⟨q, 0, none⟩), .int .i64 root, .int .i64 pg] w fun e w' => e = .returned (.tuple #[.int .i64 0, .int .i64 0, .int .i64 30]) ∧ Below w.heap.size w w' := by
  have HL := Lib.hid (Rep.live h)
  have HP : Hid (belowB 256 (pg : Int) = true) := by unfold Hid belowB; simp; omega
  have HI := Lib.hid hpi; clear hpi
  have HT := Lib.hid ((Rep.hT h i hi).trans hT); clear hT
  have hrr : 0 < S.R root := by rw [Rep.rR h]; omega
  have hrt := Rep.rt h
  go_enter Try.func17, Try.ntmps17
  go_wp2_with fail
  refine (rright_ok hm _ _ HL.out HP.out).mono ?_
  rintro e w' ⟨rfl, rfl⟩
  go_wp2_with fail
  rw [HI.out]
  refine (rentry hm root i hrt hrr hi).mono ?_
  rintro e w2 ⟨rfl, hB2⟩
  rw [HT.out]
  have HB2 := Lib.hid hB2; clear hB2
  go_wp2
  exact bodyPost_ret (results_tmp3 rfl _ _ _) rfl ⟨rfl, HB2.out⟩

set_option maxRecDepth 100000 in
set_option maxHeartbeats 800000 in
theorem rwalk_zero (hm : S.rat w q gb gr n) (h : S.ok n root) (pg i j : Nat) (hp : pg < 256) (hpi : (pg : Int) / 16 = i) (hpj : (pg : Int) % 16 = j) (hi : i < 16) (hj : j < 16) (hT : S.T i ≠ (0, 0)) (hE : S.E (16 * i + j) = (0, 0)) :
    Calls Try.prog 17 #[.pointer (some ⟨q, 0, none⟩), .int .i64 root, .int .i64 pg] w fun e w' => e = .returned (.tuple #[.int .i64 0, .int .i64 0, .int .i64 30]) ∧ Below w.heap.size w w' := by
  have HL := Lib.hid (Rep.live h)
  have HP : Hid (belowB 256 (pg : Int) = true) := by unfold Hid belowB; simp; omega
  have HI := Lib.hid hpi; have HJ := Lib.hid hpj; clear hpi hpj
  have HT := Lib.hid (Rep.hT h i hi)
  obtain ⟨t1, t2, t3, t4, _⟩ := Rep.tb h i hi hT
  have HE := Lib.hid ((Rep.eT h i j hi hj hT).trans hE); clear hE
  have hf0 : (((S.T i).1 : Int) == 0) = false := by rw [beq_eq_false_iff_ne]; omega
  have ht4 : 0 < S.R (S.T i).2 := by omega
  have hrr : 0 < S.R root := by rw [Rep.rR h]; omega
  have hrt := Rep.rt h
  clear t1 t3 t4 hT
  generalize hTT : S.T i = TT at *
  clear hTT
  go_enter Try.func17, Try.ntmps17
  go_wp2_with fail
  refine (rright_ok hm _ _ HL.out HP.out).mono ?_
  rintro e w' ⟨rfl, rfl⟩
  go_wp2_with fail
  rw [HI.out]
  refine (rentry hm root i hrt hrr hi).mono ?_
  rintro e w2 ⟨rfl, hB2⟩
  rw [HT.out]
  have HM2 := Lib.hid (RefAt.below hm hB2)
  have HB2 := Lib.hid hB2; clear hB2
  go_wp2_with fail
  rw [HJ.out]
  refine (rentry HM2.out TT.2 j t2 ht4 hj).mono ?_
  rintro e w3 ⟨rfl, hB3⟩
  rw [HE.out]
  have HB3 := Lib.hid (below_step HB2.out hB3); clear hB3
  go_wp2
  exact bodyPost_ret (results_tmp3 rfl _ _ _) rfl ⟨rfl, HB3.out⟩

set_option maxRecDepth 100000 in
set_option maxHeartbeats 800000 in
theorem rwalk_yes (hm : S.rat w q gb gr n) (h : S.ok n root) (pg i j : Nat) (hp : pg < 256) (hpi : (pg : Int) / 16 = i) (hpj : (pg : Int) % 16 = j) (hi : i < 16) (hj : j < 16) (hT : S.T i ≠ (0, 0)) (hE : S.E (16 * i + j) ≠ (0, 0)) :
    Calls Try.prog 17 #[.pointer (some ⟨q, 0, none⟩), .int .i64 root, .int .i64 pg] w fun e w' => e = .returned (.tuple #[.int .i64 (S.E (16 * i + j)).2, .int .i64 (S.E (16 * i + j)).1, .int .i64 0]) ∧ Below w.heap.size w w' := by
  have HL := Lib.hid (Rep.live h)
  have HP : Hid (belowB 256 (pg : Int) = true) := by unfold Hid belowB; simp; omega
  have HI := Lib.hid hpi; have HJ := Lib.hid hpj; clear hpi hpj
  have HT := Lib.hid (Rep.hT h i hi)
  obtain ⟨t1, t2, t3, t4, _⟩ := Rep.tb h i hi hT
  have HE := Lib.hid (Rep.eT h i j hi hj hT)
  have hf1 : (((S.E (16 * i + j)).1 : Int) == 0) = false := by
    rw [beq_eq_false_iff_ne]
    intro c
    exact hE ((Rep.E1 h (by omega)).1 (by omega))
  have hf0 : (((S.T i).1 : Int) == 0) = false := by rw [beq_eq_false_iff_ne]; omega
  have ht4 : 0 < S.R (S.T i).2 := by omega
  have hrr : 0 < S.R root := by rw [Rep.rR h]; omega
  have hrt := Rep.rt h
  clear t1 t3 t4 hT hE
  generalize S.T i = TT at *
  generalize S.E (16 * i + j) = EE at *
  go_enter Try.func17, Try.ntmps17
  go_wp2_with fail
  refine (rright_ok hm _ _ HL.out HP.out).mono ?_
  rintro e w' ⟨rfl, rfl⟩
  go_wp2_with fail
  rw [HI.out]
  refine (rentry hm root i hrt hrr hi).mono ?_
  rintro e w2 ⟨rfl, hB2⟩
  rw [HT.out]
  have HM2 := Lib.hid (RefAt.below hm hB2)
  have HB2 := Lib.hid hB2; clear hB2
  go_wp2_with fail
  rw [HJ.out]
  refine (rentry HM2.out TT.2 j t2 ht4 hj).mono ?_
  rintro e w3 ⟨rfl, hB3⟩
  rw [HE.out]
  have HB3 := Lib.hid (below_step HB2.out hB3); clear hB3
  go_wp2
  exact bodyPost_ret (results_tmp3 rfl _ _ _) rfl ⟨rfl, HB3.out⟩

theorem rwalk (hm : S.rat w q gb gr n) (h : S.ok n root) (page : Int) :
    Calls Try.prog 17 #[.pointer (some ⟨q, 0, none⟩), .int .i64 root, .int .i64 page] w fun e w' => e = .returned (.tuple #[.int .i64 (wkT S.E page), .int .i64 (wkF S.E page), .int .i64 (wkE S.E page)]) ∧ Below w.heap.size w w' := by
  unfold wkT wkF wkE
  cases hp : belowB 256 page with
  | false => exact rwalk_arg hm h page hp
  | true =>
    obtain ⟨pg, rfl, hpg⟩ := below_nat hp
    rw [Int.toNat_natCast]
    have hd : 16 * (pg / 16) + pg % 16 = pg := by omega
    by_cases hE : S.E pg = (0, 0)
    · rw [if_pos rfl, if_pos rfl, if_pos rfl, if_pos hE, hE]
      by_cases hT : S.T (pg / 16) = (0, 0)
      · exact rwalk_none hm h pg (pg / 16) hpg (by omega) (by omega) hT
      · exact rwalk_zero hm h pg (pg / 16) (pg % 16) hpg (by omega) (by omega) (by omega) (by omega) hT (by rw [hd]; exact hE)
    · rw [if_pos rfl, if_pos rfl, if_pos rfl, if_neg hE]
      have := rwalk_yes hm h pg (pg / 16) (pg % 16) hpg (by omega) (by omega) (by omega) (by omega) (E_T h hpg hE) (by rw [hd]; exact hE)
      rw [hd] at this
      exact this

end
end Go.Proofs.Ytkcoeibbmfkjlaa
