/- The document's own page tables (package taffrailref02): Map, walked, over the same plain machine. -/
import Derived.Test.YtkcoeibbmfkjlaaRef2Walk
namespace Go.Proofs.Ytkcoeibbmfkjlaa
open Go.RowKit

section
variable {w : World} {q gb gr n root : Nat} {S : PtS}

set_option maxRecDepth 100000 in
set_option maxHeartbeats 2000000 in
theorem rmap_arg (hm : S.rat w q gb gr n) (h : S.ok n root) (page frame flags : Int) (hp : belowB 256 page = false) :
    Calls Try.prog 15 #[.pointer (some ⟨q, 0, none⟩), .int .i64 root, .int .i64 page, .int .i64 frame, .int .i64 flags] w fun e w' => e = .returned (.int .i64 2) ∧ Below w.heap.size w w' := by
  have HL := Lib.hid (Rep.live h)
  have HP := Lib.hid hp; clear hp
  go_enter Try.func15, Try.ntmps15
  go_wp2_with fail
  refine (rright_arg hm _ _ HL.out HP.out).mono ?_
  rintro e w' ⟨rfl, rfl⟩
  go_wp2
  go_ret
  exact ⟨rfl, Below.refl _ _⟩

set_option maxRecDepth 100000 in
set_option maxHeartbeats 2000000 in
theorem rmap_bad (hm : S.rat w q gb gr n) (h : S.ok n root) (page frame flags : Int) (hp : belowB 256 page = true) (hb : belowB 256 frame = false ∨ (belowB 256 frame = true ∧ flagB flags = false)) :
    Calls Try.prog 15 #[.pointer (some ⟨q, 0, none⟩), .int .i64 root, .int .i64 page, .int .i64 frame, .int .i64 flags] w fun e w' => e = .returned (.int .i64 2) ∧ Below w.heap.size w w' := by
  have HL := Lib.hid (Rep.live h)
  have HP := Lib.hid hp; clear hp
  have hb' : frame < 0 ∨ (¬ frame < 0 ∧ 255 < frame) ∨ (¬ frame < 0 ∧ frame ≤ 255 ∧ flagB flags = false) := by
    simp only [belowB, decide_eq_false_iff_not, decide_eq_true_eq] at hb
    rcases hb with hb | ⟨hb, hl⟩
    · omega
    · exact .inr (.inr ⟨by omega, by omega, hl⟩)
  clear hb
  rcases hb' with h1 | ⟨h1, h2⟩ | ⟨h1, h2, h3⟩
  · go_enter Try.func15, Try.ntmps15
    go_wp2_with fail
    refine (rright_ok hm _ _ HL.out HP.out).mono ?_
    rintro e w' ⟨rfl, rfl⟩
    go_wp2
    go_ret
    exact ⟨rfl, Below.refl _ _⟩
  · go_enter Try.func15, Try.ntmps15
    go_wp2_with fail
    refine (rright_ok hm _ _ HL.out HP.out).mono ?_
    rintro e w' ⟨rfl, rfl⟩
    go_wp2
    go_ret
    exact ⟨rfl, Below.refl _ _⟩
  · obtain ⟨f1, f3, f5, f7⟩ := flag_not h3
    clear h3
    have h2' : decide (255 < frame) = false := by simp; omega
    go_enter Try.func15, Try.ntmps15
    go_wp2_with fail
    refine (rright_ok hm _ _ HL.out HP.out).mono ?_
    rintro e w' ⟨rfl, rfl⟩
    go_wp2
    go_ret
    exact ⟨rfl, Below.refl _ _⟩

set_option maxRecDepth 100000 in
set_option maxHeartbeats 2000000 in
theorem rmap_there (hm : S.rat w q gb gr n) (h : S.ok n root) (pg i j frame fl : Nat) (hp : pg < 256) (hpi : (pg : Int) / 16 = i) (hpj : (pg : Int) % 16 = j) (hi : i < 16) (hj : j < 16) (hf : frame < 256) (hl : flagB fl = true) (hT : S.T i ≠ (0, 0)) (hE : S.E (16 * i + j) ≠ (0, 0)) :
    Calls Try.prog 15 #[.pointer (some ⟨q, 0, none⟩), .int .i64 root, .int .i64 pg, .int .i64 frame, .int .i64 fl] w fun e w' => e = .returned (.int .i64 20) ∧ Below w.heap.size w w' := by
  have HL := Lib.hid (Rep.live h)
  have HP : Hid (belowB 256 (pg : Int) = true) := by unfold Hid belowB; simp; omega
  have HI := Lib.hid hpi; have HJ := Lib.hid hpj; clear hpi hpj
  have HT := Lib.hid (Rep.hT h i hi)
  have hrr : 0 < S.R root := by rw [Rep.rR h]; omega
  have hrt := Rep.rt h
  have hfl := flag_natlt hl
  have hways := flag_ways hl
  have hn := Rep.hn h
  clear hl
  obtain ⟨t1, t2, t3, t4, _⟩ := Rep.tb h i hi hT
  have HE := Lib.hid (Rep.eT h i j hi hj hT)
  have hf1 : (((S.E (16 * i + j)).1 : Int) != 0) = true := by
    rw [bne_iff_ne]
    intro c
    exact hE ((Rep.E1 h (by omega)).1 (by omega))
  have hf0 : (((S.T i).1 : Int) == 0) = false := by rw [beq_eq_false_iff_ne]; omega
  have ht4 : 0 < S.R (S.T i).2 := by omega
  clear t1 t3 t4 hT hE
  generalize S.T i = TT at *
  generalize S.E (16 * i + j) = EE at *
  have hf2 : (frame : Int) ≤ 255 := by omega
  rcases hways with c1 | ⟨c1, c3⟩ | ⟨c1, c3, c5⟩ | ⟨c1, c3, c5, c7⟩
  all_goals
    go_enter Try.func15, Try.ntmps15
    go_wp2_with fail
    refine (rright_ok hm _ _ HL.out HP.out).mono ?_
    rintro e w' ⟨rfl, rfl⟩
    go_wp2_with fail
    rw [HI.out]
    refine (rentry hm root i hrt hrr hi).mono ?_
    rintro e w2 ⟨rfl, hB2⟩
    rw [HT.out]
    have HM2 := Lib.hid (RefAt.below hm hB2)
    have HB2 := Lib.hid hB2; clear hB2
    go_wp2_with fail
    rw [HJ.out]
    refine (rentry HM2.out TT.2 j t2 ht4 hj).mono ?_
    rintro e w3 ⟨rfl, hB3⟩
    rw [HE.out]
    have HB3 := Lib.hid (below_step HB2.out hB3); clear hB3
    go_wp2
    go_ret
    exact ⟨rfl, HB3.out⟩

set_option maxRecDepth 100000 in
set_option maxHeartbeats 2000000 in
theorem rmap_put (hm : S.rat w q gb gr n) (h : S.ok n root) (pg i j frame fl : Nat) (hp : pg < 256) (hpi : (pg : Int) / 16 = i) (hpj : (pg : Int) % 16 = j) (hi : i < 16) (hj : j < 16) (hf : frame < 256) (hl : flagB fl = true) (hT : S.T i ≠ (0, 0)) (hE : S.E (16 * i + j) = (0, 0)) :
    Calls Try.prog 15 #[.pointer (some ⟨q, 0, none⟩), .int .i64 root, .int .i64 pg, .int .i64 frame, .int .i64 fl] w fun e w' => e = .returned (.int .i64 0) ∧ RefAt w' q gb gr n S.R (updB S.B (S.T i).2 (putBytes (S.B (S.T i).2) (4 * j) (entBytes (fl, frame)))) ∧ Two w w' gb gr := by
  have HL := Lib.hid (Rep.live h)
  have HP : Hid (belowB 256 (pg : Int) = true) := by unfold Hid belowB; simp; omega
  have HI := Lib.hid hpi; have HJ := Lib.hid hpj; clear hpi hpj
  have HT := Lib.hid (Rep.hT h i hi)
  have hrr : 0 < S.R root := by rw [Rep.rR h]; omega
  have hrt := Rep.rt h
  have hfl := flag_natlt hl
  have hways := flag_ways hl
  have hn := Rep.hn h
  clear hl
  obtain ⟨t1, t2, t3, t4, _⟩ := Rep.tb h i hi hT
  have HE := Lib.hid ((Rep.eT h i j hi hj hT).trans hE)
  have hf0 : (((S.T i).1 : Int) == 0) = false := by rw [beq_eq_false_iff_ne]; omega
  have ht4 : 0 < S.R (S.T i).2 := by omega
  clear t1 t3 t4 hT hE
  generalize S.T i = TT at *
  have hf2 : (frame : Int) ≤ 255 := by omega
  rcases hways with c1 | ⟨c1, c3⟩ | ⟨c1, c3, c5⟩ | ⟨c1, c3, c5, c7⟩
  all_goals
    go_enter Try.func15, Try.ntmps15
    go_wp2_with fail
    refine (rright_ok hm _ _ HL.out HP.out).mono ?_
    rintro e w' ⟨rfl, rfl⟩
    go_wp2_with fail
    rw [HI.out]
    refine (rentry hm root i hrt hrr hi).mono ?_
    rintro e w2 ⟨rfl, hB2⟩
    rw [HT.out]
    have HM2 := Lib.hid (RefAt.below hm hB2)
    have HB2 := Lib.hid hB2; clear hB2
    go_wp2_with fail
    rw [HJ.out]
    refine (rentry HM2.out TT.2 j t2 ht4 hj).mono ?_
    rintro e w3 ⟨rfl, hB3⟩
    rw [HE.out]
    have HM3 := Lib.hid (RefAt.below HM2.out hB3)
    have HB3 := Lib.hid (below_step HB2.out hB3); clear hB3
    go_wp2_with fail
    rw [HJ.out]
    refine (rset HM3.out TT.2 j fl frame t2 ht4 hj (by omega) (by omega)).mono ?_
    rintro e w4 ⟨rfl, hR4, hG4⟩
    have HR4 := Lib.hid hR4
    have HT4 := Lib.hid ((Two.of_below gb gr HB3.out).trans (Two.of_left hG4))
    clear hR4 hG4
    go_wp2
    go_ret
    exact ⟨rfl, HR4.out, HT4.out⟩

set_option maxRecDepth 100000 in
set_option maxHeartbeats 2000000 in
theorem rmap_full (hm : S.rat w q gb gr n) (h : S.ok n root) (pg i j frame fl : Nat) (hp : pg < 256) (hpi : (pg : Int) / 16 = i) (hpj : (pg : Int) % 16 = j) (hi : i < 16) (hf : frame < 256) (hl : flagB fl = true) (hT : S.T i = (0, 0)) (ha : allocF n S.R = none) :
    Calls Try.prog 15 #[.pointer (some ⟨q, 0, none⟩), .int .i64 root, .int .i64 pg, .int .i64 frame, .int .i64 fl] w fun e w' => e = .returned (.int .i64 11) ∧ RefAt w' q gb gr n S.R S.B ∧ Two w w' gb gr := by
  have HL := Lib.hid (Rep.live h)
  have HP : Hid (belowB 256 (pg : Int) = true) := by unfold Hid belowB; simp; omega
  have HI := Lib.hid hpi; have HJ := Lib.hid hpj; clear hpi hpj
  have HT := Lib.hid ((Rep.hT h i hi).trans hT)
  have hrr : 0 < S.R root := by rw [Rep.rR h]; omega
  have hrt := Rep.rt h
  have hfl := flag_natlt hl
  have hways := flag_ways hl
  have hn := Rep.hn h
  clear hl
  have HAL : Hid (∀ W, RefAt W q gb gr n S.R S.B → Calls Try.prog 30 #[.pointer (some ⟨q, 0, none⟩)] W fun e w' => e = .returned (.tuple #[.int .i64 0, .int .i64 11]) ∧ RefAt w' q gb gr n S.R S.B ∧ Two W w' gb gr) := by
    intro W hW
    refine (ralloc hW).mono ?_
    rintro e W' ⟨rfl, hM, hG⟩
    simp only [allocN, allocE, allocR, allocB, ha, Option.isSome_none, Bool.false_eq_true, if_false, Option.getD_none] at hM ⊢
    exact ⟨rfl, hM, hG⟩
  clear hT ha HJ
  have hf2 : (frame : Int) ≤ 255 := by omega
  rcases hways with c1 | ⟨c1, c3⟩ | ⟨c1, c3, c5⟩ | ⟨c1, c3, c5, c7⟩
  all_goals
    go_enter Try.func15, Try.ntmps15
    go_wp2_with fail
    refine (rright_ok hm _ _ HL.out HP.out).mono ?_
    rintro e w' ⟨rfl, rfl⟩
    go_wp2_with fail
    rw [HI.out]
    refine (rentry hm root i hrt hrr hi).mono ?_
    rintro e w2 ⟨rfl, hB2⟩
    rw [HT.out]
    have HM2 := Lib.hid (RefAt.below hm hB2)
    have HB2 := Lib.hid hB2; clear hB2
    go_wp2_with fail
    refine (HAL.out _ HM2.out).mono ?_
    rintro e w3 ⟨rfl, hR3, hT3⟩
    have HR3 := Lib.hid hR3
    have HT3 := Lib.hid ((Two.of_below gb gr HB2.out).trans hT3)
    clear hR3 hT3
    go_wp2
    go_ret
    exact ⟨rfl, HR3.out, HT3.out⟩

set_option maxRecDepth 100000 in
set_option maxHeartbeats 2000000 in
theorem rmap_add (hm : S.rat w q gb gr n) (h : S.ok n root) (pg i j frame fl t : Nat) (hp : pg < 256) (hpi : (pg : Int) / 16 = i) (hpj : (pg : Int) % 16 = j) (hi : i < 16) (hj : j < 16) (hf : frame < 256) (hl : flagB fl = true) (hT : S.T i = (0, 0)) (ha : allocF n S.R = some t) :
    Calls Try.prog 15 #[.pointer (some ⟨q, 0, none⟩), .int .i64 root, .int .i64 pg, .int .i64 frame, .int .i64 fl] w fun e w' => e = .returned (.int .i64 0) ∧ RefAt w' q gb gr n (updR S.R t 1) (updB (updB (updB S.B t zeroPage) root (putBytes (S.B root) (4 * i) (entBytes (1, t)))) t (putBytes zeroPage (4 * j) (entBytes (fl, frame)))) ∧ Two w w' gb gr := by
  have HL := Lib.hid (Rep.live h)
  have HP : Hid (belowB 256 (pg : Int) = true) := by unfold Hid belowB; simp; omega
  have HI := Lib.hid hpi; have HJ := Lib.hid hpj; clear hpi hpj
  have HT := Lib.hid ((Rep.hT h i hi).trans hT)
  have hrr : 0 < S.R root := by rw [Rep.rR h]; omega
  have hrt := Rep.rt h
  have hfl := flag_natlt hl
  have hways := flag_ways hl
  have hn := Rep.hn h
  clear hl
  obtain ⟨a1, a2, a3⟩ := allocF_inv ha
  have htr : t ≠ root := fun e => by subst e; omega
  have HAL : Hid (∀ W, RefAt W q gb gr n S.R S.B → Calls Try.prog 30 #[.pointer (some ⟨q, 0, none⟩)] W fun e w' => e = .returned (.tuple #[.int .i64 t, .int .i64 0]) ∧ RefAt w' q gb gr n (updR S.R t 1) (updB S.B t zeroPage) ∧ Two W w' gb gr) := by
    intro W hW
    refine (ralloc hW).mono ?_
    rintro e W' ⟨rfl, hM, hG⟩
    simp only [allocN, allocE, allocR, allocB, ha, Option.isSome_some, if_true, Option.getD_some] at hM ⊢
    exact ⟨trivial, hM, hG⟩
  have HRR : Hid (0 < updR S.R t 1 root) := by unfold Hid; rw [updR_other _ _ (Ne.symm htr)]; exact hrr
  have HRT : Hid (0 < updR S.R t 1 t) := by unfold Hid; simp
  have HBR : Hid (updB S.B t zeroPage root = S.B root) := updB_other _ _ (Ne.symm htr)
  have HBT : Hid (updB (updB S.B t zeroPage) root (putBytes (S.B root) (4 * i) (entBytes (1, t))) t = zeroPage) := by unfold Hid; rw [updB_other _ _ htr, updB_same]
  clear hT ha a2 a3 htr
  have hf2 : (frame : Int) ≤ 255 := by omega
  rcases hways with c1 | ⟨c1, c3⟩ | ⟨c1, c3, c5⟩ | ⟨c1, c3, c5, c7⟩
  all_goals
    go_enter Try.func15, Try.ntmps15
    go_wp2_with fail
    refine (rright_ok hm _ _ HL.out HP.out).mono ?_
    rintro e w' ⟨rfl, rfl⟩
    go_wp2_with fail
    rw [HI.out]
    refine (rentry hm root i hrt hrr hi).mono ?_
    rintro e w2 ⟨rfl, hB2⟩
    rw [HT.out]
    have HM2 := Lib.hid (RefAt.below hm hB2)
    have HB2 := Lib.hid hB2; clear hB2
    go_wp2_with fail
    refine (HAL.out _ HM2.out).mono ?_
    rintro e w3 ⟨rfl, hR3, hT3⟩
    have HR3 := Lib.hid hR3
    have HT3 := Lib.hid ((Two.of_below gb gr HB2.out).trans hT3)
    clear hR3 hT3
    go_wp2_with fail
    rw [HI.out]
    refine (rset HR3.out root i 1 t hrt HRR.out hi (by omega) (by omega)).mono ?_
    rintro e w4 ⟨rfl, hR4, hG4⟩
    rw [HBR.out] at hR4
    have HR4 := Lib.hid hR4
    have HT4 := Lib.hid (HT3.out.trans (Two.of_left hG4))
    clear hR4 hG4
    go_wp2_with fail
    rw [HJ.out]
    refine (rentry HR4.out t j a1 HRT.out hj).mono ?_
    rintro e w5 ⟨rfl, hB5⟩
    rw [HBT.out, ent_zero]
    have HR5 := Lib.hid (RefAt.below HR4.out hB5)
    have HT5 := Lib.hid (HT4.out.trans (Two.of_below gb gr hB5)); clear hB5
    go_wp2_with fail
    rw [HJ.out]
    refine (rset HR5.out t j fl frame a1 HRT.out hj (by omega) (by omega)).mono ?_
    rintro e w6 ⟨rfl, hR6, hG6⟩
    rw [HBT.out] at hR6
    have HR6 := Lib.hid hR6
    have HT6 := Lib.hid (HT5.out.trans (Two.of_left hG6))
    clear hR6 hG6
    go_wp2
    go_ret
    exact ⟨rfl, HR6.out, HT6.out⟩

theorem rmap (hm : S.rat w q gb gr n) (h : S.ok n root) (page frame flags : Int) :
    Calls Try.prog 15 #[.pointer (some ⟨q, 0, none⟩), .int .i64 root, .int .i64 page, .int .i64 frame, .int .i64 flags] w fun e w' => e = .returned (.int .i64 (mapS n root S page frame flags).1) ∧ (mapS n root S page frame flags).2.rat w' q gb gr n ∧ Two w w' gb gr := by
  have kp : ∀ {w' : World}, Below w.heap.size w w' → S.rat w' q gb gr n ∧ Two w w' gb gr := fun hb => ⟨RefAt.below hm hb, Two.of_below _ _ hb⟩
  unfold mapS
  split
  case isFalse =>
    rename_i hp
    refine (rmap_arg hm h page frame flags (by simpa using hp)).mono ?_
    rintro r w' ⟨rfl, hb⟩
    exact ⟨rfl, kp hb⟩
  rename_i hp
  split
  case isFalse =>
    rename_i hf
    refine (rmap_bad hm h page frame flags hp (.inl (by simpa using hf))).mono ?_
    rintro r w' ⟨rfl, hb⟩
    exact ⟨rfl, kp hb⟩
  rename_i hf
  split
  case isFalse =>
    rename_i hl
    refine (rmap_bad hm h page frame flags hp (.inr ⟨hf, by simpa using hl⟩)).mono ?_
    rintro r w' ⟨rfl, hb⟩
    exact ⟨rfl, kp hb⟩
  rename_i hl
  obtain ⟨pg, rfl, hpg⟩ := below_nat hp
  have hf' := below_toNat hf
  have hl' := flag_nat hl
  simp only [Int.toNat_natCast]
  have hd : 16 * (pg / 16) + pg % 16 = pg := by omega
  obtain ⟨fr, rfl⟩ : ∃ fr : Nat, frame = fr := ⟨frame.toNat, by omega⟩
  obtain ⟨fl, rfl⟩ : ∃ fl : Nat, flags = fl := ⟨flags.toNat, hl'.symm⟩
  simp only [Int.toNat_natCast]
  split
  case isFalse =>
    rename_i hE
    refine (rmap_there hm h pg (pg / 16) (pg % 16) fr fl hpg (by omega) (by omega) (by omega) (by omega) (by omega) hl (E_T h hpg hE) (by rw [hd]; exact hE)).mono ?_
    rintro r w' ⟨rfl, hb⟩
    exact ⟨rfl, kp hb⟩
  rename_i hE
  split
  · rename_i hT
    split
    · rename_i ha
      exact rmap_full hm h pg (pg / 16) (pg % 16) fr fl hpg (by omega) (by omega) (by omega) (by omega) hl hT ha
    · rename_i t ha
      exact rmap_add hm h pg (pg / 16) (pg % 16) fr fl t hpg (by omega) (by omega) (by omega) (by omega) (by omega) hl hT ha
  · rename_i hT
    exact rmap_put hm h pg (pg / 16) (pg % 16) fr fl hpg (by omega) (by omega) (by omega) (by omega) (by omega) hl hT (by rw [hd]; exact hE)

end
end Go.Proofs.Ytkcoeibbmfkjlaa
