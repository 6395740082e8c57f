/- The document's own page tables (package taffrailref02): Unmap, Pages, Drop, walked, over the same plain machine. -/
import Derived.Test.YtkcoeibbmfkjlaaRef2Map
namespace Go.Proofs.Ytkcoeibbmfkjlaa
open Go.RowKit

section
variable {w : World} {q gb gr n root : Nat} {S : PtS}

set_option maxRecDepth 100000 in
set_option maxHeartbeats 1000000 in
theorem runmap_err (hm : S.rat w q gb gr n) (h : S.ok n root) (page : Int) (he : wkE S.E page ≠ 0) :
    Calls Try.prog 19 #[.pointer (some ⟨q, 0, none⟩), .int .i64 root, .int .i64 page] w fun e w' => e = .returned (.tuple #[.int .i64 0, .int .i64 (wkE S.E page)]) ∧ Below w.heap.size w w' := by
  have he1 : (wkE S.E page != 0) = true := by simpa using he
  clear he
  have HW := Lib.hid (rwalk hm h page)
  generalize wkE S.E page = E1 at *
  generalize wkT S.E page = T1 at *
  generalize wkF S.E page = F1 at *
  go_enter Try.func19, Try.ntmps19
  go_wp2_with fail
  refine HW.out.mono ?_
  rintro e w1 ⟨rfl, hB1⟩
  have HB1 := Lib.hid hB1; clear hB1
  go_wp2
  go_ret2
  exact ⟨rfl, HB1.out⟩

/-- a page is unmapped, and its table is freed where no entry is left. -/
def UnRes (w' : World) (q gb gr n root i : Nat) (S : PtS) (t : Nat) (PB : List UInt8) : Prop :=
  ((∃ x, x < 16 ∧ (ent PB x).1 ≠ 0) ∧ RefAt w' q gb gr n S.R (updB S.B t PB)) ∨ ((∀ x, x < 16 → (ent PB x).1 = 0) ∧ RefAt w' q gb gr n (updR S.R t 0) (updB (updB S.B t PB) root (putBytes (S.B root) (4 * i) (entBytes (0, 0)))))

set_option maxRecDepth 100000 in
set_option maxHeartbeats 2000000 in
theorem runmap_yes (hm : S.rat w q gb gr n) (h : S.ok n root) (pg i j : Nat) (hp : pg < 256) (hpi : (pg : Int) / 16 = i) (hpj : (pg : Int) % 16 = j) (hi : i < 16) (hj : j < 16) (hd : 16 * i + j = pg) (hE : S.E pg ≠ (0, 0)) :
    Calls Try.prog 19 #[.pointer (some ⟨q, 0, none⟩), .int .i64 root, .int .i64 pg] w fun e w' => e = .returned (.tuple #[.int .i64 (S.E pg).2, .int .i64 0]) ∧
      UnRes w' q gb gr n root i S (S.T i).2 (putBytes (S.B (S.T i).2) (4 * j) (entBytes (0, 0))) ∧ Two w w' gb gr := by
  have hW := rwalk hm h pg
  have hT : S.T i ≠ (0, 0) := by
    have := E_T h hp hE
    rwa [show pg / 16 = i from by omega] at this
  have hwk : wkT S.E pg = (S.E pg).2 ∧ wkF S.E pg = (S.E pg).1 ∧ wkE S.E pg = 0 := by
    have hb : belowB 256 (pg : Int) = true := by unfold belowB; simp; omega
    unfold wkT wkF wkE
    rw [hb, Int.toNat_natCast, if_pos rfl, if_pos rfl, if_pos rfl, if_neg hE]
    exact ⟨rfl, rfl, rfl⟩
  rw [hwk.1, hwk.2.1, hwk.2.2] at hW
  have HW := Lib.hid hW
  have HI := Lib.hid hpi; have HJ := Lib.hid hpj
  have HT := Lib.hid (Rep.hT h i hi)
  obtain ⟨t1, t2, t3, t4, _⟩ := Rep.tb h i hi hT
  have ht4 : 0 < S.R (S.T i).2 := by omega
  have hrr : 0 < S.R root := by rw [Rep.rR h]; omega
  have hrt := Rep.rt h
  have HFE : Hid (freeR n S.R (S.T i).2 = updR S.R (S.T i).2 0) := by
    have hl : liveB n S.R ((S.T i).2 : Int) = true := live_of t2 ht4
    unfold Hid freeR
    rw [hl, if_pos rfl, Int.toNat_natCast, t4]
    rfl
  have HRR : Hid (0 < updR S.R (S.T i).2 0 root) := by unfold Hid; rw [updR_other _ _ (Ne.symm t3)]; exact hrr
  have HBR : Hid (updB S.B (S.T i).2 (putBytes (S.B (S.T i).2) (4 * j) (entBytes (0, 0))) root = S.B root) := updB_other _ _ (Ne.symm t3)
  have HBS : Hid (updB S.B (S.T i).2 (putBytes (S.B (S.T i).2) (4 * j) (entBytes (0, 0))) (S.T i).2 = putBytes (S.B (S.T i).2) (4 * j) (entBytes (0, 0))) := updB_same _ _ _
  clear hW hwk hpi hpj t1 t3 t4 hT hE
  generalize S.T i = TT at *
  generalize S.E pg = EE at *
  generalize hPB : putBytes (S.B TT.2) (4 * j) (entBytes (0, 0)) = PB at *
  have HPB := Lib.hid hPB; clear hPB
  go_enter Try.func19, Try.ntmps19
  go_wp2_with fail
  refine HW.out.mono ?_
  rintro e w1 ⟨rfl, hB1⟩
  have HM1 := Lib.hid (RefAt.below hm hB1)
  have HB1 := Lib.hid hB1; clear hB1
  go_wp2_with fail
  rw [HI.out]
  refine (rentry HM1.out root i hrt hrr hi).mono ?_
  rintro e w2 ⟨rfl, hB2⟩
  rw [HT.out]
  have HM2 := Lib.hid (RefAt.below HM1.out hB2)
  have HB2 := Lib.hid (below_step HB1.out hB2); clear hB2
  go_wp2_with fail
  rw [HJ.out]
  refine (rset HM2.out TT.2 j 0 0 t2 ht4 hj (by omega) (by omega)).mono ?_
  rintro e w3 ⟨rfl, hR3, hG3⟩
  rw [HPB.out] at hR3
  have HR3 := Lib.hid hR3
  have HT3 := Lib.hid ((Two.of_below gb gr HB2.out).trans (Two.of_left hG3))
  clear hR3 hG3
  go_wp2_with fail
  go_loopw [13] (fun x wi => ∃ k : Nat, k ≤ 16 ∧ x = .int .i64 k ∧ (∀ y, y < k → (ent PB y).1 = 0) ∧ RefAt wi q gb gr n S.R (updB S.B TT.2 PB) ∧ Two w wi gb gr) (fun x _ => 16 - (intOf x).toNat)
  case atStart => exact ⟨0, by omega, rfl, fun y hy => by omega, HR3.out, HT3.out⟩
  case round =>
    obtain ⟨k, hk, rfl, hz, hRi, hTi⟩ := hrel
    have HZ := Lib.hid hz; have HRi := Lib.hid hRi; have HTi := Lib.hid hTi
    clear hz hRi hTi
    by_cases hlt : k < 16
    · by_cases hf : (ent PB k).1 = 0
      · have HF := Lib.hid hf; clear hf
        go_wp2_with fail
        refine (rentry HRi.out TT.2 k t2 ht4 hlt).mono ?_
        rintro e w4 ⟨rfl, hB4⟩
        rw [HBS.out, HF.out]
        have HR4 := Lib.hid (RefAt.below HRi.out hB4)
        have HT4 := Lib.hid (HTi.out.trans (Two.of_below gb gr hB4)); clear hB4
        go_wp2
        go_roundw
        case rel => exact ⟨k + 1, by omega, by go_num, fun y hy => by
          rcases Nat.lt_or_ge y k with h1 | h1
          · exact HZ.out y h1
          · obtain rfl : y = k := by omega
            exact HF.out, HR4.out, HT4.out⟩
        case measure => simp [intOf]; omega
      · have hf1 : (((ent PB k).1 : Int) != 0) = true := by rw [bne_iff_ne]; omega
        have HF := Lib.hid hf; clear hf
        go_wp2_with fail
        refine (rentry HRi.out TT.2 k t2 ht4 hlt).mono ?_
        rintro e w4 ⟨rfl, hB4⟩
        rw [HBS.out]
        have HR4 := Lib.hid (RefAt.below HRi.out hB4)
        have HT4 := Lib.hid (HTi.out.trans (Two.of_below gb gr hB4)); clear hB4
        go_wp2
        go_ret2
        exact ⟨rfl, .inl ⟨⟨k, hlt, HF.out⟩, HR4.out⟩, HT4.out⟩
    · obtain rfl : k = 16 := by omega
      go_wp2_with fail
      refine (rfree HRi.out TT.2).mono ?_
      rintro e w4 ⟨rfl, hR4, hG4⟩
      rw [HFE.out] at hR4
      have HR4 := Lib.hid hR4
      have HT4 := Lib.hid (HTi.out.trans (Two.of_right hG4))
      clear hR4 hG4
      go_wp2_with fail
      rw [HI.out]
      refine (rset HR4.out root i 0 0 hrt HRR.out hi (by omega) (by omega)).mono ?_
      rintro e w5 ⟨rfl, hR5, hG5⟩
      rw [HBR.out] at hR5
      have HR5 := Lib.hid hR5
      have HT5 := Lib.hid (HT4.out.trans (Two.of_left hG5))
      clear hR5 hG5
      go_wp2
      go_ret2
      exact ⟨rfl, .inr ⟨HZ.out, HR5.out⟩, HT5.out⟩

theorem runmap (hm : S.rat w q gb gr n) (h : S.ok n root) (page : Int) :
    Calls Try.prog 19 #[.pointer (some ⟨q, 0, none⟩), .int .i64 root, .int .i64 page] w fun r w' =>
      r = .returned (.tuple #[.int .i64 (unmapS root S page).1, .int .i64 (unmapS root S page).2.1]) ∧ (unmapS root S page).2.2.rat w' q gb gr n ∧ Two w w' gb gr := by
  have kp : ∀ {w' : World}, Below w.heap.size w w' → S.rat w' q gb gr n ∧ Two w w' gb gr := fun hb => ⟨RefAt.below hm hb, Two.of_below _ _ hb⟩
  unfold unmapS
  split
  case isFalse =>
    rename_i hp
    have he : wkE S.E page = 2 := by unfold wkE; rw [if_neg hp]
    refine (runmap_err hm h page (by rw [he]; omega)).mono ?_
    rintro r w' ⟨rfl, hb⟩
    rw [he]
    exact ⟨rfl, kp hb⟩
  rename_i hp
  split
  · rename_i hE
    have he : wkE S.E page = 30 := by unfold wkE; rw [if_pos hp, if_pos hE]
    refine (runmap_err hm h page (by rw [he]; omega)).mono ?_
    rintro r w' ⟨rfl, hb⟩
    rw [he]
    exact ⟨rfl, kp hb⟩
  rename_i hE
  obtain ⟨pg, rfl, hpg⟩ := below_nat hp
  simp only [Int.toNat_natCast] at hE ⊢
  have hT := E_T h hpg hE
  -- an entry of the table is empty as the program takes it just where its flags are 0
  have hz : ∀ x, x < 16 → ((ent (putBytes (S.B (S.T (pg / 16)).2) (4 * (pg % 16)) (entBytes (0, 0))) x).1 = 0 ↔ entP (updB S.B (S.T (pg / 16)).2 (putBytes (S.B (S.T (pg / 16)).2) (4 * (pg % 16)) (entBytes (0, 0))) (S.T (pg / 16)).2) x = (0, 0)) := by
    intro x hx
    have hl := Rep.hB h _ (Rep.tb h (pg / 16) (by omega) hT).2.1
    rw [unmap_ents h hpg hT hx]
    by_cases c : x = pg % 16
    · subst c
      rw [ent_put_same hl (by omega) (by decide) (by decide), if_pos rfl]
      exact ⟨fun _ => rfl, fun _ => rfl⟩
    · rw [ent_put_other hl (by omega) c, if_neg c, Rep.eT h (pg / 16) x (by omega) hx hT]
      exact Rep.E1 h (by omega)
  refine (runmap_yes hm h pg (pg / 16) (pg % 16) hpg (by omega) (by omega) (by omega) (by omega) (by omega) hE).mono ?_
  rintro r w' ⟨rfl, hres, ht⟩
  rcases hres with ⟨⟨x, hx, hne⟩, hr⟩ | ⟨hall, hr⟩
  · rw [if_neg]
    · exact ⟨rfl, hr, ht⟩
    · intro c
      exact hne ((hz x hx).2 ((ents_nil _).1 c x hx))
  · rw [if_pos]
    · exact ⟨rfl, hr, ht⟩
    · rw [ents_nil]
      exact fun x hx => (hz x hx).1 (hall x hx)

/-- the mapped pages below p. -/
def pagesTo (E : Nat → Nat × Nat) (p : Nat) : List Nat := (List.range p).filter fun q => decide (E q ≠ (0, 0))
theorem pagesTo_yes {E : Nat → Nat × Nat} {p : Nat} (h : E p ≠ (0, 0)) : pagesTo E (p + 1) = pagesTo E p ++ [p] := by
  unfold pagesTo
  rw [List.range_succ, List.filter_append]
  simp [h]
theorem pagesTo_no {E : Nat → Nat × Nat} {p : Nat} (h : E p = (0, 0)) : pagesTo E (p + 1) = pagesTo E p := by
  unfold pagesTo
  rw [List.range_succ, List.filter_append]
  simp [h]
theorem pagesTo_len (E : Nat → Nat × Nat) (p : Nat) : (pagesTo E p).length ≤ p := by
  have := List.length_filter_le (fun q => decide (E q ≠ (0, 0))) (List.range p)
  rw [List.length_range] at this
  exact this

set_option maxRecDepth 100000 in
set_option maxHeartbeats 2000000 in
theorem rpages (hm : S.rat w q gb gr n) (h : S.ok n root) :
    Calls Try.prog 21 #[.pointer (some ⟨q, 0, none⟩), .int .i64 root] w fun e w' =>
      (∃ v, e = .returned (.tuple #[v, .int .i64 0]) ∧ w'.ownsRow w.heap.size 3 1 v (pagesL S.E).length ((pagesL S.E).map intV)) ∧ Below w.heap.size w w' := by
  have HL := Lib.hid (Rep.live h)
  obtain ⟨i0, hi, hz0, hz1, hz2⟩ := info_parts Try.infoInt2
  have HI := Lib.hid hi; have HZ0 := Lib.hid hz0; have HZ1 := Lib.hid hz1; have HZ2 := Lib.hid hz2
  clear hi hz0 hz1 hz2
  go_enter Try.func21, Try.ntmps21
  go_wp2_with fail
  refine (rright_ok hm _ _ HL.out (by rfl)).mono ?_
  rintro e w' ⟨rfl, rfl⟩
  go_wp2_with fail
  go_loopw [7, 8] (fun v i wi => ∃ k : Nat, k ≤ 256 ∧ i = .int .i64 k ∧ wi.ownsRow w.heap.size 3 1 v (pagesTo S.E k).length ((pagesTo S.E k).map intV) ∧ Below w.heap.size w wi) (fun _ i _ => 256 - (intOf i).toNat)
  case atStart => exact ⟨0, by omega, rfl, World.ownsRow_nil _ _ _ _, Below.refl _ _⟩
  case round =>
    obtain ⟨k, hk, rfl, hrow, hB⟩ := hrel
    have HROW := Lib.hid hrow; have HB := Lib.hid hB
    have hlk := pagesTo_len S.E k
    clear hrow hB
    by_cases hlt : k < 256
    · have HR := Lib.hid (RefAt.below hm HB.out)
      have hbk : belowB 256 (k : Int) = true := by unfold belowB; simp; omega
      by_cases hE : S.E k = (0, 0)
      · have hw : wkE S.E k = 30 := by unfold wkE; rw [if_pos hbk, Int.toNat_natCast, if_pos hE]
        have HW := Lib.hid hw
        have HP := Lib.hid (pagesTo_no hE)
        clear hE hbk hw
        go_wp2_with fail
        refine (rwalk HR.out h k).mono ?_
        rintro e w2 ⟨rfl, hB2⟩
        rw [HW.out]
        have HROW2 := Lib.hid (HROW.out.kept (grown_of_below hB2 none) (by
          rcases hob : Value.ownBlock u7 with _ | b
          · exact .inl rfl
          · exact .inr (by simp)))
        have HB2 := Lib.hid (below_step HB.out hB2); clear hB2
        go_wp2
        go_roundw
        case rel => exact ⟨k + 1, by omega, by go_num, by rw [HP.out]; exact HROW2.out, HB2.out⟩
        case measure => simp [intOf]; omega
      · have hw : wkE S.E k = 0 := by unfold wkE; rw [if_pos hbk, Int.toNat_natCast, if_neg hE]
        have HW := Lib.hid hw
        have HP := Lib.hid (pagesTo_yes hE)
        clear hE hbk hw
        go_wp2_with fail
        refine (rwalk HR.out h k).mono ?_
        rintro e w2 ⟨rfl, hB2⟩
        rw [HW.out]
        have HROW2 := Lib.hid (HROW.out.kept (grown_of_below hB2 none) (by
          rcases hob : Value.ownBlock u7 with _ | b
          · exact .inl rfl
          · exact .inr (by simp)))
        have HB2 := Lib.hid (below_step HB.out hB2); clear hB2
        go_wp2_with (at_builtin; refine wpList_append_own _ rfl (.tmp 32) (.tmp 34) 44 rfl w.heap.size 3 i0 (.int .i64 0) 1 8 Try.underlying44 HI.out HZ0.out HZ1.out HZ2.out rfl (by decide) _ _ _ rfl (HROW2.out.alloc _) ⟨w2.heap.size, 0, none⟩ 1 1 [.int .i64 (k : Int)] rfl rfl (cell_one_new _ _ _) (by simp [Value.oneCell']) (by unfold maxLen; omega) (by omega) (by have := HB2.out.size; simp; omega) ?_; intro v3 w3 hown3 hgrow3 _; obtain ⟨g3, cap3, rfl⟩ := ownsRow_succ hown3; have HO3 := Lib.hid hown3; have HG3 := Lib.hid hgrow3; clear hown3 hgrow3)
        go_roundw
        case rel => exact ⟨k + 1, by omega, by go_num, by rw [HP.out, List.length_append, List.map_append]; exact HO3.out, (HB2.out.alloc HB2.out.size _).trans (below_of_grown HG3.out (by have := HB2.out.size; simp; omega) (fun j e => (HROW2.out.lt j e).1))⟩
        case measure => simp [intOf]; omega
    · obtain rfl : k = 256 := by omega
      go_wp2
      go_ret2
      exact ⟨⟨_, rfl, HROW.out⟩, HB.out⟩

set_option maxRecDepth 100000 in
set_option maxHeartbeats 2000000 in
theorem rdrop (hm : S.rat w q gb gr n) (h : S.ok n root) :
    Calls Try.prog 28 #[.pointer (some ⟨q, 0, none⟩), .int .i64 root] w fun e w' =>
      e = .returned (.int .i64 0) ∧ (∃ R' : Nat → Int, RefAt w' q gb gr n R' S.B ∧ ∀ k, k < n → R' k = 0) ∧ Two w w' gb gr := by
  have HL := Lib.hid (Rep.live h)
  have hrr : 0 < S.R root := by rw [Rep.rR h]; omega
  have hrt := Rep.rt h
  go_enter Try.func28, Try.ntmps28
  go_wp2_with fail
  refine (rright_ok hm _ _ HL.out (by rfl)).mono ?_
  rintro e w' ⟨rfl, rfl⟩
  go_wp2_with fail
  go_loopw [6] (fun i wi => ∃ (k : Nat) (R' : Nat → Int), k ≤ 16 ∧ i = .int .i64 k ∧ DropI S.T S.R ((List.range k).filter fun x => decide (S.T x ≠ (0, 0))) R' ∧ RefAt wi q gb gr n R' S.B ∧ Two w wi gb gr) (fun i _ => 16 - (intOf i).toNat)
  case atStart => exact ⟨0, S.R, by omega, rfl, DropI.nil _ _, hm, Two.refl _ _ _⟩
  case round =>
    obtain ⟨k, R', hk, rfl, hD, hRi, hTi⟩ := hrel
    have HD := Lib.hid hD; have HRi := Lib.hid hRi; have HTi := Lib.hid hTi
    have hroot : R' root = 1 := (hD.2 root fun x hx => by
      obtain ⟨h1, h2⟩ := List.mem_filter.1 hx
      exact (Rep.tb h x (by have := List.mem_range.1 h1; omega) (by simpa using h2)).2.2.1).trans (Rep.rR h)
    have hr0 : 0 < R' root := by omega
    have HR1 := Lib.hid hroot
    clear hD hRi hTi hroot
    by_cases hlt : k < 16
    · have HT := Lib.hid (Rep.hT h k hlt)
      by_cases hT : S.T k = (0, 0)
      · have HF : Hid ((List.range (k + 1)).filter (fun x => decide (S.T x ≠ (0, 0))) = (List.range k).filter fun x => decide (S.T x ≠ (0, 0))) := by
          unfold Hid; rw [List.range_succ, List.filter_append]; simp [hT]
        have HT0 := Lib.hid hT; clear hT
        go_wp2_with fail
        refine (rentry HRi.out root k hrt hr0 hlt).mono ?_
        rintro e w4 ⟨rfl, hB4⟩
        rw [HT.out, HT0.out]
        have HR4 := Lib.hid (RefAt.below HRi.out hB4)
        have HT4 := Lib.hid (HTi.out.trans (Two.of_below gb gr hB4)); clear hB4
        go_wp2
        go_roundw
        case rel => exact ⟨k + 1, R', by omega, by go_num, by rw [HF.out]; exact HD.out, HR4.out, HT4.out⟩
        case measure => simp [intOf]; omega
      · have HF : Hid ((List.range (k + 1)).filter (fun x => decide (S.T x ≠ (0, 0))) = ((List.range k).filter fun x => decide (S.T x ≠ (0, 0))) ++ [k]) := by
          unfold Hid; rw [List.range_succ, List.filter_append]; simp [hT]
        obtain ⟨t1, t2, t3, t4, _⟩ := Rep.tb h k hlt hT
        have hf1 : (((S.T k).1 : Int) != 0) = true := by rw [bne_iff_ne]; omega
        have HD2 := Lib.hid (HD.out.free (n := n) (x := k) t4 t2)
        clear hT t1 t3 t4
        go_wp2_with fail
        refine (rentry HRi.out root k hrt hr0 hlt).mono ?_
        rintro e w4 ⟨rfl, hB4⟩
        rw [HT.out]
        have HR4 := Lib.hid (RefAt.below HRi.out hB4)
        have HT4 := Lib.hid (HTi.out.trans (Two.of_below gb gr hB4)); clear hB4
        go_wp2_with fail
        refine (rfree HR4.out (S.T k).2).mono ?_
        rintro e w5 ⟨rfl, hR5, hG5⟩
        have HR5 := Lib.hid hR5
        have HT5 := Lib.hid (HT4.out.trans (Two.of_right hG5))
        clear hR5 hG5
        go_wp2
        go_roundw
        case rel => exact ⟨k + 1, _, by omega, by go_num, by rw [HF.out]; exact HD2.out, HR5.out, HT5.out⟩
        case measure => simp [intOf]; omega
    · obtain rfl : k = 16 := by omega
      have e1 : entsTo (S.B root) 16 = (List.range 16).filter fun i => decide (S.T i ≠ (0, 0)) := by
        unfold entsTo
        apply List.filter_congr
        intro i hi
        rw [Rep.pT h (List.mem_range.1 hi)]
      have hDD := HD.out
      rw [← e1] at hDD
      have HALL := Lib.hid (hDD.all h)
      have HFE : Hid (freeE n R' root = 0) := by
        unfold Hid freeE
        rw [if_pos (live_of hrt hr0)]
      clear e1 hDD
      go_wp2_with fail
      refine (rfree HRi.out root).mono ?_
      rintro e w5 ⟨rfl, hR5, hG5⟩
      rw [HFE.out]
      have HR5 := Lib.hid hR5
      have HT5 := Lib.hid (HTi.out.trans (Two.of_right hG5))
      clear hR5 hG5
      go_wp2
      go_ret
      exact ⟨rfl, ⟨_, HR5.out, HALL.out⟩, HT5.out⟩

end
end Go.Proofs.Ytkcoeibbmfkjlaa
