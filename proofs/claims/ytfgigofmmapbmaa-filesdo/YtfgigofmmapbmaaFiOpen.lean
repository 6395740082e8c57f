/- Package files, as functions on a list of descriptors: Open, walked. -/
import Derived.Test.YtfgigofmmapbmaaFiGet
namespace Go.Proofs.Ytfgigofmmapbmaa
open Go.RowKit

section
variable {w w' : World} {S : Nat → Prop} {p : Nat} {m m' : Option Nat} {L L' : List FV} {n n' : Nat} {F F' : List OF} {D D' : List (Int × Fds)} {φ φ' : Int → Nat}

set_option maxRecDepth 100000 in
set_option maxHeartbeats 4000000 in
theorem fi_open (h : Fi w S p L n) (P k t : Int) : Calls Try.prog 17 #[.pointer (some ⟨p, 0, none⟩), .int .i64 P, .agg #[.int .i64 k, .int .i64 t]] w fun e w' =>
    e = .returned (.tuple #[.int .i64 (openN L n P k t), .int .i64 (openE L n P k t)]) ∧ ∃ S', Fi w' S' p (openL L n P k t) (openG L n P k t) ∧ MvS S S' w w' := by
  obtain ⟨m, F, D, φ, rfl, h, hF, hD, hw⟩ := h
  by_cases h0 : P < 1 ∨ k < 1 ∨ t < 0
  · have hE : openE L n P k t = 2 := by unfold openE; rw [if_pos h0]
    have hN : openN L n P k t = 0 := by unfold openN; rw [hE, if_neg (by decide)]
    have hL : openL L n P k t = L := by unfold openL; rw [hE, if_neg (by decide)]
    have hG : openG L n P k t = n := by unfold openG; rw [hE, if_neg (by decide)]
    rw [hE, hN, hL, hG]
    have HH := Lib.hid (h.alloc (.cells #[.int .i64 k, .int .i64 t] 32))
    have HR := Lib.hid (And.intro hF (And.intro hD hw))
    have hs : P < 1 ∨ (¬ P < 1 ∧ k < 1) ∨ (¬ P < 1 ∧ ¬ k < 1 ∧ t < 0) := by omega
    clear h hF hD hw h0 hE hN hL hG
    rcases hs with h1 | ⟨h1, h2⟩ | ⟨h1, h2, h3⟩
    all_goals
      go_enter Try.func17, Try.ntmps17
      go_wp2
      exact bodyPost_ret (v := .tuple #[.int .i64 0, .int .i64 2]) (by simp [results, Try.results17, go_sem]) rfl ⟨rfl, fi_mv HH.out (MvF.of_below ((Below.refl _ _).alloc (Nat.le_refl _) _)) HR.out.1 HR.out.2.1 HR.out.2.2⟩
  have h1 : ¬ P < 1 := by omega
  have h2 : ¬ k < 1 := by omega
  have h3 : ¬ t < 0 := by omega
  have HFr : Hid (∀ W : World, FM W p m F D → Calls Try.prog 32 #[.pointer (some ⟨p, 0, none⟩), .int .i64 P] W fun e w' => e = .returned (.tuple #[.int .i64 (zeroN (rowD D P)), .int .i64 (zeroE (rowD D P))]) ∧ Below W.heap.size W w') := fun W hW => free_any hW P
  by_cases hf : freeI L P < 0
  · obtain ⟨z1, z2⟩ := zero_no hF hD h.ok hf
    have hE : openE L n P k t = 81 := by unfold openE; rw [if_neg h0, if_pos hf]
    have hN : openN L n P k t = 0 := by unfold openN; rw [hE, if_neg (by decide)]
    have hL : openL L n P k t = L := by unfold openL; rw [hE, if_neg (by decide)]
    have hG : openG L n P k t = n := by unfold openG; rw [hE, if_neg (by decide)]
    rw [hE, hN, hL, hG]
    rw [z1, z2] at HFr
    have HH := Lib.hid (h.alloc (.cells #[.int .i64 k, .int .i64 t] 32))
    have HR := Lib.hid (And.intro hF (And.intro hD hw))
    clear h hF hD hw h0 hE hN hL hG hf z1 z2
    go_enter Try.func17, Try.ntmps17
    go_wp2_with (go_at_call 32; refine (HFr.out _ HH.out).mono ?_; rintro e w1 ⟨rfl, hb⟩; have HB := Lib.hid hb; clear hb)
    exact bodyPost_ret (v := .tuple #[.int .i64 0, .int .i64 81]) (by simp [results, Try.results17, go_sem]) rfl ⟨rfl, fi_mv (HH.out.below HB.out) (MvF.trans (MvF.of_below ((Below.refl _ _).alloc (Nat.le_refl _) _)) (MvF.of_below HB.out)) HR.out.1 HR.out.2.1 HR.out.2.2⟩
  obtain ⟨z1, z2⟩ := zero_yes hF hD h.ok hf
  have hfl := freeI_lt L P
  obtain ⟨j, hj⟩ : ∃ j : Nat, freeI L P = j := ⟨(freeI L P).toNat, by omega⟩
  rw [z1, z2, hj] at HFr
  have HIx : Hid (∀ W : World, FM W p m F D → Calls Try.prog 33 #[.slice (some ⟨p, 0, none⟩) 32 32, .agg #[.int .i64 0, .int .i64 0, .int .i64 0]] W fun e w' => e = .returned (.int .i64 (spotI F)) ∧ Below W.heap.size W w') := fun W hW => index_any hW
  by_cases hc : 32 ≤ cntN L n
  · have hE : openE L n P k t = 82 := by unfold openE; rw [if_neg h0, if_neg hf, if_pos hc]
    have hN : openN L n P k t = 0 := by unfold openN; rw [hE, if_neg (by decide)]
    have hL : openL L n P k t = L := by unfold openL; rw [hE, if_neg (by decide)]
    have hG : openG L n P k t = n := by unfold openG; rw [hE, if_neg (by decide)]
    rw [hE, hN, hL, hG]
    rw [spot_no hF hc] at HIx
    have HH := Lib.hid (h.alloc (.cells #[.int .i64 k, .int .i64 t] 32))
    have HR := Lib.hid (And.intro hF (And.intro hD hw))
    clear h hF hD hw h0 hE hN hL hG hf z1 z2 hc hj
    go_enter Try.func17, Try.ntmps17
    go_wp2_with (first | (go_at_call 32; refine (HFr.out _ HH.out).mono ?_; rintro e w1 ⟨rfl, hb⟩; have HB := Lib.hid hb; have HH1 := Lib.hid (HH.out.below hb); clear hb) | (go_at_call 33; refine (HIx.out _ HH1.out).mono ?_; rintro e w2 ⟨rfl, hb⟩; have HB2 := Lib.hid hb; clear hb))
    exact bodyPost_ret (v := .tuple #[.int .i64 0, .int .i64 82]) (by simp [results, Try.results17, go_sem]) rfl ⟨rfl, fi_mv (HH1.out.below HB2.out) (MvF.trans (MvF.trans (MvF.of_below ((Below.refl _ _).alloc (Nat.le_refl _) _)) (MvF.of_below HB.out)) (MvF.of_below HB2.out)) HR.out.1 HR.out.2.1 HR.out.2.2⟩
  obtain ⟨i, hi1, hi2, hi⟩ := spot_yes hF hc
  have hE : openE L n P k t = 0 := by unfold openE; rw [if_neg h0, if_neg hf, if_neg hc]
  have hN : openN L n P k t = j := by unfold openN; rw [hE, if_pos rfl, hj]
  have hL : openL L n P k t = L ++ [⟨P, j, (n : Int) + 1, k, t⟩] := by unfold openL; rw [hE, if_pos rfl, hj]
  have hG : openG L n P k t = n + 1 := by unfold openG; rw [hE, if_pos rfl]
  have hwo := hw.open hE
  rw [hj] at hwo
  rw [hE, hN, hL, hG]
  rw [hi1] at HIx
  have hlk := (free_yes2 hf).1
  rw [hj] at hlk
  have hRF := hF.new (y := ⟨P, j, (n : Int) + 1, k, t⟩) hw hi2 rfl
  have hRD := hD.add (φ' := fun f => if f = (n : Int) + 1 then i + 1 else φ f) (y := ⟨P, j, (n : Int) + 1, k, t⟩) (a := (i : Int) + 1) h.ok (k := j) (by omega) hlk rfl rfl (by dsimp only; rw [if_pos rfl]; rfl) (fun x hx => if_neg (by have := (hw.ok x hx).2.2.2.2.1; omega))
  rw [← open_set hi2] at hRF
  have hx1 : (F.modify i (fun x => { x with kind := k, thing := t }))[i]? = some ⟨k, t, 0⟩ := by rw [mod_at, if_pos rfl, hi2]; rfl
  have HRf : Hid (∀ W : World, FM W p m (F.modify i (fun x => { x with kind := k, thing := t })) D → Calls Try.prog 34 #[.pointer (some ⟨p, 0, none⟩), .int .i64 P, .int .i64 (j : Int), .int .i64 ((i : Int) + 1)] W fun e w' =>
    e = .returned (.tuple #[]) ∧ ∃ m', FM w' p m' (more1 (F.modify i (fun x => { x with kind := k, thing := t })) i) (keepD D P ((rowD D P).set j ((i : Int) + 1))) ∧ MvF p m m' W w') := fun W hW => refer_any hW P j i (by omega) hi hx1 (Int.le_refl _) (by dsimp only; omega)
  have HH := Lib.hid (h.alloc (.cells #[.int .i64 k, .int .i64 t] 32))
  have HR := Lib.hid (And.intro hRF (And.intro hRD hwo))
  have bx := BoxA.new w 32 #[.int .i64 k, .int .i64 t]
  have HBX := Lib.hid bx
  have hib : ¬ (i : Int) < 0 := by omega
  have hi0 : (0 : Int) ≤ (i : Int) := by omega
  have hi32 : (i : Int) < 32 := by omega
  have HI2 := Lib.hid hi2
  have HP1 := Lib.hid h.p_lt
  clear h hF hD hw h0 hE hN hL hG hf z1 z2 hc hj hRF hRD hwo hlk hx1 hi1 hi2 bx
  go_enter Try.func17, Try.ntmps17
  go_wp2_with (first | (go_at_call 32; refine (HFr.out _ HH.out).mono ?_; rintro e w1 ⟨rfl, hb⟩; have HB := Lib.hid hb; have HH1 := Lib.hid (HH.out.below hb); have HX1 := Lib.hid (HBX.out.below' hb); clear hb) | (go_at_call 33; refine (HIx.out _ HH1.out).mono ?_; rintro e w2 ⟨rfl, hb⟩; have HB2 := Lib.hid hb; have hH2 := HH1.out.below hb; have HH2 := Lib.hid hH2; have hX2 := HX1.out.below' hb; have b0 := hX2.at 0 (v := .int .i64 k) rfl; have b1 := hX2.at 1 (v := .int .i64 t) rfl; have c0 := hH2.at0 HI2.out; have c1 := hH2.at1 HI2.out; have d0 := hH2.f (i * 3); have d1 := hH2.f (i * 3 + 1); clear hb hH2 hX2))
  go_still_tail 7, (by kernel_rfl)
  change wpList _ _ _ _ _ w2.drew
  go_wp2_with (go_at_call 34; refine (HRf.out _ ((HH2.out.heap (w' := w2.drew) rfl).setTwo hi k t)).mono ?_; rintro e w3 ⟨rfl, m', h3, m3⟩; have H3 := Lib.hid h3; have M3 := Lib.hid m3; clear h3 m3)
  have hM := (((MvF.trans (MvF.trans (MvF.of_below (p := p) (m := m) ((Below.refl _ w).alloc (Nat.le_refl _) (.cells #[.int .i64 k, .int .i64 t] 32))) (MvF.of_below HB.out)) (MvF.of_below HB2.out)).drew2.set (i * 3) (.int .i64 k)).set (i * 3 + 1) (.int .i64 t)).trans M3.out
  exact bodyPost_ret (v := .tuple #[.int .i64 (j : Int), .int .i64 0]) (by simp [results, Try.results17, go_sem]) rfl ⟨rfl, fi_mv H3.out hM HR.out.1 HR.out.2.1 HR.out.2.2⟩
end
end Go.Proofs.Ytfgigofmmapbmaa
