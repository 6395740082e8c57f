/- Package files, as functions on a list of descriptors: New, Get, Count, Dup, walked. -/
import Derived.Test.YtfgigofmmapbmaaFiRel
import Derived.Test.YtfgigofmmapbmaaFiWorks
namespace Go.Proofs.Ytfgigofmmapbmaa
open Go.RowKit

/-- the blocks that a Files owns: its struct, its map. -/
def Sof (p : Nat) (m : Option Nat) : Nat → Prop := fun k => k = p ∨ m = some k
/-- the Files at p holds L. -/
def Fi (w : World) (S : Nat → Prop) (p : Nat) (L : List FV) (n : Nat) : Prop := ∃ m F D φ, S = Sof p m ∧ FM w p m F D ∧ RelF φ F L n ∧ RelD φ D L ∧ WF L n
section
variable {w w' : World} {S : Nat → Prop} {p : Nat} {m m' : Option Nat} {L L' : List FV} {n n' : Nat} {F F' : List OF} {D D' : List (Int × Fds)} {φ φ' : Int → Nat}
theorem mvf_mvs (h : MvF p m m' w w') : MvS (Sof p m) (Sof p m') w w' :=
  ⟨h.os, h.tape, h.output, h.size, fun k hk hS => h.block k hk (fun e => hS (.inl e)) (fun e => hS (.inr e)), fun k hk => by
    rcases hk with e | e
    · exact .inl (.inl e)
    · rcases h.row k e with c | c
      · exact .inl (.inr c)
      · exact .inr c⟩
theorem fi_mv (h : FM w' p m' F' D') (hm : MvF p m m' w w') (hF : RelF φ' F' L' n') (hD : RelD φ' D' L') (hw : WF L' n') : ∃ S', Fi w' S' p L' n' ∧ MvS (Sof p m) S' w w' := ⟨_, ⟨m', F', D', φ', rfl, h, hF, hD, hw⟩, mvf_mvs hm⟩
theorem fi_keep (h : Fi w S p L n) (hk : ∀ k, S k → w'.heap[k]? = w.heap[k]?) : Fi w' S p L n := by
  obtain ⟨m, F, D, φ, rfl, h, r⟩ := h
  exact ⟨m, F, D, φ, rfl, h.keep (hk p (.inl rfl)) (fun k e => hk k (.inr e)), r⟩
theorem fi_lt (h : Fi w S p L n) : ∀ k, S k → k < w.heap.size := by
  obtain ⟨m, F, D, φ, rfl, h, r⟩ := h
  rintro k (rfl | e)
  · exact h.p_lt
  · exact h.m_lt k e
theorem fi_wf (h : Fi w S p L n) : WF L n := by obtain ⟨_, _, _, _, _, _, _, _, h⟩ := h; exact h
theorem fi_new9 (w : World) : Calls Try.prog 11 #[] w fun e w' => ∃ p S, e = .returned (.pointer (some ⟨p, 0, none⟩)) ∧ Fi w' S p [] 0 ∧ (∀ k, S k → w.heap.size ≤ k) ∧ Below w.heap.size w w' := by
  refine (fi_new w).mono ?_
  rintro e w' ⟨rfl, h, hb⟩
  refine ⟨_, _, rfl, ⟨none, _, _, fun _ => 1, rfl, h, ⟨rfl, fun x hx => (by cases hx), fun x hx => (by cases hx), fun x hx => (by cases hx), fun i hi => .inr ?_, by decide⟩, fun p d hd => ?_, WF.nil 0⟩, fun k hk => ?_, hb⟩
  · rw [List.getElem?_replicate, if_pos hi]
  · rw [show rowD [] p = zero8 from rfl, (zero8_iff rfl).1 rfl d hd]; rfl
  · rcases hk with rfl | e
    · exact Nat.le_refl _
    · cases e

theorem num_yes (hw : WF L n) (hF : RelF φ F L n) (hD : RelD φ D L) {P d : Int} (hE : getE L P d = 0) : ∃ (x : FV) (i : Nat), look L P d = some x ∧ φ x.file = i + 1 ∧ i < 32 ∧ F[i]? = some ⟨x.kind, x.thing, refsN L x.file⟩ ∧ 0 ≤ d ∧ d < 8 ∧ 1 ≤ P ∧
    ∀ W : World, FM W p m F D → Calls Try.prog 30 #[.pointer (some ⟨p, 0, none⟩), .int .i64 P, .int .i64 d] W fun e w' => e = .returned (.tuple #[.int .i64 ((i : Int) + 1), .int .i64 0]) ∧ w' = W := by
  obtain ⟨x, hx, hn, h1, h2, h3⟩ := numN_rel hw hF hD hE
  have hlo := hF.lo x (look_is hx).1
  have hat := hF.here x (look_is hx).1
  refine ⟨x, φ x.file - 1, hx, by omega, by omega, hat, h1, h2, h3, fun W hW => ?_⟩
  have := number_any hW P d
  rw [hn, numE_rel hw hF hD, hE, show ((φ x.file : Nat) : Int) = ((φ x.file - 1 : Nat) : Int) + 1 by omega] at this
  exact this
theorem num_no (hw : WF L n) (hF : RelF φ F L n) (hD : RelD φ D L) {P d : Int} (hE : getE L P d ≠ 0) :
    ∀ W : World, FM W p m F D → Calls Try.prog 30 #[.pointer (some ⟨p, 0, none⟩), .int .i64 P, .int .i64 d] W fun e w' => e = .returned (.tuple #[.int .i64 0, .int .i64 (getE L P d)]) ∧ w' = W := fun W hW => by
  have := number_any hW P d
  rw [numN_no hw hF hD hE, numE_rel hw hF hD] at this
  exact this

set_option maxRecDepth 100000 in
set_option maxHeartbeats 2000000 in
theorem fi_get (h : Fi w S p L n) (P d : Int) : Calls Try.prog 15 #[.pointer (some ⟨p, 0, none⟩), .int .i64 P, .int .i64 d] w fun e w' =>
    e = .returned (.tuple #[.agg #[.int .i64 (getX L P d).kind, .int .i64 (getX L P d).thing], .int .i64 (getE L P d)]) ∧ Below w.heap.size w w' := by
  obtain ⟨m, F, D, φ, rfl, h, hF, hD, hw⟩ := h
  by_cases hE : getE L P d = 0
  · obtain ⟨x, i, hx, -, hi, hat, -, -, -, hN⟩ := num_yes (p := p) (m := m) hw hF hD hE
    have HN := Lib.hid hN
    have HH := Lib.hid (h.alloc (.cells #[.int .i64 0, .int .i64 0] 32))
    rw [getX_yes hE, fdX_look, hx, hE]
    simp only [Option.getD_some]
    have c0 := HH.out.at0 hat; have c1 := HH.out.at1 hat
    have hi0 : (0 : Int) ≤ (i : Int) := by omega
    have hi32 : (i : Int) < 32 := by omega
    obtain ⟨xp, xd, xf, k, t⟩ := x
    clear h hF hD hw hE hx hat hN
    dsimp only at *
    go_enter Try.func15, Try.ntmps15
    go_wp2_with (go_at_call 30; refine (HN.out _ HH.out).mono ?_; rintro e w' ⟨rfl, rfl⟩)
    exact bodyPost_ret (v := .tuple #[.agg #[.int .i64 k, .int .i64 t], .int .i64 0]) (by simp [results, Try.results15, go_sem]) rfl ⟨rfl, (Below.refl _ _).alloc (Nat.le_refl _) _⟩
  · have HN := Lib.hid (num_no (p := p) (m := m) hw hF hD hE)
    have HH := Lib.hid (h.alloc (.cells #[.int .i64 0, .int .i64 0] 32))
    rw [getX_no hE]
    have hb : (getE L P d == 0) = false := by simpa using hE
    generalize getE L P d = E at *
    clear h hF hD hw hE
    go_enter Try.func15, Try.ntmps15
    go_wp2_with (go_at_call 30; refine (HN.out _ HH.out).mono ?_; rintro e w' ⟨rfl, rfl⟩)
    exact bodyPost_ret (v := .tuple #[.agg #[.int .i64 0, .int .i64 0], .int .i64 E]) (by simp [results, Try.results15, go_sem]) rfl ⟨rfl, (Below.refl _ _).alloc (Nat.le_refl _) _⟩

theorem fi_count (h : Fi w S p L n) : Calls Try.prog 13 #[.pointer (some ⟨p, 0, none⟩)] w fun e w' => e = .returned (.int .i64 (cntN L n)) ∧ Below w.heap.size w w' := by
  obtain ⟨m, F, D, φ, rfl, h, hF, hD, hw⟩ := h
  have := count_any h
  rw [hF.cnt] at this
  exact this

set_option maxRecDepth 100000 in
set_option maxHeartbeats 2000000 in
theorem fi_dup (h : Fi w S p L n) (hl : L.length ≤ 80000) (P d : Int) : Calls Try.prog 18 #[.pointer (some ⟨p, 0, none⟩), .int .i64 P, .int .i64 d] w fun e w' =>
    e = .returned (.tuple #[.int .i64 (dupN L P d), .int .i64 (dupE L P d)]) ∧ ∃ S', Fi w' S' p (dupL L P d) n ∧ MvS S S' w w' := by
  obtain ⟨m, F, D, φ, rfl, h, hF, hD, hw⟩ := h
  by_cases hE : getE L P d = 0
  · obtain ⟨x, i, hx, hφ, hi, hat, h1, h2, h3, hN⟩ := num_yes (p := p) (m := m) hw hF hD hE
    have HN := Lib.hid hN
    have HFr : Hid (∀ W : World, FM W p m F D → Calls Try.prog 32 #[.pointer (some ⟨p, 0, none⟩), .int .i64 P] W fun e w' => e = .returned (.tuple #[.int .i64 (zeroN (rowD D P)), .int .i64 (zeroE (rowD D P))]) ∧ Below W.heap.size W w') := fun W hW => free_any hW P
    have hat0 : ¬ atI L P d < 0 := by
      have e := hE
      unfold getE at e
      split at e
      · cases e
      split at e
      · cases e
      assumption
    by_cases hf : freeI L P < 0
    · obtain ⟨z1, z2⟩ := zero_no hF hD h.ok hf
      have hDE : dupE L P d = 81 := by unfold dupE; rw [if_neg (by omega), if_neg hat0, if_pos hf]
      have hDN : dupN L P d = 0 := by unfold dupN; rw [hDE, if_neg (by decide)]
      have hDL : dupL L P d = L := by unfold dupL; rw [hDE, if_neg (by decide)]
      rw [hDE, hDN, hDL]
      rw [z1, z2] at HFr
      have HH := Lib.hid h
      have HR := Lib.hid (And.intro hF (And.intro hD hw))
      clear h hF hD hw hE hx hφ hat hN z1 z2 hDE hDN hDL hat0 hf
      go_enter Try.func18, Try.ntmps18
      go_wp2_with (first | (go_at_call 30; refine (HN.out _ HH.out).mono ?_; rintro e w' ⟨rfl, rfl⟩) | (go_at_call 32; refine (HFr.out _ HH.out).mono ?_; rintro e w1 ⟨rfl, hb⟩; have HB := Lib.hid hb; clear hb))
      exact bodyPost_ret (v := .tuple #[.int .i64 0, .int .i64 81]) (by simp [results, Try.results18, go_sem]) rfl ⟨rfl, fi_mv (HH.out.below HB.out) (MvF.of_below HB.out) HR.out.1 HR.out.2.1 HR.out.2.2⟩
    · obtain ⟨z1, z2⟩ := zero_yes hF hD h.ok hf
      have hfl := freeI_lt L P
      obtain ⟨j, hj⟩ : ∃ j : Nat, freeI L P = j := ⟨(freeI L P).toNat, by omega⟩
      have hDE : dupE L P d = 0 := by unfold dupE; rw [if_neg (by omega), if_neg hat0, if_neg hf]
      have hDN : dupN L P d = j := by unfold dupN; rw [hDE, if_pos rfl, hj]
      have hDL : dupL L P d = L ++ [{ x with fd := (j : Int) }] := by unfold dupL; rw [hDE, if_pos rfl, fdX_look, hx, hj]; rfl
      have hwd := hw.dup hDE
      rw [fdX_look, hx, hj] at hwd
      simp only [Option.getD_some] at hwd
      rw [hDE, hDN, hDL]
      rw [z1, z2, hj] at HFr
      have hb := hF.bnd hat
      have hlk := (free_yes2 hf).1
      rw [hj] at hlk
      have hxx := look_is hx
      have hRD := hD.add (φ' := φ) (y := { x with fd := (j : Int) }) (a := (i : Int) + 1) h.ok (k := j) (by omega) hlk hxx.2.1 rfl (by dsimp only; omega) (fun _ _ => rfl)
      have hRF := hF.dup hx (j : Int)
      rw [show φ x.file - 1 = i by omega] at hRF
      have HRf : Hid (∀ W : World, FM W p m F D → Calls Try.prog 34 #[.pointer (some ⟨p, 0, none⟩), .int .i64 P, .int .i64 (j : Int), .int .i64 ((i : Int) + 1)] W fun e w' =>
        e = .returned (.tuple #[]) ∧ ∃ m', FM w' p m' (more1 F i) (keepD D P ((rowD D P).set j ((i : Int) + 1))) ∧ MvF p m m' W w') := fun W hW => refer_any hW P j i (by omega) hi hat hb.1 (by omega)
      have HH := Lib.hid h
      have HR := Lib.hid (And.intro hRF (And.intro hRD hwd))
      clear h hF hD hw hE hx hφ hat hN z1 z2 hDE hDN hDL hat0 hf hRF hRD hwd hlk hxx hb hj
      go_enter Try.func18, Try.ntmps18
      go_wp2_with (first | (go_at_call 30; refine (HN.out _ HH.out).mono ?_; rintro e w' ⟨rfl, rfl⟩) | (go_at_call 32; refine (HFr.out _ HH.out).mono ?_; rintro e w1 ⟨rfl, hb⟩; have HB := Lib.hid hb; clear hb) | (go_at_call 34; refine (HRf.out _ (HH.out.below HB.out)).mono ?_; rintro e w2 ⟨rfl, m', h2, m2⟩; have H2 := Lib.hid h2; have M2 := Lib.hid m2; clear h2 m2))
      exact bodyPost_ret (v := .tuple #[.int .i64 (j : Int), .int .i64 0]) (by simp [results, Try.results18, go_sem]) rfl ⟨rfl, fi_mv H2.out ((MvF.of_below HB.out).trans M2.out) HR.out.1 HR.out.2.1 HR.out.2.2⟩
  · have HN := Lib.hid (num_no (p := p) (m := m) hw hF hD hE)
    have hEE : dupE L P d = getE L P d := by
      unfold dupE getE at *
      split
      · rfl
      · rename_i h1
        rw [if_neg h1] at hE
        split
        · rfl
        · rename_i h2
          rw [if_neg h2] at hE
          exact absurd rfl hE
    have hDN : dupN L P d = 0 := by unfold dupN; rw [hEE, if_neg hE]
    have hDL : dupL L P d = L := by unfold dupL; rw [hEE, if_neg hE]
    rw [hEE, hDN, hDL]
    have hb : (getE L P d == 0) = false := by simpa using hE
    have HH := Lib.hid h
    have HR := Lib.hid (And.intro hF (And.intro hD hw))
    generalize getE L P d = E at *
    clear h hF hD hw hE hEE hDN hDL
    go_enter Try.func18, Try.ntmps18
    go_wp2_with (go_at_call 30; refine (HN.out _ HH.out).mono ?_; rintro e w' ⟨rfl, rfl⟩)
    exact bodyPost_ret (v := .tuple #[.int .i64 0, .int .i64 E]) (by simp [results, Try.results18, go_sem]) rfl ⟨rfl, fi_mv HH.out (MvF.refl _) HR.out.1 HR.out.2.1 HR.out.2.2⟩
end
end Go.Proofs.Ytfgigofmmapbmaa
