/- Package files, as functions on a list of descriptors: Close, Drop, walked. -/
import Derived.Test.YtfgigofmmapbmaaFiGet
namespace Go.Proofs.Ytfgigofmmapbmaa
open Go.RowKit

section
variable {w w' : World} {S : Nat → Prop} {p : Nat} {m m' : Option Nat} {L L' : List FV} {n n' : Nat} {F F' : List OF} {D D' : List (Int × Fds)} {φ φ' : Int → Nat}

/-- what a call's own two boxes come to behind keep and leave. -/
theorem box_two {o1 o2 o3 : Obj} {w4 w5 : World} {b : Nat} {t : TypeId} {xs : Array Value} (hb : w.heap.size ≤ b) (hB : BoxA (((w.alloc o1).alloc o2).alloc o3) b t xs) (hp : p < w.heap.size) (hm : ∀ k, m = some k → k < w.heap.size) (M4 : MvF p m m' (((w.alloc o1).alloc o2).alloc o3) w4) (o : Obj) (M5 : MvF p m' m' (w4.alloc o) w5) : BoxA w5 b t xs := by
  have h4 := M4.box hB (by omega) (fun e => by have := hm b e; omega)
  refine M5.box (h4.alloc o) (by omega) (fun e => ?_)
  rcases M4.row b e with c | c
  · have := hm b c; omega
  · have := hB.lt; omega

set_option maxRecDepth 100000 in
set_option maxHeartbeats 4000000 in
theorem fi_close (h : Fi w S p L n) (hl : L.length ≤ 80000) (P d : Int) : Calls Try.prog 19 #[.pointer (some ⟨p, 0, none⟩), .int .i64 P, .int .i64 d] w fun e w' =>
    e = .returned (.tuple #[.agg #[.int .i64 (getX L P d).kind, .int .i64 (getX L P d).thing], .bool (clsB L P d), .int .i64 (getE L P d)]) ∧ ∃ S', Fi w' S' p (clsL L P d) n ∧ MvS S S' w w' := by
  obtain ⟨m, F, D, φ, rfl, h, hF, hD, hw⟩ := h
  by_cases hE : getE L P d = 0
  · obtain ⟨x, i, hx, hφ, hi, hat, h1, h2, h3, hN⟩ := num_yes (p := p) (m := m) hw hF hD hE
    obtain ⟨j, rfl⟩ : ∃ j : Nat, d = j := ⟨d.toNat, by omega⟩
    have hj : j < 8 := by omega
    have hRF := hF.rm hw hx
    have hRD := hD.rm (p := P) hw h.ok hj
    have hwr := hw.rm P j
    have hrr := rm_refs hx x.file
    rw [if_pos rfl] at hrr
    have hLS : leaveF [(i : Int) + 1] F = F.modify (φ x.file - 1) less1 := by
      simp only [leaveF]
      rw [if_neg (by omega), hφ, show ((i : Int) + 1).toNat - 1 = i + 1 - 1 by omega]
    have hGN : goneF [(i : Int) + 1] F = if refsN (rmL L P j) x.file = 0 then [(x.kind, x.thing)] else [] := by
      simp only [goneF, List.append_nil]
      rw [if_neg (by omega), show ((i : Int) + 1).toNat - 1 = i by omega, hat]
      dsimp only
      by_cases c : refsN (rmL L P j) x.file = 0
      · rw [if_pos (by omega), if_pos c]
      · rw [if_neg (by omega), if_neg c]
    have hCL : clsL L P j = rmL L P j := by unfold clsL; rw [if_pos hE]
    have hCB : clsB L P j = decide (refsN (rmL L P j) x.file = 0) := by unfold clsB; rw [hE, fdX_look, hx]; rfl
    rw [hCL, hCB, getX_yes hE, fdX_look, hx, hE]
    simp only [Option.getD_some]
    have HN := Lib.hid hN
    have cm := h.cm
    have hlk := h.mp.lookup h.ok P
    have h8 := rowD_len h.ok P
    have hp1 := h.p_lt
    have HP1 := Lib.hid h.p_lt
    have HML := Lib.hid h.m_lt
    have HH := Lib.hid h
    have HBD := Lib.hid (hF.bndF hl)
    have hK := fun (W : World) (V : Value) (hV : V = rowV ((rowD D P).set j 0)) (hW : FM W p m F D) => hV ▸ keep_any hW P (r := (rowD D P).set j 0) (by simpa using h8)
    have HK := Lib.hid hK
    have HR := Lib.hid (And.intro hRF (And.intro hRD hwr))
    have c0 := (h.alloc (.cells #[.int .i64 0, .int .i64 0] 32)).at0 hat; have c1 := (h.alloc (.cells #[.int .i64 0, .int .i64 0] 32)).at1 hat
    have cm1 := ((h.alloc (.cells #[.int .i64 0, .int .i64 0] 32)).alloc (.cells #[.int .i64 x.kind, .int .i64 x.thing] 32)).cm
    have hlk1 := ((h.alloc (.cells #[.int .i64 0, .int .i64 0] 32)).alloc (.cells #[.int .i64 x.kind, .int .i64 x.thing] 32)).mp.lookup h.ok P
    obtain ⟨a0, a1, a2, a3, a4, a5, a6, a7, hr⟩ := eight h8
    rw [hr] at hlk1 HK HR
    unfold rowV at hlk1
    simp only [List.map_cons, List.map_nil] at hlk1
    have HJ := Lib.hid (show j = 0 ∨ j = 1 ∨ j = 2 ∨ j = 3 ∨ j = 4 ∨ j = 5 ∨ j = 6 ∨ j = 7 by omega)
    have hi0 : (0 : Int) ≤ (i : Int) := by omega
    have hi32 : (i : Int) < 32 := by omega
    have HLS := Lib.hid hLS
    have HGN := Lib.hid hGN
    have hxk : ∃ k t, x.kind = k ∧ x.thing = t := ⟨_, _, rfl, rfl⟩
    obtain ⟨k, t, hk, ht⟩ := hxk
    have HLv : Hid (∀ (W : World) (m' : Option Nat) (D' : List (Int × Fds)) (b : Nat), FM W p m' F D' → BoxA W b 3 #[.int .i64 ((i : Int) + 1)] → b ≠ p → Calls Try.prog 36 #[.pointer (some ⟨p, 0, none⟩), .slice (some ⟨b, 0, none⟩) 1 1] W fun e w' =>
        ∃ a cap, e = .returned (.slice a (if decide (refsN (rmL L P j) x.file = 0) = true then 1 else 0) cap) ∧ FM w' p m' (F.modify (φ x.file - 1) less1) D' ∧ MvF p m' m' W w') := fun W m' D' b hW hB hbp => by
      refine (leave_any hW (ns := [(i : Int) + 1]) (by simp) (fun a ha => .inr ⟨i, hi, List.mem_singleton.1 ha⟩) HBD.out b hB.lt hbp (hW.mp.far hB) (fun j x hj => ?_)).mono ?_
      · cases j with
        | zero => simp at hj; subst hj; exact hB.at 0 rfl
        | succ j => simp at hj
      · rintro e w' ⟨u, rfl, hO, hF', hM'⟩
        obtain ⟨a, cap, rfl, _⟩ := hO.in
        rw [HLS.out] at hF'
        refine ⟨a, cap, ?_, hF', hM'⟩
        rw [HGN.out]
        by_cases c : refsN (rmL L P j) x.file = 0
        · rw [if_pos c, if_pos (by simpa using c)]; rfl
        · rw [if_neg c, if_neg (by simpa using c)]; rfl
    have b0 := BoxA.new w 32 #[.int .i64 0, .int .i64 0]
    have b1 := BoxA.new (w.alloc (.cells #[.int .i64 0, .int .i64 0] 32)) 32 #[.int .i64 k, .int .i64 t]
    rw [World.size_alloc] at b1
    have HX : Hid (∀ (o3 : Obj) (w4 w5 : World) (m' : Option Nat) (o : Obj), MvF p m m' (((w.alloc (.cells #[.int .i64 0, .int .i64 0] 32)).alloc (.cells #[.int .i64 k, .int .i64 t] 32)).alloc o3) w4 → MvF p m' m' (w4.alloc o) w5 → BoxA w5 w.heap.size 32 #[.int .i64 0, .int .i64 0] ∧ BoxA w5 (w.heap.size + 1) 32 #[.int .i64 k, .int .i64 t]) := fun o3 w4 w5 m' o M4 M5 =>
      ⟨box_two (Nat.le_refl _) ((b0.alloc _).alloc _) HP1.out HML.out M4 o M5, box_two (by omega) (b1.alloc _) HP1.out HML.out M4 o M5⟩
    rw [hk, ht] at cm1 hlk1
    rw [hk, ht]
    dsimp only at c0 c1
    rw [hk] at c0
    rw [ht] at c1
    generalize decide (refsN (rmL L P j) x.file = 0) = B at *
    have HB0 := Lib.hid b0
    have hbj : 0 ≤ (j : Int) := by omega
    clear h hF hD hw hE hx hφ hat hN hRF hRD hwr hrr hLS hGN hCL hCB cm hlk h8 hK hr hk ht b0 b1 h1 h2 h3 hp1
    have H3 : Hid (∀ o3, FM (((w.alloc (.cells #[.int .i64 0, .int .i64 0] 32)).alloc (.cells #[.int .i64 k, .int .i64 t] 32)).alloc o3) p m F D) := fun o3 => ((HH.out.alloc _).alloc _).alloc o3
    have M3 : Hid (∀ o3, MvF p m m w (((w.alloc (.cells #[.int .i64 0, .int .i64 0] 32)).alloc (.cells #[.int .i64 k, .int .i64 t] 32)).alloc o3)) := fun o3 => (((MvF.refl w).alloc _).alloc _).alloc o3
    have H1 := Lib.hid (HH.out.alloc (.cells #[.int .i64 0, .int .i64 0] 32))
    cases B with
    | false =>
      go_enter Try.func19, Try.ntmps19
      go_wp2_with (first
        | (go_at_call 30; refine (HN.out _ H1.out).mono ?_; rintro e w' ⟨rfl, rfl⟩)
        | (go_at_call 35; refine (HK.out _ _ (by rcases HJ.out with rfl | rfl | rfl | rfl | rfl | rfl | rfl | rfl <;> rfl) (H3.out _)).mono ?_; rintro e w4 ⟨rfl, m4, h4, m4'⟩; have H4 := Lib.hid h4; have M4 := Lib.hid m4'; clear h4 m4')
        | (go_at_call 36; refine (HLv.out _ _ _ _ (H4.out.alloc _) (BoxA.new _ _ _) (by have := H4.out.p_lt; omega)).mono ?_; rintro e w5 ⟨a5, cap5, rfl, h5, m5⟩; have H5 := Lib.hid h5; have M5 := Lib.hid m5; obtain ⟨x6, x11⟩ := HX.out _ _ _ _ _ M4.out m5; have y0 := x11.at 0 (v := .int .i64 k) rfl; have y1 := x11.at 1 (v := .int .i64 t) rfl; have z0 := x6.at 0 (v := .int .i64 0) rfl; have z1 := x6.at 1 (v := .int .i64 0) rfl; have f0 := x6.f 0; have f1 := x6.f 1; have X6 := Lib.hid x6; clear h5 m5 x6 x11))
      have hps := HP1.out
      have xs := (X6.out.set 0 (.int .i64 k)).set 1 (.int .i64 t)
      have s0 := xs.at 0 (v := .int .i64 k) rfl
      have s1 := xs.at 1 (v := .int .i64 t) rfl
      have hF9 := (H5.out.setOther (b := w.heap.size) 0 (.int .i64 k) (by omega) (H5.out.mp.far X6.out)).setOther (b := w.heap.size) 1 (.int .i64 t) (by omega) (H5.out.mp.far X6.out)
      have hM9 := ((((M3.out _).trans (M4.out.alloc _)).trans M5.out).setHi (b := w.heap.size) (Nat.le_refl _) 0 (.int .i64 k)).setHi (b := w.heap.size) (Nat.le_refl _) 1 (.int .i64 t)
      exact bodyPost_ret (v := .tuple #[.agg #[.int .i64 k, .int .i64 t], .bool false, .int .i64 0]) (by simp [results, Try.results19, go_sem, s0, s1]) rfl ⟨rfl, fi_mv hF9 hM9 HR.out.1 HR.out.2.1 HR.out.2.2⟩
    | true =>
      go_enter Try.func19, Try.ntmps19
      go_wp2_with (first
        | (go_at_call 30; refine (HN.out _ H1.out).mono ?_; rintro e w' ⟨rfl, rfl⟩)
        | (go_at_call 35; refine (HK.out _ _ (by rcases HJ.out with rfl | rfl | rfl | rfl | rfl | rfl | rfl | rfl <;> rfl) (H3.out _)).mono ?_; rintro e w4 ⟨rfl, m4, h4, m4'⟩; have H4 := Lib.hid h4; have M4 := Lib.hid m4'; clear h4 m4')
        | (go_at_call 36; refine (HLv.out _ _ _ _ (H4.out.alloc _) (BoxA.new _ _ _) (by have := H4.out.p_lt; omega)).mono ?_; rintro e w5 ⟨a5, cap5, rfl, h5, m5⟩; have H5 := Lib.hid h5; have M5 := Lib.hid m5; obtain ⟨x6, x11⟩ := HX.out _ _ _ _ _ M4.out m5; have y0 := x11.at 0 (v := .int .i64 k) rfl; have y1 := x11.at 1 (v := .int .i64 t) rfl; have z0 := x6.at 0 (v := .int .i64 0) rfl; have z1 := x6.at 1 (v := .int .i64 0) rfl; have f0 := x6.f 0; have f1 := x6.f 1; have X6 := Lib.hid x6; clear h5 m5 x6 x11))
      have hps := HP1.out
      have xs := (X6.out.set 0 (.int .i64 k)).set 1 (.int .i64 t)
      have s0 := xs.at 0 (v := .int .i64 k) rfl
      have s1 := xs.at 1 (v := .int .i64 t) rfl
      have hF9 := (H5.out.setOther (b := w.heap.size) 0 (.int .i64 k) (by omega) (H5.out.mp.far X6.out)).setOther (b := w.heap.size) 1 (.int .i64 t) (by omega) (H5.out.mp.far X6.out)
      have hM9 := ((((M3.out _).trans (M4.out.alloc _)).trans M5.out).setHi (b := w.heap.size) (Nat.le_refl _) 0 (.int .i64 k)).setHi (b := w.heap.size) (Nat.le_refl _) 1 (.int .i64 t)
      exact bodyPost_ret (v := .tuple #[.agg #[.int .i64 k, .int .i64 t], .bool true, .int .i64 0]) (by simp [results, Try.results19, go_sem, s0, s1]) rfl ⟨rfl, fi_mv hF9 hM9 HR.out.1 HR.out.2.1 HR.out.2.2⟩
  · have HN := Lib.hid (num_no (p := p) (m := m) hw hF hD hE)
    have hCB : clsB L P d = false := by unfold clsB; rw [show (getE L P d == 0) = false by simpa using hE]; rfl
    have hCL : clsL L P d = L := by unfold clsL; rw [if_neg hE]
    rw [getX_no hE, hCB, hCL]
    have hb : (getE L P d == 0) = false := by simpa using hE
    have HH := Lib.hid (h.alloc (.cells #[.int .i64 0, .int .i64 0] 32))
    have HR := Lib.hid (And.intro hF (And.intro hD hw))
    generalize getE L P d = E at *
    clear h hF hD hw hE hCB hCL
    go_enter Try.func19, Try.ntmps19
    go_wp2_with (go_at_call 30; refine (HN.out _ HH.out).mono ?_; rintro e w' ⟨rfl, rfl⟩)
    exact bodyPost_ret (v := .tuple #[.agg #[.int .i64 0, .int .i64 0], .bool false, .int .i64 E]) (by simp [results, Try.results19, go_sem]) rfl ⟨rfl, fi_mv HH.out (MvF.of_below ((Below.refl _ _).alloc (Nat.le_refl _) _)) HR.out.1 HR.out.2.1 HR.out.2.2⟩
end
end Go.Proofs.Ytfgigofmmapbmaa
