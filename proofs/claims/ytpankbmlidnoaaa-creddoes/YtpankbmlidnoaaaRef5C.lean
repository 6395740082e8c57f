/- The document's own answers for cred (taffrailref05), walked: Allowed, Owns, Set. -/
import Derived.Test.YtpankbmlidnoaaaRef5B
namespace Go.Proofs.Ytpankbmlidnoaaa
open Go.RowKit

set_option maxRecDepth 100000 in
set_option maxHeartbeats 1000000 in
theorem rallowed_any (u g a b c d m x : Int) (w : World) : Calls Try.prog 22 #[.agg #[.int .i64 u, .int .i64 g], .agg #[.int .i64 a, .int .i64 b, .int .i64 c, .int .i64 d, .int .i64 m], .int .i64 x] w fun e w' =>
    e = .returned (.int .i64 (allowN u g a b c d m x)) ∧ Below w.heap.size w w' := by
  by_cases hr : rightB u g = true
  · by_cases hp : permB a b c d m = true
    · by_cases hx : wantB x = true
      · have hn := bits_bd u g a b c d m
        have BT := Lib.hid (rbits_any u g a b c d m)
        have HN : Hid (allowN u g a b c d m x = if hasB (bitsN u g a b c d m) x then 0 else 51) := by unfold Hid allowN; rw [hr, hp, hx]; rfl
        generalize bitsN u g a b c d m = n at *
        have hh := has_bits' hn.1 hn.2 hx
        have HR := Lib.hid hr; have HP := Lib.hid hp; clear hr hp hn
        have hxx : x = 2 ∨ x = 4 ∨ x = 6 := by simpa [wantB] using hx
        clear hx
        have HX := Lib.hid hxx; clear hxx
        by_cases hs : hasB n x = true
        · rw [hs] at HN hh
          rcases HX.out with rfl | rfl | rfl
          all_goals
            have hh' := hh
            clear hh HX hs
            simp only [Bool.not_true] at hh'
            have bC := (BoxA.new w 23 #[.int .i64 u, .int .i64 g]).alloc (.cells #[.int .i64 a, .int .i64 b, .int .i64 c, .int .i64 d, .int .i64 m] 25)
            have bP := BoxA.new (w.alloc (.cells #[.int .i64 u, .int .i64 g] 23)) 25 #[.int .i64 a, .int .i64 b, .int .i64 c, .int .i64 d, .int .i64 m]
            simp only [World.size_alloc] at bP
            have HB0 := Lib.hid (((Below.refl w.heap.size w).alloc (by first | exact Nat.le_refl _ | (simp; done) | (simp; omega)) (.cells #[.int .i64 u, .int .i64 g] 23)).alloc (by first | exact Nat.le_refl _ | (simp; done) | (simp; omega)) (.cells #[.int .i64 a, .int .i64 b, .int .i64 c, .int .i64 d, .int .i64 m] 25))
            have BC0 := Lib.hid bC; have BP0 := Lib.hid bP; clear bC bP
            go_enter Try.func22, Try.ntmps22
            go_wp2_with fail
            refine (rright_any u g _).mono ?_
            rintro e w1 ⟨rfl, hB⟩
            rw [HR.out]
            have bC := BC0.out.below' hB; have bP := BP0.out.below' hB
            have HB1 := Lib.hid (HB0.out.trans (hB.mono HB0.out.size))
            clear hB BC0 BP0
            have c0 := bC.at 0 rfl; have c1 := bC.at 1 rfl; have p0 := bP.at 0 rfl; have p1 := bP.at 1 rfl; have p2 := bP.at 2 rfl; have p3 := bP.at 3 rfl; have p4 := bP.at 4 rfl
            have BC1 := Lib.hid bC; have BP1 := Lib.hid bP; clear bC bP
            go_wp2_with fail
            refine (rperm_any a b c d m _).mono ?_
            rintro e w2 ⟨rfl, hB⟩
            rw [HP.out]
            have bC := BC1.out.below' hB; have bP := BP1.out.below' hB
            have HB2 := Lib.hid (HB1.out.trans (hB.mono HB1.out.size))
            clear hB c0 c1 p0 p1 p2 p3 p4 BC1 BP1
            have c0 := bC.at 0 rfl; have c1 := bC.at 1 rfl; have p0 := bP.at 0 rfl; have p1 := bP.at 1 rfl; have p2 := bP.at 2 rfl; have p3 := bP.at 3 rfl; have p4 := bP.at 4 rfl
            have BC2 := Lib.hid bC; have BP2 := Lib.hid bP; clear bC bP
            go_wp2_with fail
            refine (BT.out _).mono ?_
            rintro e w3 ⟨rfl, hB⟩
            have bC := BC2.out.below' hB; have bP := BP2.out.below' hB
            have HB3 := Lib.hid (HB2.out.trans (hB.mono HB2.out.size))
            clear hB c0 c1 p0 p1 p2 p3 p4 BC2 BP2
            have c0 := bC.at 0 rfl; have c1 := bC.at 1 rfl; have p0 := bP.at 0 rfl; have p1 := bP.at 1 rfl; have p2 := bP.at 2 rfl; have p3 := bP.at 3 rfl; have p4 := bP.at 4 rfl
            have BC3 := Lib.hid bC; have BP3 := Lib.hid bP; clear bC bP
            go_wp2
            go_ret
            exact ⟨ret_i HN.out.symm, HB3.out⟩
        · rw [Bool.eq_false_iff.2 hs] at HN hh
          rcases HX.out with rfl | rfl | rfl
          all_goals
            have hh' := hh
            clear hh HX hs
            simp only [Bool.not_false] at hh'
            have bC := (BoxA.new w 23 #[.int .i64 u, .int .i64 g]).alloc (.cells #[.int .i64 a, .int .i64 b, .int .i64 c, .int .i64 d, .int .i64 m] 25)
            have bP := BoxA.new (w.alloc (.cells #[.int .i64 u, .int .i64 g] 23)) 25 #[.int .i64 a, .int .i64 b, .int .i64 c, .int .i64 d, .int .i64 m]
            simp only [World.size_alloc] at bP
            have HB0 := Lib.hid (((Below.refl w.heap.size w).alloc (by first | exact Nat.le_refl _ | (simp; done) | (simp; omega)) (.cells #[.int .i64 u, .int .i64 g] 23)).alloc (by first | exact Nat.le_refl _ | (simp; done) | (simp; omega)) (.cells #[.int .i64 a, .int .i64 b, .int .i64 c, .int .i64 d, .int .i64 m] 25))
            have BC0 := Lib.hid bC; have BP0 := Lib.hid bP; clear bC bP
            go_enter Try.func22, Try.ntmps22
            go_wp2_with fail
            refine (rright_any u g _).mono ?_
            rintro e w1 ⟨rfl, hB⟩
            rw [HR.out]
            have bC := BC0.out.below' hB; have bP := BP0.out.below' hB
            have HB1 := Lib.hid (HB0.out.trans (hB.mono HB0.out.size))
            clear hB BC0 BP0
            have c0 := bC.at 0 rfl; have c1 := bC.at 1 rfl; have p0 := bP.at 0 rfl; have p1 := bP.at 1 rfl; have p2 := bP.at 2 rfl; have p3 := bP.at 3 rfl; have p4 := bP.at 4 rfl
            have BC1 := Lib.hid bC; have BP1 := Lib.hid bP; clear bC bP
            go_wp2_with fail
            refine (rperm_any a b c d m _).mono ?_
            rintro e w2 ⟨rfl, hB⟩
            rw [HP.out]
            have bC := BC1.out.below' hB; have bP := BP1.out.below' hB
            have HB2 := Lib.hid (HB1.out.trans (hB.mono HB1.out.size))
            clear hB c0 c1 p0 p1 p2 p3 p4 BC1 BP1
            have c0 := bC.at 0 rfl; have c1 := bC.at 1 rfl; have p0 := bP.at 0 rfl; have p1 := bP.at 1 rfl; have p2 := bP.at 2 rfl; have p3 := bP.at 3 rfl; have p4 := bP.at 4 rfl
            have BC2 := Lib.hid bC; have BP2 := Lib.hid bP; clear bC bP
            go_wp2_with fail
            refine (BT.out _).mono ?_
            rintro e w3 ⟨rfl, hB⟩
            have bC := BC2.out.below' hB; have bP := BP2.out.below' hB
            have HB3 := Lib.hid (HB2.out.trans (hB.mono HB2.out.size))
            clear hB c0 c1 p0 p1 p2 p3 p4 BC2 BP2
            have c0 := bC.at 0 rfl; have c1 := bC.at 1 rfl; have p0 := bP.at 0 rfl; have p1 := bP.at 1 rfl; have p2 := bP.at 2 rfl; have p3 := bP.at 3 rfl; have p4 := bP.at 4 rfl
            have BC3 := Lib.hid bC; have BP3 := Lib.hid bP; clear bC bP
            go_wp2
            go_ret
            exact ⟨ret_i HN.out.symm, HB3.out⟩
      · have HN : Hid (allowN u g a b c d m x = 50) := by unfold Hid allowN; rw [hr, hp, Bool.eq_false_iff.2 hx]; rfl
        have hxx : ¬ (x = 2 ∨ x = 4 ∨ x = 6) := by simpa [wantB] using hx
        have x2 : (x != 2) = true := by simp; omega
        have x4 : (x != 4) = true := by simp; omega
        have x6 : (x != 6) = true := by simp; omega
        have HR := Lib.hid hr; have HP := Lib.hid hp; clear hr hp hx hxx
        have bC := (BoxA.new w 23 #[.int .i64 u, .int .i64 g]).alloc (.cells #[.int .i64 a, .int .i64 b, .int .i64 c, .int .i64 d, .int .i64 m] 25)
        have bP := BoxA.new (w.alloc (.cells #[.int .i64 u, .int .i64 g] 23)) 25 #[.int .i64 a, .int .i64 b, .int .i64 c, .int .i64 d, .int .i64 m]
        simp only [World.size_alloc] at bP
        have HB0 := Lib.hid (((Below.refl w.heap.size w).alloc (by first | exact Nat.le_refl _ | (simp; done) | (simp; omega)) (.cells #[.int .i64 u, .int .i64 g] 23)).alloc (by first | exact Nat.le_refl _ | (simp; done) | (simp; omega)) (.cells #[.int .i64 a, .int .i64 b, .int .i64 c, .int .i64 d, .int .i64 m] 25))
        have BC0 := Lib.hid bC; have BP0 := Lib.hid bP; clear bC bP
        go_enter Try.func22, Try.ntmps22
        go_wp2_with fail
        refine (rright_any u g _).mono ?_
        rintro e w1 ⟨rfl, hB⟩
        rw [HR.out]
        have bC := BC0.out.below' hB; have bP := BP0.out.below' hB
        have HB1 := Lib.hid (HB0.out.trans (hB.mono HB0.out.size))
        clear hB BC0 BP0
        have c0 := bC.at 0 rfl; have c1 := bC.at 1 rfl; have p0 := bP.at 0 rfl; have p1 := bP.at 1 rfl; have p2 := bP.at 2 rfl; have p3 := bP.at 3 rfl; have p4 := bP.at 4 rfl
        have BC1 := Lib.hid bC; have BP1 := Lib.hid bP; clear bC bP
        go_wp2_with fail
        refine (rperm_any a b c d m _).mono ?_
        rintro e w2 ⟨rfl, hB⟩
        rw [HP.out]
        have bC := BC1.out.below' hB; have bP := BP1.out.below' hB
        have HB2 := Lib.hid (HB1.out.trans (hB.mono HB1.out.size))
        clear hB c0 c1 p0 p1 p2 p3 p4 BC1 BP1
        have c0 := bC.at 0 rfl; have c1 := bC.at 1 rfl; have p0 := bP.at 0 rfl; have p1 := bP.at 1 rfl; have p2 := bP.at 2 rfl; have p3 := bP.at 3 rfl; have p4 := bP.at 4 rfl
        have BC2 := Lib.hid bC; have BP2 := Lib.hid bP; clear bC bP
        go_wp2
        go_ret
        exact ⟨ret_i HN.out.symm, HB2.out⟩
    · have HN : Hid (allowN u g a b c d m x = 50) := by unfold Hid allowN; rw [hr, Bool.eq_false_iff.2 hp]; rfl
      have HR := Lib.hid hr; have HP := Lib.hid (Bool.eq_false_iff.2 hp); clear hr hp
      have bC := (BoxA.new w 23 #[.int .i64 u, .int .i64 g]).alloc (.cells #[.int .i64 a, .int .i64 b, .int .i64 c, .int .i64 d, .int .i64 m] 25)
      have bP := BoxA.new (w.alloc (.cells #[.int .i64 u, .int .i64 g] 23)) 25 #[.int .i64 a, .int .i64 b, .int .i64 c, .int .i64 d, .int .i64 m]
      simp only [World.size_alloc] at bP
      have HB0 := Lib.hid (((Below.refl w.heap.size w).alloc (by first | exact Nat.le_refl _ | (simp; done) | (simp; omega)) (.cells #[.int .i64 u, .int .i64 g] 23)).alloc (by first | exact Nat.le_refl _ | (simp; done) | (simp; omega)) (.cells #[.int .i64 a, .int .i64 b, .int .i64 c, .int .i64 d, .int .i64 m] 25))
      have BC0 := Lib.hid bC; have BP0 := Lib.hid bP; clear bC bP
      go_enter Try.func22, Try.ntmps22
      go_wp2_with fail
      refine (rright_any u g _).mono ?_
      rintro e w1 ⟨rfl, hB⟩
      rw [HR.out]
      have bC := BC0.out.below' hB; have bP := BP0.out.below' hB
      have HB1 := Lib.hid (HB0.out.trans (hB.mono HB0.out.size))
      clear hB BC0 BP0
      have c0 := bC.at 0 rfl; have c1 := bC.at 1 rfl; have p0 := bP.at 0 rfl; have p1 := bP.at 1 rfl; have p2 := bP.at 2 rfl; have p3 := bP.at 3 rfl; have p4 := bP.at 4 rfl
      have BC1 := Lib.hid bC; have BP1 := Lib.hid bP; clear bC bP
      go_wp2_with fail
      refine (rperm_any a b c d m _).mono ?_
      rintro e w2 ⟨rfl, hB⟩
      rw [HP.out]
      have bC := BC1.out.below' hB; have bP := BP1.out.below' hB
      have HB2 := Lib.hid (HB1.out.trans (hB.mono HB1.out.size))
      clear hB c0 c1 p0 p1 p2 p3 p4 BC1 BP1
      have c0 := bC.at 0 rfl; have c1 := bC.at 1 rfl; have p0 := bP.at 0 rfl; have p1 := bP.at 1 rfl; have p2 := bP.at 2 rfl; have p3 := bP.at 3 rfl; have p4 := bP.at 4 rfl
      have BC2 := Lib.hid bC; have BP2 := Lib.hid bP; clear bC bP
      go_wp2
      go_ret
      exact ⟨ret_i HN.out.symm, HB2.out⟩
  · have HN : Hid (allowN u g a b c d m x = 50) := by unfold Hid allowN; rw [Bool.eq_false_iff.2 hr]; rfl
    have HR := Lib.hid (Bool.eq_false_iff.2 hr); clear hr
    have bC := (BoxA.new w 23 #[.int .i64 u, .int .i64 g]).alloc (.cells #[.int .i64 a, .int .i64 b, .int .i64 c, .int .i64 d, .int .i64 m] 25)
    have bP := BoxA.new (w.alloc (.cells #[.int .i64 u, .int .i64 g] 23)) 25 #[.int .i64 a, .int .i64 b, .int .i64 c, .int .i64 d, .int .i64 m]
    simp only [World.size_alloc] at bP
    have HB0 := Lib.hid (((Below.refl w.heap.size w).alloc (by first | exact Nat.le_refl _ | (simp; done) | (simp; omega)) (.cells #[.int .i64 u, .int .i64 g] 23)).alloc (by first | exact Nat.le_refl _ | (simp; done) | (simp; omega)) (.cells #[.int .i64 a, .int .i64 b, .int .i64 c, .int .i64 d, .int .i64 m] 25))
    have BC0 := Lib.hid bC; have BP0 := Lib.hid bP; clear bC bP
    go_enter Try.func22, Try.ntmps22
    go_wp2_with fail
    refine (rright_any u g _).mono ?_
    rintro e w1 ⟨rfl, hB⟩
    rw [HR.out]
    have bC := BC0.out.below' hB; have bP := BP0.out.below' hB
    have HB1 := Lib.hid (HB0.out.trans (hB.mono HB0.out.size))
    clear hB BC0 BP0
    have c0 := bC.at 0 rfl; have c1 := bC.at 1 rfl; have p0 := bP.at 0 rfl; have p1 := bP.at 1 rfl; have p2 := bP.at 2 rfl; have p3 := bP.at 3 rfl; have p4 := bP.at 4 rfl
    have BC1 := Lib.hid bC; have BP1 := Lib.hid bP; clear bC bP
    go_wp2_with fail
    refine (rperm_any a b c d m _).mono ?_
    rintro e w2 ⟨rfl, hB⟩
    have bC := BC1.out.below' hB; have bP := BP1.out.below' hB
    have HB2 := Lib.hid (HB1.out.trans (hB.mono HB1.out.size))
    clear hB c0 c1 p0 p1 p2 p3 p4 BC1 BP1
    have c0 := bC.at 0 rfl; have c1 := bC.at 1 rfl; have p0 := bP.at 0 rfl; have p1 := bP.at 1 rfl; have p2 := bP.at 2 rfl; have p3 := bP.at 3 rfl; have p4 := bP.at 4 rfl
    have BC2 := Lib.hid bC; have BP2 := Lib.hid bP; clear bC bP
    go_wp2
    go_ret
    exact ⟨ret_i HN.out.symm, HB2.out⟩

set_option maxRecDepth 100000 in
set_option maxHeartbeats 1000000 in
theorem rowns_any (u g a b c d m : Int) (w : World) : Calls Try.prog 24 #[.agg #[.int .i64 u, .int .i64 g], .agg #[.int .i64 a, .int .i64 b, .int .i64 c, .int .i64 d, .int .i64 m]] w fun e w' =>
    e = .returned (.bool (ownsB u g a b c d m)) ∧ Below w.heap.size w w' := by
  by_cases hr : rightB u g = true
  · by_cases hp : permB a b c d m = true
    · have hN : ownsB u g a b c d m = decide (3 ≤ placeN u g a b c d) := by unfold ownsB; rw [hr, hp]; rfl
      have HR := Lib.hid hr; have HP := Lib.hid hp; clear hr hp
      by_cases h0 : u = 0
      · have HN : Hid (ownsB u g a b c d m = true) := by unfold Hid; rw [hN]; simp [placeN, h0]
        have hb : (u == 0) = true := by simpa using h0
        clear h0 hN
        have bC := (BoxA.new w 23 #[.int .i64 u, .int .i64 g]).alloc (.cells #[.int .i64 a, .int .i64 b, .int .i64 c, .int .i64 d, .int .i64 m] 25)
        have bP := BoxA.new (w.alloc (.cells #[.int .i64 u, .int .i64 g] 23)) 25 #[.int .i64 a, .int .i64 b, .int .i64 c, .int .i64 d, .int .i64 m]
        simp only [World.size_alloc] at bP
        have HB0 := Lib.hid (((Below.refl w.heap.size w).alloc (by first | exact Nat.le_refl _ | (simp; done) | (simp; omega)) (.cells #[.int .i64 u, .int .i64 g] 23)).alloc (by first | exact Nat.le_refl _ | (simp; done) | (simp; omega)) (.cells #[.int .i64 a, .int .i64 b, .int .i64 c, .int .i64 d, .int .i64 m] 25))
        have BC0 := Lib.hid bC; have BP0 := Lib.hid bP; clear bC bP
        go_enter Try.func24, Try.ntmps24
        go_wp2_with fail
        refine (rright_any u g _).mono ?_
        rintro e w1 ⟨rfl, hB⟩
        rw [HR.out]
        have bC := BC0.out.below' hB; have bP := BP0.out.below' hB
        have HB1 := Lib.hid (HB0.out.trans (hB.mono HB0.out.size))
        clear hB BC0 BP0
        have c0 := bC.at 0 rfl; have c1 := bC.at 1 rfl; have p0 := bP.at 0 rfl; have p1 := bP.at 1 rfl; have p2 := bP.at 2 rfl; have p3 := bP.at 3 rfl; have p4 := bP.at 4 rfl
        have BC1 := Lib.hid bC; have BP1 := Lib.hid bP; clear bC bP
        go_wp2_with fail
        refine (rperm_any a b c d m _).mono ?_
        rintro e w2 ⟨rfl, hB⟩
        rw [HP.out]
        have bC := BC1.out.below' hB; have bP := BP1.out.below' hB
        have HB2 := Lib.hid (HB1.out.trans (hB.mono HB1.out.size))
        clear hB c0 c1 p0 p1 p2 p3 p4 BC1 BP1
        have c0 := bC.at 0 rfl; have c1 := bC.at 1 rfl; have p0 := bP.at 0 rfl; have p1 := bP.at 1 rfl; have p2 := bP.at 2 rfl; have p3 := bP.at 3 rfl; have p4 := bP.at 4 rfl
        have BC2 := Lib.hid bC; have BP2 := Lib.hid bP; clear bC bP
        go_wp2
        go_ret
        exact ⟨ret_b HN.out.symm, HB2.out⟩
      · have hb : (u == 0) = false := by simpa using h0
        by_cases h1 : u = a
        · have HN : Hid (ownsB u g a b c d m = true) := by unfold Hid; rw [hN]; simp [placeN, h0, ← h1]
          have hb1 : (u == a) = true := by simpa using h1
          clear h0 h1 hN
          have bC := (BoxA.new w 23 #[.int .i64 u, .int .i64 g]).alloc (.cells #[.int .i64 a, .int .i64 b, .int .i64 c, .int .i64 d, .int .i64 m] 25)
          have bP := BoxA.new (w.alloc (.cells #[.int .i64 u, .int .i64 g] 23)) 25 #[.int .i64 a, .int .i64 b, .int .i64 c, .int .i64 d, .int .i64 m]
          simp only [World.size_alloc] at bP
          have HB0 := Lib.hid (((Below.refl w.heap.size w).alloc (by first | exact Nat.le_refl _ | (simp; done) | (simp; omega)) (.cells #[.int .i64 u, .int .i64 g] 23)).alloc (by first | exact Nat.le_refl _ | (simp; done) | (simp; omega)) (.cells #[.int .i64 a, .int .i64 b, .int .i64 c, .int .i64 d, .int .i64 m] 25))
          have BC0 := Lib.hid bC; have BP0 := Lib.hid bP; clear bC bP
          go_enter Try.func24, Try.ntmps24
          go_wp2_with fail
          refine (rright_any u g _).mono ?_
          rintro e w1 ⟨rfl, hB⟩
          rw [HR.out]
          have bC := BC0.out.below' hB; have bP := BP0.out.below' hB
          have HB1 := Lib.hid (HB0.out.trans (hB.mono HB0.out.size))
          clear hB BC0 BP0
          have c0 := bC.at 0 rfl; have c1 := bC.at 1 rfl; have p0 := bP.at 0 rfl; have p1 := bP.at 1 rfl; have p2 := bP.at 2 rfl; have p3 := bP.at 3 rfl; have p4 := bP.at 4 rfl
          have BC1 := Lib.hid bC; have BP1 := Lib.hid bP; clear bC bP
          go_wp2_with fail
          refine (rperm_any a b c d m _).mono ?_
          rintro e w2 ⟨rfl, hB⟩
          rw [HP.out]
          have bC := BC1.out.below' hB; have bP := BP1.out.below' hB
          have HB2 := Lib.hid (HB1.out.trans (hB.mono HB1.out.size))
          clear hB c0 c1 p0 p1 p2 p3 p4 BC1 BP1
          have c0 := bC.at 0 rfl; have c1 := bC.at 1 rfl; have p0 := bP.at 0 rfl; have p1 := bP.at 1 rfl; have p2 := bP.at 2 rfl; have p3 := bP.at 3 rfl; have p4 := bP.at 4 rfl
          have BC2 := Lib.hid bC; have BP2 := Lib.hid bP; clear bC bP
          go_wp2
          go_ret
          exact ⟨ret_b HN.out.symm, HB2.out⟩
        · have hb1 : (u == a) = false := by simpa using h1
          by_cases h2 : u = c
          · have HN : Hid (ownsB u g a b c d m = true) := by unfold Hid; rw [hN]; simp [placeN, h0, ← h2]
            have hb2 : (u == c) = true := by simpa using h2
            clear h0 h1 h2 hN
            have bC := (BoxA.new w 23 #[.int .i64 u, .int .i64 g]).alloc (.cells #[.int .i64 a, .int .i64 b, .int .i64 c, .int .i64 d, .int .i64 m] 25)
            have bP := BoxA.new (w.alloc (.cells #[.int .i64 u, .int .i64 g] 23)) 25 #[.int .i64 a, .int .i64 b, .int .i64 c, .int .i64 d, .int .i64 m]
            simp only [World.size_alloc] at bP
            have HB0 := Lib.hid (((Below.refl w.heap.size w).alloc (by first | exact Nat.le_refl _ | (simp; done) | (simp; omega)) (.cells #[.int .i64 u, .int .i64 g] 23)).alloc (by first | exact Nat.le_refl _ | (simp; done) | (simp; omega)) (.cells #[.int .i64 a, .int .i64 b, .int .i64 c, .int .i64 d, .int .i64 m] 25))
            have BC0 := Lib.hid bC; have BP0 := Lib.hid bP; clear bC bP
            go_enter Try.func24, Try.ntmps24
            go_wp2_with fail
            refine (rright_any u g _).mono ?_
            rintro e w1 ⟨rfl, hB⟩
            rw [HR.out]
            have bC := BC0.out.below' hB; have bP := BP0.out.below' hB
            have HB1 := Lib.hid (HB0.out.trans (hB.mono HB0.out.size))
            clear hB BC0 BP0
            have c0 := bC.at 0 rfl; have c1 := bC.at 1 rfl; have p0 := bP.at 0 rfl; have p1 := bP.at 1 rfl; have p2 := bP.at 2 rfl; have p3 := bP.at 3 rfl; have p4 := bP.at 4 rfl
            have BC1 := Lib.hid bC; have BP1 := Lib.hid bP; clear bC bP
            go_wp2_with fail
            refine (rperm_any a b c d m _).mono ?_
            rintro e w2 ⟨rfl, hB⟩
            rw [HP.out]
            have bC := BC1.out.below' hB; have bP := BP1.out.below' hB
            have HB2 := Lib.hid (HB1.out.trans (hB.mono HB1.out.size))
            clear hB c0 c1 p0 p1 p2 p3 p4 BC1 BP1
            have c0 := bC.at 0 rfl; have c1 := bC.at 1 rfl; have p0 := bP.at 0 rfl; have p1 := bP.at 1 rfl; have p2 := bP.at 2 rfl; have p3 := bP.at 3 rfl; have p4 := bP.at 4 rfl
            have BC2 := Lib.hid bC; have BP2 := Lib.hid bP; clear bC bP
            go_wp2
            go_ret
            exact ⟨ret_b HN.out.symm, HB2.out⟩
          · have hb2 : (u == c) = false := by simpa using h2
            have HN : Hid (ownsB u g a b c d m = false) := by unfold Hid; rw [hN]; simp only [placeN, h0, h1, h2, if_false, or_self]; split <;> rfl
            clear h0 h1 h2 hN
            have bC := (BoxA.new w 23 #[.int .i64 u, .int .i64 g]).alloc (.cells #[.int .i64 a, .int .i64 b, .int .i64 c, .int .i64 d, .int .i64 m] 25)
            have bP := BoxA.new (w.alloc (.cells #[.int .i64 u, .int .i64 g] 23)) 25 #[.int .i64 a, .int .i64 b, .int .i64 c, .int .i64 d, .int .i64 m]
            simp only [World.size_alloc] at bP
            have HB0 := Lib.hid (((Below.refl w.heap.size w).alloc (by first | exact Nat.le_refl _ | (simp; done) | (simp; omega)) (.cells #[.int .i64 u, .int .i64 g] 23)).alloc (by first | exact Nat.le_refl _ | (simp; done) | (simp; omega)) (.cells #[.int .i64 a, .int .i64 b, .int .i64 c, .int .i64 d, .int .i64 m] 25))
            have BC0 := Lib.hid bC; have BP0 := Lib.hid bP; clear bC bP
            go_enter Try.func24, Try.ntmps24
            go_wp2_with fail
            refine (rright_any u g _).mono ?_
            rintro e w1 ⟨rfl, hB⟩
            rw [HR.out]
            have bC := BC0.out.below' hB; have bP := BP0.out.below' hB
            have HB1 := Lib.hid (HB0.out.trans (hB.mono HB0.out.size))
            clear hB BC0 BP0
            have c0 := bC.at 0 rfl; have c1 := bC.at 1 rfl; have p0 := bP.at 0 rfl; have p1 := bP.at 1 rfl; have p2 := bP.at 2 rfl; have p3 := bP.at 3 rfl; have p4 := bP.at 4 rfl
            have BC1 := Lib.hid bC; have BP1 := Lib.hid bP; clear bC bP
            go_wp2_with fail
            refine (rperm_any a b c d m _).mono ?_
            rintro e w2 ⟨rfl, hB⟩
            rw [HP.out]
            have bC := BC1.out.below' hB; have bP := BP1.out.below' hB
            have HB2 := Lib.hid (HB1.out.trans (hB.mono HB1.out.size))
            clear hB c0 c1 p0 p1 p2 p3 p4 BC1 BP1
            have c0 := bC.at 0 rfl; have c1 := bC.at 1 rfl; have p0 := bP.at 0 rfl; have p1 := bP.at 1 rfl; have p2 := bP.at 2 rfl; have p3 := bP.at 3 rfl; have p4 := bP.at 4 rfl
            have BC2 := Lib.hid bC; have BP2 := Lib.hid bP; clear bC bP
            go_wp2
            go_ret
            exact ⟨ret_b HN.out.symm, HB2.out⟩
    · have HN : Hid (ownsB u g a b c d m = false) := by unfold Hid ownsB; rw [Bool.eq_false_iff.2 hp]; simp
      have HR := Lib.hid hr; have HP := Lib.hid (Bool.eq_false_iff.2 hp); clear hr hp
      have bC := (BoxA.new w 23 #[.int .i64 u, .int .i64 g]).alloc (.cells #[.int .i64 a, .int .i64 b, .int .i64 c, .int .i64 d, .int .i64 m] 25)
      have bP := BoxA.new (w.alloc (.cells #[.int .i64 u, .int .i64 g] 23)) 25 #[.int .i64 a, .int .i64 b, .int .i64 c, .int .i64 d, .int .i64 m]
      simp only [World.size_alloc] at bP
      have HB0 := Lib.hid (((Below.refl w.heap.size w).alloc (by first | exact Nat.le_refl _ | (simp; done) | (simp; omega)) (.cells #[.int .i64 u, .int .i64 g] 23)).alloc (by first | exact Nat.le_refl _ | (simp; done) | (simp; omega)) (.cells #[.int .i64 a, .int .i64 b, .int .i64 c, .int .i64 d, .int .i64 m] 25))
      have BC0 := Lib.hid bC; have BP0 := Lib.hid bP; clear bC bP
      go_enter Try.func24, Try.ntmps24
      go_wp2_with fail
      refine (rright_any u g _).mono ?_
      rintro e w1 ⟨rfl, hB⟩
      rw [HR.out]
      have bC := BC0.out.below' hB; have bP := BP0.out.below' hB
      have HB1 := Lib.hid (HB0.out.trans (hB.mono HB0.out.size))
      clear hB BC0 BP0
      have c0 := bC.at 0 rfl; have c1 := bC.at 1 rfl; have p0 := bP.at 0 rfl; have p1 := bP.at 1 rfl; have p2 := bP.at 2 rfl; have p3 := bP.at 3 rfl; have p4 := bP.at 4 rfl
      have BC1 := Lib.hid bC; have BP1 := Lib.hid bP; clear bC bP
      go_wp2_with fail
      refine (rperm_any a b c d m _).mono ?_
      rintro e w2 ⟨rfl, hB⟩
      rw [HP.out]
      have bC := BC1.out.below' hB; have bP := BP1.out.below' hB
      have HB2 := Lib.hid (HB1.out.trans (hB.mono HB1.out.size))
      clear hB c0 c1 p0 p1 p2 p3 p4 BC1 BP1
      have c0 := bC.at 0 rfl; have c1 := bC.at 1 rfl; have p0 := bP.at 0 rfl; have p1 := bP.at 1 rfl; have p2 := bP.at 2 rfl; have p3 := bP.at 3 rfl; have p4 := bP.at 4 rfl
      have BC2 := Lib.hid bC; have BP2 := Lib.hid bP; clear bC bP
      go_wp2
      go_ret
      exact ⟨ret_b HN.out.symm, HB2.out⟩
  · have HN : Hid (ownsB u g a b c d m = false) := by unfold Hid ownsB; rw [Bool.eq_false_iff.2 hr]; simp
    have HR := Lib.hid (Bool.eq_false_iff.2 hr); clear hr
    have bC := (BoxA.new w 23 #[.int .i64 u, .int .i64 g]).alloc (.cells #[.int .i64 a, .int .i64 b, .int .i64 c, .int .i64 d, .int .i64 m] 25)
    have bP := BoxA.new (w.alloc (.cells #[.int .i64 u, .int .i64 g] 23)) 25 #[.int .i64 a, .int .i64 b, .int .i64 c, .int .i64 d, .int .i64 m]
    simp only [World.size_alloc] at bP
    have HB0 := Lib.hid (((Below.refl w.heap.size w).alloc (by first | exact Nat.le_refl _ | (simp; done) | (simp; omega)) (.cells #[.int .i64 u, .int .i64 g] 23)).alloc (by first | exact Nat.le_refl _ | (simp; done) | (simp; omega)) (.cells #[.int .i64 a, .int .i64 b, .int .i64 c, .int .i64 d, .int .i64 m] 25))
    have BC0 := Lib.hid bC; have BP0 := Lib.hid bP; clear bC bP
    go_enter Try.func24, Try.ntmps24
    go_wp2_with fail
    refine (rright_any u g _).mono ?_
    rintro e w1 ⟨rfl, hB⟩
    rw [HR.out]
    have bC := BC0.out.below' hB; have bP := BP0.out.below' hB
    have HB1 := Lib.hid (HB0.out.trans (hB.mono HB0.out.size))
    clear hB BC0 BP0
    have c0 := bC.at 0 rfl; have c1 := bC.at 1 rfl; have p0 := bP.at 0 rfl; have p1 := bP.at 1 rfl; have p2 := bP.at 2 rfl; have p3 := bP.at 3 rfl; have p4 := bP.at 4 rfl
    have BC1 := Lib.hid bC; have BP1 := Lib.hid bP; clear bC bP
    go_wp2_with fail
    refine (rperm_any a b c d m _).mono ?_
    rintro e w2 ⟨rfl, hB⟩
    have bC := BC1.out.below' hB; have bP := BP1.out.below' hB
    have HB2 := Lib.hid (HB1.out.trans (hB.mono HB1.out.size))
    clear hB c0 c1 p0 p1 p2 p3 p4 BC1 BP1
    have c0 := bC.at 0 rfl; have c1 := bC.at 1 rfl; have p0 := bP.at 0 rfl; have p1 := bP.at 1 rfl; have p2 := bP.at 2 rfl; have p3 := bP.at 3 rfl; have p4 := bP.at 4 rfl
    have BC2 := Lib.hid bC; have BP2 := Lib.hid bP; clear bC bP
    go_wp2
    go_ret
    exact ⟨ret_b HN.out.symm, HB2.out⟩

end Go.Proofs.Ytpankbmlidnoaaa
