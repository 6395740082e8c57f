/- The document's own answers for cred (taffrailref05), walked: Make, Bits, Allowed, Owns. -/
import Derived.Test.YtpankbmlidnoaaaRef5A
namespace Go.Proofs.Ytpankbmlidnoaaa
open Go.RowKit

set_option maxRecDepth 100000 in
set_option maxHeartbeats 1000000 in
theorem rmake_ok (u g m : Int) (h : permB u g u g m = true) (w : World) : Calls Try.prog 12 #[.agg #[.int .i64 u, .int .i64 g], .int .i64 m] w fun e w' =>
    e = .returned (.tuple #[.agg #[.int .i64 u, .int .i64 g, .int .i64 u, .int .i64 g, .int .i64 m], .int .i64 0]) ∧ Below w.heap.size w w' := by
  have HP := Lib.hid h; clear h
  have bC := ((BoxA.new w 23 #[.int .i64 u, .int .i64 g]).alloc (.cells #[.int .i64 0, .int .i64 0, .int .i64 0, .int .i64 0, .int .i64 0] 25)).alloc (.cells #[.int .i64 u, .int .i64 g, .int .i64 u, .int .i64 g, .int .i64 m] 25)
  have bR := (BoxA.new (w.alloc (.cells #[.int .i64 u, .int .i64 g] 23)) 25 #[.int .i64 0, .int .i64 0, .int .i64 0, .int .i64 0, .int .i64 0]).alloc (.cells #[.int .i64 u, .int .i64 g, .int .i64 u, .int .i64 g, .int .i64 m] 25)
  have bN := BoxA.new ((w.alloc (.cells #[.int .i64 u, .int .i64 g] 23)).alloc (.cells #[.int .i64 0, .int .i64 0, .int .i64 0, .int .i64 0, .int .i64 0] 25)) 25 #[.int .i64 u, .int .i64 g, .int .i64 u, .int .i64 g, .int .i64 m]
  simp only [World.size_alloc] at bR bN
  have HB0 := Lib.hid ((((Below.refl w.heap.size w).alloc (by first | exact Nat.le_refl _ | (simp; done) | (simp; omega)) (.cells #[.int .i64 u, .int .i64 g] 23)).alloc (by first | exact Nat.le_refl _ | (simp; done) | (simp; omega)) (.cells #[.int .i64 0, .int .i64 0, .int .i64 0, .int .i64 0, .int .i64 0] 25)).alloc (by first | exact Nat.le_refl _ | (simp; done) | (simp; omega)) (.cells #[.int .i64 u, .int .i64 g, .int .i64 u, .int .i64 g, .int .i64 m] 25))
  have BC0 := Lib.hid bC; have BR0 := Lib.hid bR; have BN0 := Lib.hid bN; clear bC bR bN
  go_enter Try.func12, Try.ntmps12
  go_wp2_with fail
  refine (rperm_any u g u g m _).mono ?_
  rintro e w1 ⟨rfl, hB⟩
  rw [HP.out]
  have bC := BC0.out.below' hB; have bR := BR0.out.below' hB; have bN := BN0.out.below' hB
  have HB1 := Lib.hid (HB0.out.trans (hB.mono HB0.out.size))
  clear hB BC0 BR0 BN0
  have c0 := bC.at 0 rfl; have c1 := bC.at 1 rfl; have r0 := bR.at 0 rfl; have r1 := bR.at 1 rfl; have r2 := bR.at 2 rfl; have r3 := bR.at 3 rfl; have r4 := bR.at 4 rfl; have n0 := bN.at 0 rfl; have n1 := bN.at 1 rfl; have n2 := bN.at 2 rfl; have n3 := bN.at 3 rfl; have n4 := bN.at 4 rfl
  have BC1 := Lib.hid bC; have BR1 := Lib.hid bR; have BN1 := Lib.hid bN; clear bC bR bN
  have r0 := BR1.out.at 0 rfl; have r1 := BR1.out.at 1 rfl; have r2 := BR1.out.at 2 rfl; have r3 := BR1.out.at 3 rfl; have r4 := BR1.out.at 4 rfl
  have f0 := BR1.out.f 0; have f1 := BR1.out.f 1; have f2 := BR1.out.f 2; have f3 := BR1.out.f 3; have f4 := BR1.out.f 4
  go_wp2
  have bs := BR1.out.set5 (.int .i64 u) (.int .i64 g) (.int .i64 u) (.int .i64 g) (.int .i64 m)
  have s0 := bs.at 0 rfl; have s1 := bs.at 1 rfl; have s2 := bs.at 2 rfl; have s3 := bs.at 3 rfl; have s4 := bs.at 4 rfl
  exact bodyPost_ret (v := .tuple #[.agg (pm u g u g m), .int .i64 0]) (by simp [results, Try.results12, go_sem, s0, s1, s2, s3, s4]) rfl ⟨rfl, below_set5 HB1.out (by omega) _ _ _ _ _⟩

set_option maxRecDepth 100000 in
set_option maxHeartbeats 1000000 in
theorem rmake_no (u g m : Int) (h : permB u g u g m = false) (w : World) : Calls Try.prog 12 #[.agg #[.int .i64 u, .int .i64 g], .int .i64 m] w fun e w' =>
    e = .returned (.tuple #[.agg #[.int .i64 0, .int .i64 0, .int .i64 0, .int .i64 0, .int .i64 0], .int .i64 50]) ∧ Below w.heap.size w w' := by
  have HP := Lib.hid h; clear h
  have bC := ((BoxA.new w 23 #[.int .i64 u, .int .i64 g]).alloc (.cells #[.int .i64 0, .int .i64 0, .int .i64 0, .int .i64 0, .int .i64 0] 25)).alloc (.cells #[.int .i64 u, .int .i64 g, .int .i64 u, .int .i64 g, .int .i64 m] 25)
  have bR := (BoxA.new (w.alloc (.cells #[.int .i64 u, .int .i64 g] 23)) 25 #[.int .i64 0, .int .i64 0, .int .i64 0, .int .i64 0, .int .i64 0]).alloc (.cells #[.int .i64 u, .int .i64 g, .int .i64 u, .int .i64 g, .int .i64 m] 25)
  have bN := BoxA.new ((w.alloc (.cells #[.int .i64 u, .int .i64 g] 23)).alloc (.cells #[.int .i64 0, .int .i64 0, .int .i64 0, .int .i64 0, .int .i64 0] 25)) 25 #[.int .i64 u, .int .i64 g, .int .i64 u, .int .i64 g, .int .i64 m]
  simp only [World.size_alloc] at bR bN
  have HB0 := Lib.hid ((((Below.refl w.heap.size w).alloc (by first | exact Nat.le_refl _ | (simp; done) | (simp; omega)) (.cells #[.int .i64 u, .int .i64 g] 23)).alloc (by first | exact Nat.le_refl _ | (simp; done) | (simp; omega)) (.cells #[.int .i64 0, .int .i64 0, .int .i64 0, .int .i64 0, .int .i64 0] 25)).alloc (by first | exact Nat.le_refl _ | (simp; done) | (simp; omega)) (.cells #[.int .i64 u, .int .i64 g, .int .i64 u, .int .i64 g, .int .i64 m] 25))
  have BC0 := Lib.hid bC; have BR0 := Lib.hid bR; have BN0 := Lib.hid bN; clear bC bR bN
  go_enter Try.func12, Try.ntmps12
  go_wp2_with fail
  refine (rperm_any u g u g m _).mono ?_
  rintro e w1 ⟨rfl, hB⟩
  rw [HP.out]
  have bC := BC0.out.below' hB; have bR := BR0.out.below' hB; have bN := BN0.out.below' hB
  have HB1 := Lib.hid (HB0.out.trans (hB.mono HB0.out.size))
  clear hB BC0 BR0 BN0
  have c0 := bC.at 0 rfl; have c1 := bC.at 1 rfl; have r0 := bR.at 0 rfl; have r1 := bR.at 1 rfl; have r2 := bR.at 2 rfl; have r3 := bR.at 3 rfl; have r4 := bR.at 4 rfl; have n0 := bN.at 0 rfl; have n1 := bN.at 1 rfl; have n2 := bN.at 2 rfl; have n3 := bN.at 3 rfl; have n4 := bN.at 4 rfl
  have BC1 := Lib.hid bC; have BR1 := Lib.hid bR; have BN1 := Lib.hid bN; clear bC bR bN
  have r0 := BR1.out.at 0 rfl; have r1 := BR1.out.at 1 rfl; have r2 := BR1.out.at 2 rfl; have r3 := BR1.out.at 3 rfl; have r4 := BR1.out.at 4 rfl
  have f0 := BR1.out.f 0; have f1 := BR1.out.f 1; have f2 := BR1.out.f 2; have f3 := BR1.out.f 3; have f4 := BR1.out.f 4
  go_wp2
  have bs := BR1.out.set5 (.int .i64 0) (.int .i64 0) (.int .i64 0) (.int .i64 0) (.int .i64 0)
  have s0 := bs.at 0 rfl; have s1 := bs.at 1 rfl; have s2 := bs.at 2 rfl; have s3 := bs.at 3 rfl; have s4 := bs.at 4 rfl
  exact bodyPost_ret (v := .tuple #[.agg (pm 0 0 0 0 0), .int .i64 50]) (by simp [results, Try.results12, go_sem, s0, s1, s2, s3, s4]) rfl ⟨rfl, below_set5 HB1.out (by omega) _ _ _ _ _⟩

set_option maxRecDepth 100000 in
set_option maxHeartbeats 1000000 in
theorem rbits_any (u g a b c d m : Int) (w : World) : Calls Try.prog 20 #[.agg #[.int .i64 u, .int .i64 g], .agg #[.int .i64 a, .int .i64 b, .int .i64 c, .int .i64 d, .int .i64 m]] w fun e w' =>
    e = .returned (.int .i64 (bitsN u g a b c d m)) ∧ Below w.heap.size w w' := by
  by_cases hr : rightB u g = true
  · by_cases hp : permB a b c d m = true
    · have hm : 0 ≤ m ∧ m ≤ 511 := by simp only [permB, modB, Bool.and_eq_true, decide_eq_true_eq] at hp; omega
      have hN : bitsN u g a b c d m = digN (placeN u g a b c d) m := by unfold bitsN; rw [hr, hp]; rfl
      have q64 : wrap64 (m.tdiv 64) = m / 64 := by rw [Int.tdiv_eq_ediv_of_nonneg hm.1]; unfold wrap64; omega
      have q8 : wrap64 (m.tdiv 8) = m / 8 := by rw [Int.tdiv_eq_ediv_of_nonneg hm.1]; unfold wrap64; omega
      have q8m : (m / 8).tmod 8 = m / 8 % 8 := Int.tmod_eq_emod_of_nonneg (by omega)
      have qm : m.tmod 8 = m % 8 := Int.tmod_eq_emod_of_nonneg hm.1
      have HR := Lib.hid hr; have HP := Lib.hid hp; clear hr hp
      by_cases h0 : u = 0
      · have HN : Hid (bitsN u g a b c d m = 7) := by unfold Hid; rw [hN]; simp [placeN, digN, h0]
        have hb : (u == 0) = true := by simpa using h0
        clear h0 hN
        have bC := (BoxA.new w 23 #[.int .i64 u, .int .i64 g]).alloc (.cells #[.int .i64 a, .int .i64 b, .int .i64 c, .int .i64 d, .int .i64 m] 25)
        have bP := BoxA.new (w.alloc (.cells #[.int .i64 u, .int .i64 g] 23)) 25 #[.int .i64 a, .int .i64 b, .int .i64 c, .int .i64 d, .int .i64 m]
        simp only [World.size_alloc] at bP
        have HB0 := Lib.hid (((Below.refl w.heap.size w).alloc (by first | exact Nat.le_refl _ | (simp; done) | (simp; omega)) (.cells #[.int .i64 u, .int .i64 g] 23)).alloc (by first | exact Nat.le_refl _ | (simp; done) | (simp; omega)) (.cells #[.int .i64 a, .int .i64 b, .int .i64 c, .int .i64 d, .int .i64 m] 25))
        have BC0 := Lib.hid bC; have BP0 := Lib.hid bP; clear bC bP
        go_enter Try.func20, Try.ntmps20
        go_wp2_with fail
        refine (rright_any u g _).mono ?_
        rintro e w1 ⟨rfl, hB⟩
        rw [HR.out]
        have bC := BC0.out.below' hB; have bP := BP0.out.below' hB
        have HB1 := Lib.hid (HB0.out.trans (hB.mono HB0.out.size))
        clear hB BC0 BP0
        have c0 := bC.at 0 rfl; have c1 := bC.at 1 rfl; have p0 := bP.at 0 rfl; have p1 := bP.at 1 rfl; have p2 := bP.at 2 rfl; have p3 := bP.at 3 rfl; have p4 := bP.at 4 rfl
        have BC1 := Lib.hid bC; have BP1 := Lib.hid bP; clear bC bP
        go_wp2_with fail
        refine (rperm_any a b c d m _).mono ?_
        rintro e w2 ⟨rfl, hB⟩
        rw [HP.out]
        have bC := BC1.out.below' hB; have bP := BP1.out.below' hB
        have HB2 := Lib.hid (HB1.out.trans (hB.mono HB1.out.size))
        clear hB c0 c1 p0 p1 p2 p3 p4 BC1 BP1
        have c0 := bC.at 0 rfl; have c1 := bC.at 1 rfl; have p0 := bP.at 0 rfl; have p1 := bP.at 1 rfl; have p2 := bP.at 2 rfl; have p3 := bP.at 3 rfl; have p4 := bP.at 4 rfl
        have BC2 := Lib.hid bC; have BP2 := Lib.hid bP; clear bC bP
        go_wp2
        go_ret
        exact ⟨ret_i HN.out.symm, HB2.out⟩
      · have hb : (u == 0) = false := by simpa using h0
        by_cases h1 : u = a
        · have HN : Hid (bitsN u g a b c d m = m / 64) := by unfold Hid; rw [hN]; simp [placeN, digN, h0, ← h1]
          have hb1 : (u == a) = true := by simpa using h1
          clear h0 h1 hN
          have bC := (BoxA.new w 23 #[.int .i64 u, .int .i64 g]).alloc (.cells #[.int .i64 a, .int .i64 b, .int .i64 c, .int .i64 d, .int .i64 m] 25)
          have bP := BoxA.new (w.alloc (.cells #[.int .i64 u, .int .i64 g] 23)) 25 #[.int .i64 a, .int .i64 b, .int .i64 c, .int .i64 d, .int .i64 m]
          simp only [World.size_alloc] at bP
          have HB0 := Lib.hid (((Below.refl w.heap.size w).alloc (by first | exact Nat.le_refl _ | (simp; done) | (simp; omega)) (.cells #[.int .i64 u, .int .i64 g] 23)).alloc (by first | exact Nat.le_refl _ | (simp; done) | (simp; omega)) (.cells #[.int .i64 a, .int .i64 b, .int .i64 c, .int .i64 d, .int .i64 m] 25))
          have BC0 := Lib.hid bC; have BP0 := Lib.hid bP; clear bC bP
          go_enter Try.func20, Try.ntmps20
          go_wp2_with fail
          refine (rright_any u g _).mono ?_
          rintro e w1 ⟨rfl, hB⟩
          rw [HR.out]
          have bC := BC0.out.below' hB; have bP := BP0.out.below' hB
          have HB1 := Lib.hid (HB0.out.trans (hB.mono HB0.out.size))
          clear hB BC0 BP0
          have c0 := bC.at 0 rfl; have c1 := bC.at 1 rfl; have p0 := bP.at 0 rfl; have p1 := bP.at 1 rfl; have p2 := bP.at 2 rfl; have p3 := bP.at 3 rfl; have p4 := bP.at 4 rfl
          have BC1 := Lib.hid bC; have BP1 := Lib.hid bP; clear bC bP
          go_wp2_with fail
          refine (rperm_any a b c d m _).mono ?_
          rintro e w2 ⟨rfl, hB⟩
          rw [HP.out]
          have bC := BC1.out.below' hB; have bP := BP1.out.below' hB
          have HB2 := Lib.hid (HB1.out.trans (hB.mono HB1.out.size))
          clear hB c0 c1 p0 p1 p2 p3 p4 BC1 BP1
          have c0 := bC.at 0 rfl; have c1 := bC.at 1 rfl; have p0 := bP.at 0 rfl; have p1 := bP.at 1 rfl; have p2 := bP.at 2 rfl; have p3 := bP.at 3 rfl; have p4 := bP.at 4 rfl
          have BC2 := Lib.hid bC; have BP2 := Lib.hid bP; clear bC bP
          go_wp2
          go_ret
          exact ⟨ret_i HN.out.symm, HB2.out⟩
        · have hb1 : (u == a) = false := by simpa using h1
          by_cases h2 : u = c
          · have HN : Hid (bitsN u g a b c d m = m / 64) := by unfold Hid; rw [hN]; simp [placeN, digN, h0, ← h2]
            have hb2 : (u == c) = true := by simpa using h2
            clear h0 h1 h2 hN
            have bC := (BoxA.new w 23 #[.int .i64 u, .int .i64 g]).alloc (.cells #[.int .i64 a, .int .i64 b, .int .i64 c, .int .i64 d, .int .i64 m] 25)
            have bP := BoxA.new (w.alloc (.cells #[.int .i64 u, .int .i64 g] 23)) 25 #[.int .i64 a, .int .i64 b, .int .i64 c, .int .i64 d, .int .i64 m]
            simp only [World.size_alloc] at bP
            have HB0 := Lib.hid (((Below.refl w.heap.size w).alloc (by first | exact Nat.le_refl _ | (simp; done) | (simp; omega)) (.cells #[.int .i64 u, .int .i64 g] 23)).alloc (by first | exact Nat.le_refl _ | (simp; done) | (simp; omega)) (.cells #[.int .i64 a, .int .i64 b, .int .i64 c, .int .i64 d, .int .i64 m] 25))
            have BC0 := Lib.hid bC; have BP0 := Lib.hid bP; clear bC bP
            go_enter Try.func20, Try.ntmps20
            go_wp2_with fail
            refine (rright_any u g _).mono ?_
            rintro e w1 ⟨rfl, hB⟩
            rw [HR.out]
            have bC := BC0.out.below' hB; have bP := BP0.out.below' hB
            have HB1 := Lib.hid (HB0.out.trans (hB.mono HB0.out.size))
            clear hB BC0 BP0
            have c0 := bC.at 0 rfl; have c1 := bC.at 1 rfl; have p0 := bP.at 0 rfl; have p1 := bP.at 1 rfl; have p2 := bP.at 2 rfl; have p3 := bP.at 3 rfl; have p4 := bP.at 4 rfl
            have BC1 := Lib.hid bC; have BP1 := Lib.hid bP; clear bC bP
            go_wp2_with fail
            refine (rperm_any a b c d m _).mono ?_
            rintro e w2 ⟨rfl, hB⟩
            rw [HP.out]
            have bC := BC1.out.below' hB; have bP := BP1.out.below' hB
            have HB2 := Lib.hid (HB1.out.trans (hB.mono HB1.out.size))
            clear hB c0 c1 p0 p1 p2 p3 p4 BC1 BP1
            have c0 := bC.at 0 rfl; have c1 := bC.at 1 rfl; have p0 := bP.at 0 rfl; have p1 := bP.at 1 rfl; have p2 := bP.at 2 rfl; have p3 := bP.at 3 rfl; have p4 := bP.at 4 rfl
            have BC2 := Lib.hid bC; have BP2 := Lib.hid bP; clear bC bP
            go_wp2
            go_ret
            exact ⟨ret_i HN.out.symm, HB2.out⟩
          · have hb2 : (u == c) = false := by simpa using h2
            by_cases h3 : g = b
            · have HN : Hid (bitsN u g a b c d m = m / 8 % 8) := by unfold Hid; rw [hN]; simp [placeN, digN, h0, h1, h2, ← h3]
              have hb3 : (g == b) = true := by simpa using h3
              clear h0 h1 h2 h3 hN
              have bC := (BoxA.new w 23 #[.int .i64 u, .int .i64 g]).alloc (.cells #[.int .i64 a, .int .i64 b, .int .i64 c, .int .i64 d, .int .i64 m] 25)
              have bP := BoxA.new (w.alloc (.cells #[.int .i64 u, .int .i64 g] 23)) 25 #[.int .i64 a, .int .i64 b, .int .i64 c, .int .i64 d, .int .i64 m]
              simp only [World.size_alloc] at bP
              have HB0 := Lib.hid (((Below.refl w.heap.size w).alloc (by first | exact Nat.le_refl _ | (simp; done) | (simp; omega)) (.cells #[.int .i64 u, .int .i64 g] 23)).alloc (by first | exact Nat.le_refl _ | (simp; done) | (simp; omega)) (.cells #[.int .i64 a, .int .i64 b, .int .i64 c, .int .i64 d, .int .i64 m] 25))
              have BC0 := Lib.hid bC; have BP0 := Lib.hid bP; clear bC bP
              go_enter Try.func20, Try.ntmps20
              go_wp2_with fail
              refine (rright_any u g _).mono ?_
              rintro e w1 ⟨rfl, hB⟩
              rw [HR.out]
              have bC := BC0.out.below' hB; have bP := BP0.out.below' hB
              have HB1 := Lib.hid (HB0.out.trans (hB.mono HB0.out.size))
              clear hB BC0 BP0
              have c0 := bC.at 0 rfl; have c1 := bC.at 1 rfl; have p0 := bP.at 0 rfl; have p1 := bP.at 1 rfl; have p2 := bP.at 2 rfl; have p3 := bP.at 3 rfl; have p4 := bP.at 4 rfl
              have BC1 := Lib.hid bC; have BP1 := Lib.hid bP; clear bC bP
              go_wp2_with fail
              refine (rperm_any a b c d m _).mono ?_
              rintro e w2 ⟨rfl, hB⟩
              rw [HP.out]
              have bC := BC1.out.below' hB; have bP := BP1.out.below' hB
              have HB2 := Lib.hid (HB1.out.trans (hB.mono HB1.out.size))
              clear hB c0 c1 p0 p1 p2 p3 p4 BC1 BP1
              have c0 := bC.at 0 rfl; have c1 := bC.at 1 rfl; have p0 := bP.at 0 rfl; have p1 := bP.at 1 rfl; have p2 := bP.at 2 rfl; have p3 := bP.at 3 rfl; have p4 := bP.at 4 rfl
              have BC2 := Lib.hid bC; have BP2 := Lib.hid bP; clear bC bP
              go_wp2
              go_ret
              exact ⟨ret_i HN.out.symm, HB2.out⟩
            · have hb3 : (g == b) = false := by simpa using h3
              by_cases h4 : g = d
              · have HN : Hid (bitsN u g a b c d m = m / 8 % 8) := by unfold Hid; rw [hN]; simp [placeN, digN, h0, h1, h2, ← h4]
                have hb4 : (g == d) = true := by simpa using h4
                clear h0 h1 h2 h3 h4 hN
                have bC := (BoxA.new w 23 #[.int .i64 u, .int .i64 g]).alloc (.cells #[.int .i64 a, .int .i64 b, .int .i64 c, .int .i64 d, .int .i64 m] 25)
                have bP := BoxA.new (w.alloc (.cells #[.int .i64 u, .int .i64 g] 23)) 25 #[.int .i64 a, .int .i64 b, .int .i64 c, .int .i64 d, .int .i64 m]
                simp only [World.size_alloc] at bP
                have HB0 := Lib.hid (((Below.refl w.heap.size w).alloc (by first | exact Nat.le_refl _ | (simp; done) | (simp; omega)) (.cells #[.int .i64 u, .int .i64 g] 23)).alloc (by first | exact Nat.le_refl _ | (simp; done) | (simp; omega)) (.cells #[.int .i64 a, .int .i64 b, .int .i64 c, .int .i64 d, .int .i64 m] 25))
                have BC0 := Lib.hid bC; have BP0 := Lib.hid bP; clear bC bP
                go_enter Try.func20, Try.ntmps20
                go_wp2_with fail
                refine (rright_any u g _).mono ?_
                rintro e w1 ⟨rfl, hB⟩
                rw [HR.out]
                have bC := BC0.out.below' hB; have bP := BP0.out.below' hB
                have HB1 := Lib.hid (HB0.out.trans (hB.mono HB0.out.size))
                clear hB BC0 BP0
                have c0 := bC.at 0 rfl; have c1 := bC.at 1 rfl; have p0 := bP.at 0 rfl; have p1 := bP.at 1 rfl; have p2 := bP.at 2 rfl; have p3 := bP.at 3 rfl; have p4 := bP.at 4 rfl
                have BC1 := Lib.hid bC; have BP1 := Lib.hid bP; clear bC bP
                go_wp2_with fail
                refine (rperm_any a b c d m _).mono ?_
                rintro e w2 ⟨rfl, hB⟩
                rw [HP.out]
                have bC := BC1.out.below' hB; have bP := BP1.out.below' hB
                have HB2 := Lib.hid (HB1.out.trans (hB.mono HB1.out.size))
                clear hB c0 c1 p0 p1 p2 p3 p4 BC1 BP1
                have c0 := bC.at 0 rfl; have c1 := bC.at 1 rfl; have p0 := bP.at 0 rfl; have p1 := bP.at 1 rfl; have p2 := bP.at 2 rfl; have p3 := bP.at 3 rfl; have p4 := bP.at 4 rfl
                have BC2 := Lib.hid bC; have BP2 := Lib.hid bP; clear bC bP
                go_wp2
                go_ret
                exact ⟨ret_i HN.out.symm, HB2.out⟩
              · have hb4 : (g == d) = false := by simpa using h4
                have HN : Hid (bitsN u g a b c d m = m % 8) := by unfold Hid; rw [hN]; simp [placeN, digN, h0, h1, h2, h3, h4]
                clear h0 h1 h2 h3 h4 hN
                have bC := (BoxA.new w 23 #[.int .i64 u, .int .i64 g]).alloc (.cells #[.int .i64 a, .int .i64 b, .int .i64 c, .int .i64 d, .int .i64 m] 25)
                have bP := BoxA.new (w.alloc (.cells #[.int .i64 u, .int .i64 g] 23)) 25 #[.int .i64 a, .int .i64 b, .int .i64 c, .int .i64 d, .int .i64 m]
                simp only [World.size_alloc] at bP
                have HB0 := Lib.hid (((Below.refl w.heap.size w).alloc (by first | exact Nat.le_refl _ | (simp; done) | (simp; omega)) (.cells #[.int .i64 u, .int .i64 g] 23)).alloc (by first | exact Nat.le_refl _ | (simp; done) | (simp; omega)) (.cells #[.int .i64 a, .int .i64 b, .int .i64 c, .int .i64 d, .int .i64 m] 25))
                have BC0 := Lib.hid bC; have BP0 := Lib.hid bP; clear bC bP
                go_enter Try.func20, Try.ntmps20
                go_wp2_with fail
                refine (rright_any u g _).mono ?_
                rintro e w1 ⟨rfl, hB⟩
                rw [HR.out]
                have bC := BC0.out.below' hB; have bP := BP0.out.below' hB
                have HB1 := Lib.hid (HB0.out.trans (hB.mono HB0.out.size))
                clear hB BC0 BP0
                have c0 := bC.at 0 rfl; have c1 := bC.at 1 rfl; have p0 := bP.at 0 rfl; have p1 := bP.at 1 rfl; have p2 := bP.at 2 rfl; have p3 := bP.at 3 rfl; have p4 := bP.at 4 rfl
                have BC1 := Lib.hid bC; have BP1 := Lib.hid bP; clear bC bP
                go_wp2_with fail
                refine (rperm_any a b c d m _).mono ?_
                rintro e w2 ⟨rfl, hB⟩
                rw [HP.out]
                have bC := BC1.out.below' hB; have bP := BP1.out.below' hB
                have HB2 := Lib.hid (HB1.out.trans (hB.mono HB1.out.size))
                clear hB c0 c1 p0 p1 p2 p3 p4 BC1 BP1
                have c0 := bC.at 0 rfl; have c1 := bC.at 1 rfl; have p0 := bP.at 0 rfl; have p1 := bP.at 1 rfl; have p2 := bP.at 2 rfl; have p3 := bP.at 3 rfl; have p4 := bP.at 4 rfl
                have BC2 := Lib.hid bC; have BP2 := Lib.hid bP; clear bC bP
                go_wp2
                go_ret
                exact ⟨ret_i HN.out.symm, HB2.out⟩
    · have HN : Hid (bitsN u g a b c d m = 0) := by unfold Hid bitsN; rw [Bool.eq_false_iff.2 hp]; simp
      have HR := Lib.hid hr; have HP := Lib.hid (Bool.eq_false_iff.2 hp); clear hr hp
      have bC := (BoxA.new w 23 #[.int .i64 u, .int .i64 g]).alloc (.cells #[.int .i64 a, .int .i64 b, .int .i64 c, .int .i64 d, .int .i64 m] 25)
      have bP := BoxA.new (w.alloc (.cells #[.int .i64 u, .int .i64 g] 23)) 25 #[.int .i64 a, .int .i64 b, .int .i64 c, .int .i64 d, .int .i64 m]
      simp only [World.size_alloc] at bP
      have HB0 := Lib.hid (((Below.refl w.heap.size w).alloc (by first | exact Nat.le_refl _ | (simp; done) | (simp; omega)) (.cells #[.int .i64 u, .int .i64 g] 23)).alloc (by first | exact Nat.le_refl _ | (simp; done) | (simp; omega)) (.cells #[.int .i64 a, .int .i64 b, .int .i64 c, .int .i64 d, .int .i64 m] 25))
      have BC0 := Lib.hid bC; have BP0 := Lib.hid bP; clear bC bP
      go_enter Try.func20, Try.ntmps20
      go_wp2_with fail
      refine (rright_any u g _).mono ?_
      rintro e w1 ⟨rfl, hB⟩
      rw [HR.out]
      have bC := BC0.out.below' hB; have bP := BP0.out.below' hB
      have HB1 := Lib.hid (HB0.out.trans (hB.mono HB0.out.size))
      clear hB BC0 BP0
      have c0 := bC.at 0 rfl; have c1 := bC.at 1 rfl; have p0 := bP.at 0 rfl; have p1 := bP.at 1 rfl; have p2 := bP.at 2 rfl; have p3 := bP.at 3 rfl; have p4 := bP.at 4 rfl
      have BC1 := Lib.hid bC; have BP1 := Lib.hid bP; clear bC bP
      go_wp2_with fail
      refine (rperm_any a b c d m _).mono ?_
      rintro e w2 ⟨rfl, hB⟩
      rw [HP.out]
      have bC := BC1.out.below' hB; have bP := BP1.out.below' hB
      have HB2 := Lib.hid (HB1.out.trans (hB.mono HB1.out.size))
      clear hB c0 c1 p0 p1 p2 p3 p4 BC1 BP1
      have c0 := bC.at 0 rfl; have c1 := bC.at 1 rfl; have p0 := bP.at 0 rfl; have p1 := bP.at 1 rfl; have p2 := bP.at 2 rfl; have p3 := bP.at 3 rfl; have p4 := bP.at 4 rfl
      have BC2 := Lib.hid bC; have BP2 := Lib.hid bP; clear bC bP
      go_wp2
      go_ret
      exact ⟨ret_i HN.out.symm, HB2.out⟩
  · have HN : Hid (bitsN u g a b c d m = 0) := by unfold Hid bitsN; rw [Bool.eq_false_iff.2 hr]; simp
    have HR := Lib.hid (Bool.eq_false_iff.2 hr); clear hr
    have bC := (BoxA.new w 23 #[.int .i64 u, .int .i64 g]).alloc (.cells #[.int .i64 a, .int .i64 b, .int .i64 c, .int .i64 d, .int .i64 m] 25)
    have bP := BoxA.new (w.alloc (.cells #[.int .i64 u, .int .i64 g] 23)) 25 #[.int .i64 a, .int .i64 b, .int .i64 c, .int .i64 d, .int .i64 m]
    simp only [World.size_alloc] at bP
    have HB0 := Lib.hid (((Below.refl w.heap.size w).alloc (by first | exact Nat.le_refl _ | (simp; done) | (simp; omega)) (.cells #[.int .i64 u, .int .i64 g] 23)).alloc (by first | exact Nat.le_refl _ | (simp; done) | (simp; omega)) (.cells #[.int .i64 a, .int .i64 b, .int .i64 c, .int .i64 d, .int .i64 m] 25))
    have BC0 := Lib.hid bC; have BP0 := Lib.hid bP; clear bC bP
    go_enter Try.func20, Try.ntmps20
    go_wp2_with fail
    refine (rright_any u g _).mono ?_
    rintro e w1 ⟨rfl, hB⟩
    rw [HR.out]
    have bC := BC0.out.below' hB; have bP := BP0.out.below' hB
    have HB1 := Lib.hid (HB0.out.trans (hB.mono HB0.out.size))
    clear hB BC0 BP0
    have c0 := bC.at 0 rfl; have c1 := bC.at 1 rfl; have p0 := bP.at 0 rfl; have p1 := bP.at 1 rfl; have p2 := bP.at 2 rfl; have p3 := bP.at 3 rfl; have p4 := bP.at 4 rfl
    have BC1 := Lib.hid bC; have BP1 := Lib.hid bP; clear bC bP
    go_wp2_with fail
    refine (rperm_any a b c d m _).mono ?_
    rintro e w2 ⟨rfl, hB⟩
    have bC := BC1.out.below' hB; have bP := BP1.out.below' hB
    have HB2 := Lib.hid (HB1.out.trans (hB.mono HB1.out.size))
    clear hB c0 c1 p0 p1 p2 p3 p4 BC1 BP1
    have c0 := bC.at 0 rfl; have c1 := bC.at 1 rfl; have p0 := bP.at 0 rfl; have p1 := bP.at 1 rfl; have p2 := bP.at 2 rfl; have p3 := bP.at 3 rfl; have p4 := bP.at 4 rfl
    have BC2 := Lib.hid bC; have BP2 := Lib.hid bP; clear bC bP
    go_wp2
    go_ret
    exact ⟨ret_i HN.out.symm, HB2.out⟩

end Go.Proofs.Ytpankbmlidnoaaa
