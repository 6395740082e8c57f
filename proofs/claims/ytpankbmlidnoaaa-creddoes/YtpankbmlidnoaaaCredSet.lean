/- Package cred: Set, walked. -/
import Derived.Test.YtpankbmlidnoaaaCredAllow
namespace Go.Proofs.Ytpankbmlidnoaaa
open Go.RowKit

set_option maxRecDepth 100000 in
set_option maxHeartbeats 1000000 in
theorem set_ok (u g a b c d m a' b' m' : Int) (h : setE u g a b c d m a' b' m' = 0) (w : World) : Calls Try.prog 13 #[.agg #[.int .i64 u, .int .i64 g], .agg #[.int .i64 a, .int .i64 b, .int .i64 c, .int .i64 d, .int .i64 m], .int .i64 a', .int .i64 b', .int .i64 m'] w fun e w' =>
    e = .returned (.tuple #[.agg #[.int .i64 a', .int .i64 b', .int .i64 c, .int .i64 d, .int .i64 m'], .int .i64 0]) ∧ Below w.heap.size w w' := by
  have hall : rightB u g = true ∧ permB a b c d m = true ∧ permB a' b' c d m' = true ∧ ownsB u g a b c d m = true := by
    unfold setE at h
    split at h
    · rename_i h1
      split at h
      · rename_i h2
        simp only [Bool.and_eq_true] at h1
        exact ⟨h1.1.1, h1.1.2, h1.2, h2⟩
      · omega
    · omega
  clear h
  have bC := (((BoxA.new w 23 (cr u g)).alloc (.cells (pm a b c d m) 25)).alloc (.cells (pm 0 0 0 0 0) 25)).alloc (.cells (pm a' b' c d m') 25)
  have bP := ((BoxA.new (w.alloc (.cells (cr u g) 23)) 25 (pm a b c d m)).alloc (.cells (pm 0 0 0 0 0) 25)).alloc (.cells (pm a' b' c d m') 25)
  have bR := (BoxA.new ((w.alloc (.cells (cr u g) 23)).alloc (.cells (pm a b c d m) 25)) 25 (pm 0 0 0 0 0)).alloc (.cells (pm a' b' c d m') 25)
  have bN := BoxA.new (((w.alloc (.cells (cr u g) 23)).alloc (.cells (pm a b c d m) 25)).alloc (.cells (pm 0 0 0 0 0) 25)) 25 (pm a' b' c d m')
  simp only [World.size_alloc] at bP bR bN
  have HB0 := Lib.hid (((((Below.refl w.heap.size w).alloc (Nat.le_refl _) (.cells (cr u g) 23)).alloc (by simp) (.cells (pm a b c d m) 25)).alloc (by simp; omega) (.cells (pm 0 0 0 0 0) 25)).alloc (by simp; omega) (.cells (pm a' b' c d m') 25))
  have BC0 := Lib.hid bC; have BP0 := Lib.hid bP; have BR0 := Lib.hid bR; have BN0 := Lib.hid bN; clear bC bP bR bN
  have HR := Lib.hid hall.1; have HP := Lib.hid hall.2.1; have HQ := Lib.hid hall.2.2.1; have HO := Lib.hid hall.2.2.2; clear hall
  go_enter Try.func13, Try.ntmps13
  go_wp2_with fail
  refine (right_any u g _).mono ?_
  rintro e w1 ⟨rfl, hB⟩
  rw [HR.out]
  have bC := BC0.out.below' hB; have bP := BP0.out.below' hB; have bR := BR0.out.below' hB; have bN := BN0.out.below' hB
  have HB1 := Lib.hid (HB0.out.trans (hB.mono HB0.out.size))
  clear hB
  have c0 := bC.at 0 rfl; have c1 := bC.at 1 rfl; have p0 := bP.at 0 rfl; have p1 := bP.at 1 rfl; have p2 := bP.at 2 rfl; have p3 := bP.at 3 rfl; have p4 := bP.at 4 rfl; have n0 := bN.at 0 rfl; have n1 := bN.at 1 rfl; have n2 := bN.at 2 rfl; have n3 := bN.at 3 rfl; have n4 := bN.at 4 rfl
  have BC1 := Lib.hid bC; have BP1 := Lib.hid bP; have BR1 := Lib.hid bR; have BN1 := Lib.hid bN; clear bC bP bR bN
  go_wp2_with fail
  refine (perm_any a b c d m _).mono ?_
  rintro e w2 ⟨rfl, hB⟩
  rw [HP.out]
  have bC := BC1.out.below' hB; have bP := BP1.out.below' hB; have bR := BR1.out.below' hB; have bN := BN1.out.below' hB
  have HB2 := Lib.hid (HB1.out.trans (hB.mono HB1.out.size))
  clear hB c0 c1 p0 p1 p2 p3 p4 n0 n1 n2 n3 n4
  have c0 := bC.at 0 rfl; have c1 := bC.at 1 rfl; have p0 := bP.at 0 rfl; have p1 := bP.at 1 rfl; have p2 := bP.at 2 rfl; have p3 := bP.at 3 rfl; have p4 := bP.at 4 rfl; have n0 := bN.at 0 rfl; have n1 := bN.at 1 rfl; have n2 := bN.at 2 rfl; have n3 := bN.at 3 rfl; have n4 := bN.at 4 rfl
  have BC2 := Lib.hid bC; have BP2 := Lib.hid bP; have BR2 := Lib.hid bR; have BN2 := Lib.hid bN; clear bC bP bR bN
  go_wp2_with fail
  refine (perm_any a' b' c d m' _).mono ?_
  rintro e w3 ⟨rfl, hB⟩
  rw [HQ.out]
  have bC := BC2.out.below' hB; have bP := BP2.out.below' hB; have bR := BR2.out.below' hB; have bN := BN2.out.below' hB
  have HB3 := Lib.hid (HB2.out.trans (hB.mono HB2.out.size))
  clear hB c0 c1 p0 p1 p2 p3 p4 n0 n1 n2 n3 n4
  have c0 := bC.at 0 rfl; have c1 := bC.at 1 rfl; have p0 := bP.at 0 rfl; have p1 := bP.at 1 rfl; have p2 := bP.at 2 rfl; have p3 := bP.at 3 rfl; have p4 := bP.at 4 rfl; have n0 := bN.at 0 rfl; have n1 := bN.at 1 rfl; have n2 := bN.at 2 rfl; have n3 := bN.at 3 rfl; have n4 := bN.at 4 rfl
  have BC3 := Lib.hid bC; have BP3 := Lib.hid bP; have BR3 := Lib.hid bR; have BN3 := Lib.hid bN; clear bC bP bR bN
  go_wp2_with fail
  refine (owns_any u g a b c d m _).mono ?_
  rintro e w4 ⟨rfl, hB⟩
  rw [HO.out]
  have bC := BC3.out.below' hB; have bP := BP3.out.below' hB; have bR := BR3.out.below' hB; have bN := BN3.out.below' hB
  have HB4 := Lib.hid (HB3.out.trans (hB.mono HB3.out.size))
  clear hB c0 c1 p0 p1 p2 p3 p4 n0 n1 n2 n3 n4
  have c0 := bC.at 0 rfl; have c1 := bC.at 1 rfl; have p0 := bP.at 0 rfl; have p1 := bP.at 1 rfl; have p2 := bP.at 2 rfl; have p3 := bP.at 3 rfl; have p4 := bP.at 4 rfl; have n0 := bN.at 0 rfl; have n1 := bN.at 1 rfl; have n2 := bN.at 2 rfl; have n3 := bN.at 3 rfl; have n4 := bN.at 4 rfl
  have BC4 := Lib.hid bC; have BP4 := Lib.hid bP; have BR4 := Lib.hid bR; have BN4 := Lib.hid bN; clear bC bP bR bN
  have r0 := BR4.out.at 0 rfl; have r1 := BR4.out.at 1 rfl; have r2 := BR4.out.at 2 rfl; have r3 := BR4.out.at 3 rfl; have r4 := BR4.out.at 4 rfl
  have f0 := BR4.out.f 0; have f1 := BR4.out.f 1; have f2 := BR4.out.f 2; have f3 := BR4.out.f 3; have f4 := BR4.out.f 4
  go_wp2
  have bs := BR4.out.set5 (.int .i64 a') (.int .i64 b') (.int .i64 c) (.int .i64 d) (.int .i64 m')
  have s0 := bs.at 0 rfl; have s1 := bs.at 1 rfl; have s2 := bs.at 2 rfl; have s3 := bs.at 3 rfl; have s4 := bs.at 4 rfl
  exact bodyPost_ret (v := .tuple #[.agg (pm a' b' c d m'), .int .i64 0]) (by simp [results, Try.results13, go_sem, s0, s1, s2, s3, s4]) rfl ⟨rfl, below_set5 HB4.out (by omega) _ _ _ _ _⟩

set_option maxRecDepth 100000 in
set_option maxHeartbeats 1000000 in
theorem set_no (u g a b c d m a' b' m' : Int) (h : setE u g a b c d m a' b' m' ≠ 0) (w : World) : Calls Try.prog 13 #[.agg #[.int .i64 u, .int .i64 g], .agg #[.int .i64 a, .int .i64 b, .int .i64 c, .int .i64 d, .int .i64 m], .int .i64 a', .int .i64 b', .int .i64 m'] w fun e w' =>
    e = .returned (.tuple #[.agg #[.int .i64 0, .int .i64 0, .int .i64 0, .int .i64 0, .int .i64 0], .int .i64 (setE u g a b c d m a' b' m')]) ∧ Below w.heap.size w w' := by
  have bC := (((BoxA.new w 23 (cr u g)).alloc (.cells (pm a b c d m) 25)).alloc (.cells (pm 0 0 0 0 0) 25)).alloc (.cells (pm a' b' c d m') 25)
  have bP := ((BoxA.new (w.alloc (.cells (cr u g) 23)) 25 (pm a b c d m)).alloc (.cells (pm 0 0 0 0 0) 25)).alloc (.cells (pm a' b' c d m') 25)
  have bR := (BoxA.new ((w.alloc (.cells (cr u g) 23)).alloc (.cells (pm a b c d m) 25)) 25 (pm 0 0 0 0 0)).alloc (.cells (pm a' b' c d m') 25)
  have bN := BoxA.new (((w.alloc (.cells (cr u g) 23)).alloc (.cells (pm a b c d m) 25)).alloc (.cells (pm 0 0 0 0 0) 25)) 25 (pm a' b' c d m')
  simp only [World.size_alloc] at bP bR bN
  have HB0 := Lib.hid (((((Below.refl w.heap.size w).alloc (Nat.le_refl _) (.cells (cr u g) 23)).alloc (by simp) (.cells (pm a b c d m) 25)).alloc (by simp; omega) (.cells (pm 0 0 0 0 0) 25)).alloc (by simp; omega) (.cells (pm a' b' c d m') 25))
  have BC0 := Lib.hid bC; have BP0 := Lib.hid bP; have BR0 := Lib.hid bR; have BN0 := Lib.hid bN; clear bC bP bR bN
  by_cases hr : rightB u g = true
  · by_cases hp : permB a b c d m = true
    · by_cases hq : permB a' b' c d m' = true
      · have ho : ownsB u g a b c d m = false := by
          cases hw : ownsB u g a b c d m
          · rfl
          · exact absurd (by unfold setE; rw [hr, hp, hq, hw]; rfl) h
        have HE : Hid (setE u g a b c d m a' b' m' = 51) := by unfold Hid setE; rw [hr, hp, hq, ho]; rfl
        have HR := Lib.hid hr; have HP := Lib.hid hp; have HQ := Lib.hid hq; have HO := Lib.hid ho; clear hr hp hq ho h
        go_enter Try.func13, Try.ntmps13
        go_wp2_with fail
        refine (right_any u g _).mono ?_
        rintro e w1 ⟨rfl, hB⟩
        rw [HR.out]
        have bC := BC0.out.below' hB; have bP := BP0.out.below' hB; have bR := BR0.out.below' hB; have bN := BN0.out.below' hB
        have HB1 := Lib.hid (HB0.out.trans (hB.mono HB0.out.size))
        clear hB
        have c0 := bC.at 0 rfl; have c1 := bC.at 1 rfl; have p0 := bP.at 0 rfl; have p1 := bP.at 1 rfl; have p2 := bP.at 2 rfl; have p3 := bP.at 3 rfl; have p4 := bP.at 4 rfl; have n0 := bN.at 0 rfl; have n1 := bN.at 1 rfl; have n2 := bN.at 2 rfl; have n3 := bN.at 3 rfl; have n4 := bN.at 4 rfl
        have BC1 := Lib.hid bC; have BP1 := Lib.hid bP; have BR1 := Lib.hid bR; have BN1 := Lib.hid bN; clear bC bP bR bN
        go_wp2_with fail
        refine (perm_any a b c d m _).mono ?_
        rintro e w2 ⟨rfl, hB⟩
        rw [HP.out]
        have bC := BC1.out.below' hB; have bP := BP1.out.below' hB; have bR := BR1.out.below' hB; have bN := BN1.out.below' hB
        have HB2 := Lib.hid (HB1.out.trans (hB.mono HB1.out.size))
        clear hB c0 c1 p0 p1 p2 p3 p4 n0 n1 n2 n3 n4
        have c0 := bC.at 0 rfl; have c1 := bC.at 1 rfl; have p0 := bP.at 0 rfl; have p1 := bP.at 1 rfl; have p2 := bP.at 2 rfl; have p3 := bP.at 3 rfl; have p4 := bP.at 4 rfl; have n0 := bN.at 0 rfl; have n1 := bN.at 1 rfl; have n2 := bN.at 2 rfl; have n3 := bN.at 3 rfl; have n4 := bN.at 4 rfl
        have BC2 := Lib.hid bC; have BP2 := Lib.hid bP; have BR2 := Lib.hid bR; have BN2 := Lib.hid bN; clear bC bP bR bN
        go_wp2_with fail
        refine (perm_any a' b' c d m' _).mono ?_
        rintro e w3 ⟨rfl, hB⟩
        rw [HQ.out]
        have bC := BC2.out.below' hB; have bP := BP2.out.below' hB; have bR := BR2.out.below' hB; have bN := BN2.out.below' hB
        have HB3 := Lib.hid (HB2.out.trans (hB.mono HB2.out.size))
        clear hB c0 c1 p0 p1 p2 p3 p4 n0 n1 n2 n3 n4
        have c0 := bC.at 0 rfl; have c1 := bC.at 1 rfl; have p0 := bP.at 0 rfl; have p1 := bP.at 1 rfl; have p2 := bP.at 2 rfl; have p3 := bP.at 3 rfl; have p4 := bP.at 4 rfl; have n0 := bN.at 0 rfl; have n1 := bN.at 1 rfl; have n2 := bN.at 2 rfl; have n3 := bN.at 3 rfl; have n4 := bN.at 4 rfl
        have BC3 := Lib.hid bC; have BP3 := Lib.hid bP; have BR3 := Lib.hid bR; have BN3 := Lib.hid bN; clear bC bP bR bN
        go_wp2_with fail
        refine (owns_any u g a b c d m _).mono ?_
        rintro e w4 ⟨rfl, hB⟩
        rw [HO.out]
        have bC := BC3.out.below' hB; have bP := BP3.out.below' hB; have bR := BR3.out.below' hB; have bN := BN3.out.below' hB
        have HB4 := Lib.hid (HB3.out.trans (hB.mono HB3.out.size))
        clear hB c0 c1 p0 p1 p2 p3 p4 n0 n1 n2 n3 n4
        have c0 := bC.at 0 rfl; have c1 := bC.at 1 rfl; have p0 := bP.at 0 rfl; have p1 := bP.at 1 rfl; have p2 := bP.at 2 rfl; have p3 := bP.at 3 rfl; have p4 := bP.at 4 rfl; have n0 := bN.at 0 rfl; have n1 := bN.at 1 rfl; have n2 := bN.at 2 rfl; have n3 := bN.at 3 rfl; have n4 := bN.at 4 rfl
        have BC4 := Lib.hid bC; have BP4 := Lib.hid bP; have BR4 := Lib.hid bR; have BN4 := Lib.hid bN; clear bC bP bR bN
        have r0 := BR4.out.at 0 rfl; have r1 := BR4.out.at 1 rfl; have r2 := BR4.out.at 2 rfl; have r3 := BR4.out.at 3 rfl; have r4 := BR4.out.at 4 rfl
        have f0 := BR4.out.f 0; have f1 := BR4.out.f 1; have f2 := BR4.out.f 2; have f3 := BR4.out.f 3; have f4 := BR4.out.f 4
        go_wp2
        have bs := BR4.out.set5 (.int .i64 0) (.int .i64 0) (.int .i64 0) (.int .i64 0) (.int .i64 0)
        have s0 := bs.at 0 rfl; have s1 := bs.at 1 rfl; have s2 := bs.at 2 rfl; have s3 := bs.at 3 rfl; have s4 := bs.at 4 rfl
        exact bodyPost_ret (v := .tuple #[.agg (pm 0 0 0 0 0), .int .i64 51]) (by simp [results, Try.results13, go_sem, s0, s1, s2, s3, s4]) rfl ⟨by rw [HE.out], below_set5 HB4.out (by omega) _ _ _ _ _⟩
      · have HE : Hid (setE u g a b c d m a' b' m' = 50) := by unfold Hid setE; rw [hr, hp, Bool.eq_false_iff.2 hq]; rfl
        have HR := Lib.hid hr; have HP := Lib.hid hp; have HQ := Lib.hid (Bool.eq_false_iff.2 hq); clear hr hp hq h
        go_enter Try.func13, Try.ntmps13
        go_wp2_with fail
        refine (right_any u g _).mono ?_
        rintro e w1 ⟨rfl, hB⟩
        rw [HR.out]
        have bC := BC0.out.below' hB; have bP := BP0.out.below' hB; have bR := BR0.out.below' hB; have bN := BN0.out.below' hB
        have HB1 := Lib.hid (HB0.out.trans (hB.mono HB0.out.size))
        clear hB
        have c0 := bC.at 0 rfl; have c1 := bC.at 1 rfl; have p0 := bP.at 0 rfl; have p1 := bP.at 1 rfl; have p2 := bP.at 2 rfl; have p3 := bP.at 3 rfl; have p4 := bP.at 4 rfl; have n0 := bN.at 0 rfl; have n1 := bN.at 1 rfl; have n2 := bN.at 2 rfl; have n3 := bN.at 3 rfl; have n4 := bN.at 4 rfl
        have BC1 := Lib.hid bC; have BP1 := Lib.hid bP; have BR1 := Lib.hid bR; have BN1 := Lib.hid bN; clear bC bP bR bN
        go_wp2_with fail
        refine (perm_any a b c d m _).mono ?_
        rintro e w2 ⟨rfl, hB⟩
        rw [HP.out]
        have bC := BC1.out.below' hB; have bP := BP1.out.below' hB; have bR := BR1.out.below' hB; have bN := BN1.out.below' hB
        have HB2 := Lib.hid (HB1.out.trans (hB.mono HB1.out.size))
        clear hB c0 c1 p0 p1 p2 p3 p4 n0 n1 n2 n3 n4
        have c0 := bC.at 0 rfl; have c1 := bC.at 1 rfl; have p0 := bP.at 0 rfl; have p1 := bP.at 1 rfl; have p2 := bP.at 2 rfl; have p3 := bP.at 3 rfl; have p4 := bP.at 4 rfl; have n0 := bN.at 0 rfl; have n1 := bN.at 1 rfl; have n2 := bN.at 2 rfl; have n3 := bN.at 3 rfl; have n4 := bN.at 4 rfl
        have BC2 := Lib.hid bC; have BP2 := Lib.hid bP; have BR2 := Lib.hid bR; have BN2 := Lib.hid bN; clear bC bP bR bN
        go_wp2_with fail
        refine (perm_any a' b' c d m' _).mono ?_
        rintro e w3 ⟨rfl, hB⟩
        rw [HQ.out]
        have bC := BC2.out.below' hB; have bP := BP2.out.below' hB; have bR := BR2.out.below' hB; have bN := BN2.out.below' hB
        have HB3 := Lib.hid (HB2.out.trans (hB.mono HB2.out.size))
        clear hB c0 c1 p0 p1 p2 p3 p4 n0 n1 n2 n3 n4
        have c0 := bC.at 0 rfl; have c1 := bC.at 1 rfl; have p0 := bP.at 0 rfl; have p1 := bP.at 1 rfl; have p2 := bP.at 2 rfl; have p3 := bP.at 3 rfl; have p4 := bP.at 4 rfl; have n0 := bN.at 0 rfl; have n1 := bN.at 1 rfl; have n2 := bN.at 2 rfl; have n3 := bN.at 3 rfl; have n4 := bN.at 4 rfl
        have BC3 := Lib.hid bC; have BP3 := Lib.hid bP; have BR3 := Lib.hid bR; have BN3 := Lib.hid bN; clear bC bP bR bN
        have r0 := BR3.out.at 0 rfl; have r1 := BR3.out.at 1 rfl; have r2 := BR3.out.at 2 rfl; have r3 := BR3.out.at 3 rfl; have r4 := BR3.out.at 4 rfl
        have f0 := BR3.out.f 0; have f1 := BR3.out.f 1; have f2 := BR3.out.f 2; have f3 := BR3.out.f 3; have f4 := BR3.out.f 4
        go_wp2
        have bs := BR3.out.set5 (.int .i64 0) (.int .i64 0) (.int .i64 0) (.int .i64 0) (.int .i64 0)
        have s0 := bs.at 0 rfl; have s1 := bs.at 1 rfl; have s2 := bs.at 2 rfl; have s3 := bs.at 3 rfl; have s4 := bs.at 4 rfl
        exact bodyPost_ret (v := .tuple #[.agg (pm 0 0 0 0 0), .int .i64 50]) (by simp [results, Try.results13, go_sem, s0, s1, s2, s3, s4]) rfl ⟨by rw [HE.out], below_set5 HB3.out (by omega) _ _ _ _ _⟩
    · have HE : Hid (setE u g a b c d m a' b' m' = 50) := by unfold Hid setE; rw [hr, Bool.eq_false_iff.2 hp]; rfl
      have HR := Lib.hid hr; have HP := Lib.hid (Bool.eq_false_iff.2 hp); clear hr hp h
      go_enter Try.func13, Try.ntmps13
      go_wp2_with fail
      refine (right_any u g _).mono ?_
      rintro e w1 ⟨rfl, hB⟩
      rw [HR.out]
      have bC := BC0.out.below' hB; have bP := BP0.out.below' hB; have bR := BR0.out.below' hB; have bN := BN0.out.below' hB
      have HB1 := Lib.hid (HB0.out.trans (hB.mono HB0.out.size))
      clear hB
      have c0 := bC.at 0 rfl; have c1 := bC.at 1 rfl; have p0 := bP.at 0 rfl; have p1 := bP.at 1 rfl; have p2 := bP.at 2 rfl; have p3 := bP.at 3 rfl; have p4 := bP.at 4 rfl; have n0 := bN.at 0 rfl; have n1 := bN.at 1 rfl; have n2 := bN.at 2 rfl; have n3 := bN.at 3 rfl; have n4 := bN.at 4 rfl
      have BC1 := Lib.hid bC; have BP1 := Lib.hid bP; have BR1 := Lib.hid bR; have BN1 := Lib.hid bN; clear bC bP bR bN
      go_wp2_with fail
      refine (perm_any a b c d m _).mono ?_
      rintro e w2 ⟨rfl, hB⟩
      rw [HP.out]
      have bC := BC1.out.below' hB; have bP := BP1.out.below' hB; have bR := BR1.out.below' hB; have bN := BN1.out.below' hB
      have HB2 := Lib.hid (HB1.out.trans (hB.mono HB1.out.size))
      clear hB c0 c1 p0 p1 p2 p3 p4 n0 n1 n2 n3 n4
      have c0 := bC.at 0 rfl; have c1 := bC.at 1 rfl; have p0 := bP.at 0 rfl; have p1 := bP.at 1 rfl; have p2 := bP.at 2 rfl; have p3 := bP.at 3 rfl; have p4 := bP.at 4 rfl; have n0 := bN.at 0 rfl; have n1 := bN.at 1 rfl; have n2 := bN.at 2 rfl; have n3 := bN.at 3 rfl; have n4 := bN.at 4 rfl
      have BC2 := Lib.hid bC; have BP2 := Lib.hid bP; have BR2 := Lib.hid bR; have BN2 := Lib.hid bN; clear bC bP bR bN
      have r0 := BR2.out.at 0 rfl; have r1 := BR2.out.at 1 rfl; have r2 := BR2.out.at 2 rfl; have r3 := BR2.out.at 3 rfl; have r4 := BR2.out.at 4 rfl
      have f0 := BR2.out.f 0; have f1 := BR2.out.f 1; have f2 := BR2.out.f 2; have f3 := BR2.out.f 3; have f4 := BR2.out.f 4
      go_wp2
      have bs := BR2.out.set5 (.int .i64 0) (.int .i64 0) (.int .i64 0) (.int .i64 0) (.int .i64 0)
      have s0 := bs.at 0 rfl; have s1 := bs.at 1 rfl; have s2 := bs.at 2 rfl; have s3 := bs.at 3 rfl; have s4 := bs.at 4 rfl
      exact bodyPost_ret (v := .tuple #[.agg (pm 0 0 0 0 0), .int .i64 50]) (by simp [results, Try.results13, go_sem, s0, s1, s2, s3, s4]) rfl ⟨by rw [HE.out], below_set5 HB2.out (by omega) _ _ _ _ _⟩
  · have HE : Hid (setE u g a b c d m a' b' m' = 50) := by unfold Hid setE; rw [Bool.eq_false_iff.2 hr]; rfl
    have HR := Lib.hid (Bool.eq_false_iff.2 hr); clear hr h
    go_enter Try.func13, Try.ntmps13
    go_wp2_with fail
    refine (right_any u g _).mono ?_
    rintro e w1 ⟨rfl, hB⟩
    rw [HR.out]
    have bC := BC0.out.below' hB; have bP := BP0.out.below' hB; have bR := BR0.out.below' hB; have bN := BN0.out.below' hB
    have HB1 := Lib.hid (HB0.out.trans (hB.mono HB0.out.size))
    clear hB
    have c0 := bC.at 0 rfl; have c1 := bC.at 1 rfl; have p0 := bP.at 0 rfl; have p1 := bP.at 1 rfl; have p2 := bP.at 2 rfl; have p3 := bP.at 3 rfl; have p4 := bP.at 4 rfl; have n0 := bN.at 0 rfl; have n1 := bN.at 1 rfl; have n2 := bN.at 2 rfl; have n3 := bN.at 3 rfl; have n4 := bN.at 4 rfl
    have BC1 := Lib.hid bC; have BP1 := Lib.hid bP; have BR1 := Lib.hid bR; have BN1 := Lib.hid bN; clear bC bP bR bN
    have r0 := BR1.out.at 0 rfl; have r1 := BR1.out.at 1 rfl; have r2 := BR1.out.at 2 rfl; have r3 := BR1.out.at 3 rfl; have r4 := BR1.out.at 4 rfl
    have f0 := BR1.out.f 0; have f1 := BR1.out.f 1; have f2 := BR1.out.f 2; have f3 := BR1.out.f 3; have f4 := BR1.out.f 4
    go_wp2
    have bs := BR1.out.set5 (.int .i64 0) (.int .i64 0) (.int .i64 0) (.int .i64 0) (.int .i64 0)
    have s0 := bs.at 0 rfl; have s1 := bs.at 1 rfl; have s2 := bs.at 2 rfl; have s3 := bs.at 3 rfl; have s4 := bs.at 4 rfl
    exact bodyPost_ret (v := .tuple #[.agg (pm 0 0 0 0 0), .int .i64 50]) (by simp [results, Try.results13, go_sem, s0, s1, s2, s3, s4]) rfl ⟨by rw [HE.out], below_set5 HB1.out (by omega) _ _ _ _ _⟩

end Go.Proofs.Ytpankbmlidnoaaa
