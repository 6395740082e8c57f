/- The document's own answers for cred (taffrailref05), walked: the same plain functions. -/
import Derived.Test.YtpankbmlidnoaaaCredSet
namespace Go.Proofs.Ytpankbmlidnoaaa
open Go.RowKit

set_option maxRecDepth 100000 in
set_option maxHeartbeats 1000000 in
theorem ruser_any (n : Int) (w : World) : Calls Try.prog 26 #[.int .i64 n] w fun e w' => e = .returned (.bool (usrB n)) ∧ Below w.heap.size w w' := by
  by_cases h : 0 ≤ n
  · have HB : Hid (usrB n = decide (n ≤ 65535)) := by unfold Hid usrB; simp [h]
    go_enter Try.func26, Try.ntmps26
    go_wp2
    go_ret
    exact ⟨ret_b HB.out.symm, Below.refl _ _⟩
  · have HB : Hid (usrB n = false) := by unfold Hid usrB; simp; omega
    go_enter Try.func26, Try.ntmps26
    go_wp2
    go_ret
    exact ⟨ret_b HB.out.symm, Below.refl _ _⟩

set_option maxRecDepth 100000 in
set_option maxHeartbeats 1000000 in
theorem rright_any (u g : Int) (w : World) : Calls Try.prog 16 #[.agg #[.int .i64 u, .int .i64 g]] w fun e w' => e = .returned (.bool (rightB u g)) ∧ Below w.heap.size w w' := by
  by_cases hu : usrB u = true
  · have HN : Hid (rightB u g = usrB g) := by unfold Hid rightB; rw [hu]; rfl
    have HU := Lib.hid hu; clear hu
    have bC := BoxA.new w 23 #[.int .i64 u, .int .i64 g]
    have HB0 := Lib.hid ((Below.refl w.heap.size w).alloc (by first | exact Nat.le_refl _ | (simp; done) | (simp; omega)) (.cells #[.int .i64 u, .int .i64 g] 23))
    have BC0 := Lib.hid bC; clear bC
    go_enter Try.func16, Try.ntmps16
    go_wp2_with fail
    refine (ruser_any u _).mono ?_
    rintro e w1 ⟨rfl, hB⟩
    rw [HU.out]
    have bC := BC0.out.below' hB
    have HB1 := Lib.hid (HB0.out.trans (hB.mono HB0.out.size))
    clear hB BC0
    have c0 := bC.at 0 rfl; have c1 := bC.at 1 rfl
    have BC1 := Lib.hid bC; clear bC
    go_wp2_with fail
    refine (ruser_any g _).mono ?_
    rintro e w2 ⟨rfl, hB⟩
    have bC := BC1.out.below' hB
    have HB2 := Lib.hid (HB1.out.trans (hB.mono HB1.out.size))
    clear hB c0 c1 BC1
    have c0 := bC.at 0 rfl; have c1 := bC.at 1 rfl
    have BC2 := Lib.hid bC; clear bC
    go_wp2
    go_ret
    exact ⟨ret_b HN.out.symm, HB2.out⟩
  · have HN : Hid (rightB u g = false) := by unfold Hid rightB; rw [Bool.eq_false_iff.2 hu]; rfl
    have HU := Lib.hid (Bool.eq_false_iff.2 hu); clear hu
    have bC := BoxA.new w 23 #[.int .i64 u, .int .i64 g]
    have HB0 := Lib.hid ((Below.refl w.heap.size w).alloc (by first | exact Nat.le_refl _ | (simp; done) | (simp; omega)) (.cells #[.int .i64 u, .int .i64 g] 23))
    have BC0 := Lib.hid bC; clear bC
    go_enter Try.func16, Try.ntmps16
    go_wp2_with fail
    refine (ruser_any u _).mono ?_
    rintro e w1 ⟨rfl, hB⟩
    rw [HU.out]
    have bC := BC0.out.below' hB
    have HB1 := Lib.hid (HB0.out.trans (hB.mono HB0.out.size))
    clear hB BC0
    have c0 := bC.at 0 rfl; have c1 := bC.at 1 rfl
    have BC1 := Lib.hid bC; clear bC
    go_wp2
    go_ret
    exact ⟨ret_b HN.out.symm, HB1.out⟩

set_option maxRecDepth 100000 in
set_option maxHeartbeats 1000000 in
theorem rperm_any (a b c d m : Int) (w : World) : Calls Try.prog 18 #[.agg #[.int .i64 a, .int .i64 b, .int .i64 c, .int .i64 d, .int .i64 m]] w fun e w' => e = .returned (.bool (permB a b c d m)) ∧ Below w.heap.size w w' := by
  by_cases ha : usrB a = true
  · by_cases hb : usrB b = true
    · by_cases hc : usrB c = true
      · by_cases hd : usrB d = true
        · have HV : Hid (permB a b c d m = modB m) := by unfold Hid permB; rw [ha, hb, hc, hd]; rfl
          have Ha := Lib.hid ha; have Hb := Lib.hid hb; have Hc := Lib.hid hc; have Hd := Lib.hid hd; clear ha hb hc hd
          by_cases h0 : 0 ≤ m
          · have HN : Hid (permB a b c d m = decide (m ≤ 511)) := by unfold Hid; rw [HV.out]; unfold modB; simp [h0]
            have bP := BoxA.new w 25 #[.int .i64 a, .int .i64 b, .int .i64 c, .int .i64 d, .int .i64 m]
            have HB0 := Lib.hid ((Below.refl w.heap.size w).alloc (by first | exact Nat.le_refl _ | (simp; done) | (simp; omega)) (.cells #[.int .i64 a, .int .i64 b, .int .i64 c, .int .i64 d, .int .i64 m] 25))
            have BP0 := Lib.hid bP; clear bP
            go_enter Try.func18, Try.ntmps18
            go_wp2_with fail
            refine (ruser_any a _).mono ?_
            rintro e w1 ⟨rfl, hB⟩
            rw [Ha.out]
            have bP := BP0.out.below' hB
            have HB1 := Lib.hid (HB0.out.trans (hB.mono HB0.out.size))
            clear hB BP0
            have p0 := bP.at 0 rfl; have p1 := bP.at 1 rfl; have p2 := bP.at 2 rfl; have p3 := bP.at 3 rfl; have p4 := bP.at 4 rfl
            have BP1 := Lib.hid bP; clear bP
            go_wp2_with fail
            refine (ruser_any b _).mono ?_
            rintro e w2 ⟨rfl, hB⟩
            rw [Hb.out]
            have bP := BP1.out.below' hB
            have HB2 := Lib.hid (HB1.out.trans (hB.mono HB1.out.size))
            clear hB p0 p1 p2 p3 p4 BP1
            have p0 := bP.at 0 rfl; have p1 := bP.at 1 rfl; have p2 := bP.at 2 rfl; have p3 := bP.at 3 rfl; have p4 := bP.at 4 rfl
            have BP2 := Lib.hid bP; clear bP
            go_wp2_with fail
            refine (ruser_any c _).mono ?_
            rintro e w3 ⟨rfl, hB⟩
            rw [Hc.out]
            have bP := BP2.out.below' hB
            have HB3 := Lib.hid (HB2.out.trans (hB.mono HB2.out.size))
            clear hB p0 p1 p2 p3 p4 BP2
            have p0 := bP.at 0 rfl; have p1 := bP.at 1 rfl; have p2 := bP.at 2 rfl; have p3 := bP.at 3 rfl; have p4 := bP.at 4 rfl
            have BP3 := Lib.hid bP; clear bP
            go_wp2_with fail
            refine (ruser_any d _).mono ?_
            rintro e w4 ⟨rfl, hB⟩
            rw [Hd.out]
            have bP := BP3.out.below' hB
            have HB4 := Lib.hid (HB3.out.trans (hB.mono HB3.out.size))
            clear hB p0 p1 p2 p3 p4 BP3
            have p0 := bP.at 0 rfl; have p1 := bP.at 1 rfl; have p2 := bP.at 2 rfl; have p3 := bP.at 3 rfl; have p4 := bP.at 4 rfl
            have BP4 := Lib.hid bP; clear bP
            go_wp2
            go_ret
            exact ⟨ret_b HN.out.symm, HB4.out⟩
          · have HN : Hid (permB a b c d m = false) := by unfold Hid; rw [HV.out]; unfold modB; simp; omega
            have bP := BoxA.new w 25 #[.int .i64 a, .int .i64 b, .int .i64 c, .int .i64 d, .int .i64 m]
            have HB0 := Lib.hid ((Below.refl w.heap.size w).alloc (by first | exact Nat.le_refl _ | (simp; done) | (simp; omega)) (.cells #[.int .i64 a, .int .i64 b, .int .i64 c, .int .i64 d, .int .i64 m] 25))
            have BP0 := Lib.hid bP; clear bP
            go_enter Try.func18, Try.ntmps18
            go_wp2_with fail
            refine (ruser_any a _).mono ?_
            rintro e w1 ⟨rfl, hB⟩
            rw [Ha.out]
            have bP := BP0.out.below' hB
            have HB1 := Lib.hid (HB0.out.trans (hB.mono HB0.out.size))
            clear hB BP0
            have p0 := bP.at 0 rfl; have p1 := bP.at 1 rfl; have p2 := bP.at 2 rfl; have p3 := bP.at 3 rfl; have p4 := bP.at 4 rfl
            have BP1 := Lib.hid bP; clear bP
            go_wp2_with fail
            refine (ruser_any b _).mono ?_
            rintro e w2 ⟨rfl, hB⟩
            rw [Hb.out]
            have bP := BP1.out.below' hB
            have HB2 := Lib.hid (HB1.out.trans (hB.mono HB1.out.size))
            clear hB p0 p1 p2 p3 p4 BP1
            have p0 := bP.at 0 rfl; have p1 := bP.at 1 rfl; have p2 := bP.at 2 rfl; have p3 := bP.at 3 rfl; have p4 := bP.at 4 rfl
            have BP2 := Lib.hid bP; clear bP
            go_wp2_with fail
            refine (ruser_any c _).mono ?_
            rintro e w3 ⟨rfl, hB⟩
            rw [Hc.out]
            have bP := BP2.out.below' hB
            have HB3 := Lib.hid (HB2.out.trans (hB.mono HB2.out.size))
            clear hB p0 p1 p2 p3 p4 BP2
            have p0 := bP.at 0 rfl; have p1 := bP.at 1 rfl; have p2 := bP.at 2 rfl; have p3 := bP.at 3 rfl; have p4 := bP.at 4 rfl
            have BP3 := Lib.hid bP; clear bP
            go_wp2_with fail
            refine (ruser_any d _).mono ?_
            rintro e w4 ⟨rfl, hB⟩
            rw [Hd.out]
            have bP := BP3.out.below' hB
            have HB4 := Lib.hid (HB3.out.trans (hB.mono HB3.out.size))
            clear hB p0 p1 p2 p3 p4 BP3
            have p0 := bP.at 0 rfl; have p1 := bP.at 1 rfl; have p2 := bP.at 2 rfl; have p3 := bP.at 3 rfl; have p4 := bP.at 4 rfl
            have BP4 := Lib.hid bP; clear bP
            go_wp2
            go_ret
            exact ⟨ret_b HN.out.symm, HB4.out⟩
        · have HN : Hid (permB a b c d m = false) := by unfold Hid permB; rw [Bool.eq_false_iff.2 hd]; simp
          have Ha := Lib.hid ha; have Hb := Lib.hid hb; have Hc := Lib.hid hc; have Hd := Lib.hid (Bool.eq_false_iff.2 hd); clear ha hb hc hd
          have bP := BoxA.new w 25 #[.int .i64 a, .int .i64 b, .int .i64 c, .int .i64 d, .int .i64 m]
          have HB0 := Lib.hid ((Below.refl w.heap.size w).alloc (by first | exact Nat.le_refl _ | (simp; done) | (simp; omega)) (.cells #[.int .i64 a, .int .i64 b, .int .i64 c, .int .i64 d, .int .i64 m] 25))
          have BP0 := Lib.hid bP; clear bP
          go_enter Try.func18, Try.ntmps18
          go_wp2_with fail
          refine (ruser_any a _).mono ?_
          rintro e w1 ⟨rfl, hB⟩
          rw [Ha.out]
          have bP := BP0.out.below' hB
          have HB1 := Lib.hid (HB0.out.trans (hB.mono HB0.out.size))
          clear hB BP0
          have p0 := bP.at 0 rfl; have p1 := bP.at 1 rfl; have p2 := bP.at 2 rfl; have p3 := bP.at 3 rfl; have p4 := bP.at 4 rfl
          have BP1 := Lib.hid bP; clear bP
          go_wp2_with fail
          refine (ruser_any b _).mono ?_
          rintro e w2 ⟨rfl, hB⟩
          rw [Hb.out]
          have bP := BP1.out.below' hB
          have HB2 := Lib.hid (HB1.out.trans (hB.mono HB1.out.size))
          clear hB p0 p1 p2 p3 p4 BP1
          have p0 := bP.at 0 rfl; have p1 := bP.at 1 rfl; have p2 := bP.at 2 rfl; have p3 := bP.at 3 rfl; have p4 := bP.at 4 rfl
          have BP2 := Lib.hid bP; clear bP
          go_wp2_with fail
          refine (ruser_any c _).mono ?_
          rintro e w3 ⟨rfl, hB⟩
          rw [Hc.out]
          have bP := BP2.out.below' hB
          have HB3 := Lib.hid (HB2.out.trans (hB.mono HB2.out.size))
          clear hB p0 p1 p2 p3 p4 BP2
          have p0 := bP.at 0 rfl; have p1 := bP.at 1 rfl; have p2 := bP.at 2 rfl; have p3 := bP.at 3 rfl; have p4 := bP.at 4 rfl
          have BP3 := Lib.hid bP; clear bP
          go_wp2_with fail
          refine (ruser_any d _).mono ?_
          rintro e w4 ⟨rfl, hB⟩
          rw [Hd.out]
          have bP := BP3.out.below' hB
          have HB4 := Lib.hid (HB3.out.trans (hB.mono HB3.out.size))
          clear hB p0 p1 p2 p3 p4 BP3
          have p0 := bP.at 0 rfl; have p1 := bP.at 1 rfl; have p2 := bP.at 2 rfl; have p3 := bP.at 3 rfl; have p4 := bP.at 4 rfl
          have BP4 := Lib.hid bP; clear bP
          go_wp2
          go_ret
          exact ⟨ret_b HN.out.symm, HB4.out⟩
      · have HN : Hid (permB a b c d m = false) := by unfold Hid permB; rw [Bool.eq_false_iff.2 hc]; simp
        have Ha := Lib.hid ha; have Hb := Lib.hid hb; have Hc := Lib.hid (Bool.eq_false_iff.2 hc); clear ha hb hc
        have bP := BoxA.new w 25 #[.int .i64 a, .int .i64 b, .int .i64 c, .int .i64 d, .int .i64 m]
        have HB0 := Lib.hid ((Below.refl w.heap.size w).alloc (by first | exact Nat.le_refl _ | (simp; done) | (simp; omega)) (.cells #[.int .i64 a, .int .i64 b, .int .i64 c, .int .i64 d, .int .i64 m] 25))
        have BP0 := Lib.hid bP; clear bP
        go_enter Try.func18, Try.ntmps18
        go_wp2_with fail
        refine (ruser_any a _).mono ?_
        rintro e w1 ⟨rfl, hB⟩
        rw [Ha.out]
        have bP := BP0.out.below' hB
        have HB1 := Lib.hid (HB0.out.trans (hB.mono HB0.out.size))
        clear hB BP0
        have p0 := bP.at 0 rfl; have p1 := bP.at 1 rfl; have p2 := bP.at 2 rfl; have p3 := bP.at 3 rfl; have p4 := bP.at 4 rfl
        have BP1 := Lib.hid bP; clear bP
        go_wp2_with fail
        refine (ruser_any b _).mono ?_
        rintro e w2 ⟨rfl, hB⟩
        rw [Hb.out]
        have bP := BP1.out.below' hB
        have HB2 := Lib.hid (HB1.out.trans (hB.mono HB1.out.size))
        clear hB p0 p1 p2 p3 p4 BP1
        have p0 := bP.at 0 rfl; have p1 := bP.at 1 rfl; have p2 := bP.at 2 rfl; have p3 := bP.at 3 rfl; have p4 := bP.at 4 rfl
        have BP2 := Lib.hid bP; clear bP
        go_wp2_with fail
        refine (ruser_any c _).mono ?_
        rintro e w3 ⟨rfl, hB⟩
        rw [Hc.out]
        have bP := BP2.out.below' hB
        have HB3 := Lib.hid (HB2.out.trans (hB.mono HB2.out.size))
        clear hB p0 p1 p2 p3 p4 BP2
        have p0 := bP.at 0 rfl; have p1 := bP.at 1 rfl; have p2 := bP.at 2 rfl; have p3 := bP.at 3 rfl; have p4 := bP.at 4 rfl
        have BP3 := Lib.hid bP; clear bP
        go_wp2
        go_ret
        exact ⟨ret_b HN.out.symm, HB3.out⟩
    · have HN : Hid (permB a b c d m = false) := by unfold Hid permB; rw [Bool.eq_false_iff.2 hb]; simp
      have Ha := Lib.hid ha; have Hb := Lib.hid (Bool.eq_false_iff.2 hb); clear ha hb
      have bP := BoxA.new w 25 #[.int .i64 a, .int .i64 b, .int .i64 c, .int .i64 d, .int .i64 m]
      have HB0 := Lib.hid ((Below.refl w.heap.size w).alloc (by first | exact Nat.le_refl _ | (simp; done) | (simp; omega)) (.cells #[.int .i64 a, .int .i64 b, .int .i64 c, .int .i64 d, .int .i64 m] 25))
      have BP0 := Lib.hid bP; clear bP
      go_enter Try.func18, Try.ntmps18
      go_wp2_with fail
      refine (ruser_any a _).mono ?_
      rintro e w1 ⟨rfl, hB⟩
      rw [Ha.out]
      have bP := BP0.out.below' hB
      have HB1 := Lib.hid (HB0.out.trans (hB.mono HB0.out.size))
      clear hB BP0
      have p0 := bP.at 0 rfl; have p1 := bP.at 1 rfl; have p2 := bP.at 2 rfl; have p3 := bP.at 3 rfl; have p4 := bP.at 4 rfl
      have BP1 := Lib.hid bP; clear bP
      go_wp2_with fail
      refine (ruser_any b _).mono ?_
      rintro e w2 ⟨rfl, hB⟩
      rw [Hb.out]
      have bP := BP1.out.below' hB
      have HB2 := Lib.hid (HB1.out.trans (hB.mono HB1.out.size))
      clear hB p0 p1 p2 p3 p4 BP1
      have p0 := bP.at 0 rfl; have p1 := bP.at 1 rfl; have p2 := bP.at 2 rfl; have p3 := bP.at 3 rfl; have p4 := bP.at 4 rfl
      have BP2 := Lib.hid bP; clear bP
      go_wp2
      go_ret
      exact ⟨ret_b HN.out.symm, HB2.out⟩
  · have HN : Hid (permB a b c d m = false) := by unfold Hid permB; rw [Bool.eq_false_iff.2 ha]; simp
    have Ha := Lib.hid (Bool.eq_false_iff.2 ha); clear ha
    have bP := BoxA.new w 25 #[.int .i64 a, .int .i64 b, .int .i64 c, .int .i64 d, .int .i64 m]
    have HB0 := Lib.hid ((Below.refl w.heap.size w).alloc (by first | exact Nat.le_refl _ | (simp; done) | (simp; omega)) (.cells #[.int .i64 a, .int .i64 b, .int .i64 c, .int .i64 d, .int .i64 m] 25))
    have BP0 := Lib.hid bP; clear bP
    go_enter Try.func18, Try.ntmps18
    go_wp2_with fail
    refine (ruser_any a _).mono ?_
    rintro e w1 ⟨rfl, hB⟩
    rw [Ha.out]
    have bP := BP0.out.below' hB
    have HB1 := Lib.hid (HB0.out.trans (hB.mono HB0.out.size))
    clear hB BP0
    have p0 := bP.at 0 rfl; have p1 := bP.at 1 rfl; have p2 := bP.at 2 rfl; have p3 := bP.at 3 rfl; have p4 := bP.at 4 rfl
    have BP1 := Lib.hid bP; clear bP
    go_wp2
    go_ret
    exact ⟨ret_b HN.out.symm, HB1.out⟩

end Go.Proofs.Ytpankbmlidnoaaa
