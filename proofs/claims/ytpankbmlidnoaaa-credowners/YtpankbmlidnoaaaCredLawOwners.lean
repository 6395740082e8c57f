/- CredOwners: for every credentials and permission: who owns a thing may set its mode so that all is allowed to them, who does not sets nothing; no condition. -/
import Derived.Test.YtpankbmlidnoaaaCredShown
import Derived.Test.YtpankbmlidnoaaaCredArgs
namespace Go.Proofs.Ytpankbmlidnoaaa
open Go.ChangeShapes Go.WideShapes Go.ChangeAt Go.RowKit

theorem perm_all {a b c d m : Int} (hp : permB a b c d m = true) : permB a b c d 511 = true := by
  simp only [permB, modB, usrB, Bool.and_eq_true, decide_eq_true_eq] at hp ⊢
  omega
theorem allow_all {u g a b c d m : Int} (ho : ownsB u g a b c d m = true) : allowN u g a b c d 511 6 = 0 := by
  simp only [ownsB, Bool.and_eq_true, decide_eq_true_eq] at ho
  have hq := perm_all ho.1.2
  unfold allowN bitsN
  rw [ho.1.1, hq]
  have hpl := ho.2
  have hp4 := (place_pos u g a b c d).2
  generalize placeN u g a b c d = q at *
  have : q = 3 ∨ q = 4 := by omega
  rcases this with rfl | rfl <;> decide

set_option maxRecDepth 100000 in
set_option maxHeartbeats 1000000 in
theorem owners_walk (u g a b c d m : Int) (w : World) : Calls Try.prog 5 #[.agg #[.int .i64 u, .int .i64 g], .agg #[.int .i64 a, .int .i64 b, .int .i64 c, .int .i64 d, .int .i64 m]] w fun e w' => e = .returned (.bool true) ∧ Below w.heap.size w w' := by
  by_cases hr : rightB u g = true
  · by_cases hp : permB a b c d m = true
    · have hp1 := perm_all hp
      by_cases ho : ownsB u g a b c d m = true
      · have HE : Hid (setE u g a b c d m a b 511 = 0) := by unfold Hid setE; rw [hr, hp, hp1, ho]; rfl
        have HA := Lib.hid (allow_all ho)
        have HO2 : Hid (ownsB u g a b c d 511 = true) := by simp only [ownsB, Bool.and_eq_true] at ho; unfold Hid ownsB; rw [ho.1.1, hp1, ho.2]; rfl
        have HR := Lib.hid hr; have HP := Lib.hid hp; have HO := Lib.hid ho; clear hr hp hp1 ho
        have bC := (BoxA.new w 23 #[.int .i64 u, .int .i64 g]).alloc (.cells #[.int .i64 a, .int .i64 b, .int .i64 c, .int .i64 d, .int .i64 m] 25)
        have bP := BoxA.new (w.alloc (.cells #[.int .i64 u, .int .i64 g] 23)) 25 #[.int .i64 a, .int .i64 b, .int .i64 c, .int .i64 d, .int .i64 m]
        simp only [World.size_alloc] at bP
        have HB0 := Lib.hid (((Below.refl w.heap.size w).alloc (by first | exact Nat.le_refl _ | (simp; done) | (simp; omega)) (.cells #[.int .i64 u, .int .i64 g] 23)).alloc (by first | exact Nat.le_refl _ | (simp; done) | (simp; omega)) (.cells #[.int .i64 a, .int .i64 b, .int .i64 c, .int .i64 d, .int .i64 m] 25))
        have BC0 := Lib.hid bC; have BP0 := Lib.hid bP; clear bC bP
        go_enter Try.func5, Try.ntmps5
        go_wp2_with fail
        refine (shown5_any _).mono ?_
        rintro e w1 ⟨rfl, hB⟩
        have bC := BC0.out.below' hB; have bP := BP0.out.below' hB
        have HB1 := Lib.hid (HB0.out.trans (hB.mono HB0.out.size))
        clear hB BC0 BP0
        have c0 := bC.at 0 rfl; have c1 := bC.at 1 rfl; have p0 := bP.at 0 rfl; have p1 := bP.at 1 rfl; have p2 := bP.at 2 rfl; have p3 := bP.at 3 rfl; have p4 := bP.at 4 rfl
        have BC1 := Lib.hid bC; have BP1 := Lib.hid bP; clear bC bP
        go_wp2_with fail
        refine (set_ok u g a b c d m a b 511 HE.out _).mono ?_
        rintro e w2 ⟨rfl, hB⟩
        have bC := BC1.out.below' hB; have bP := BP1.out.below' hB
        have HB2 := Lib.hid (HB1.out.trans (hB.mono HB1.out.size))
        clear hB c0 c1 p0 p1 p2 p3 p4 BC1 BP1
        have aC := bC.alloc (.cells #[.int .i64 a, .int .i64 b, .int .i64 c, .int .i64 d, .int .i64 511] 25); have aP := bP.alloc (.cells #[.int .i64 a, .int .i64 b, .int .i64 c, .int .i64 d, .int .i64 511] 25)
        have aS := BoxA.new w2 25 #[.int .i64 a, .int .i64 b, .int .i64 c, .int .i64 d, .int .i64 511]
        have HB3 := Lib.hid (HB2.out.alloc HB2.out.size (.cells #[.int .i64 a, .int .i64 b, .int .i64 c, .int .i64 d, .int .i64 511] 25))
        clear bC bP
        have c0 := aC.at 0 rfl; have c1 := aC.at 1 rfl; have p0 := aP.at 0 rfl; have p1 := aP.at 1 rfl; have p2 := aP.at 2 rfl; have p3 := aP.at 3 rfl; have p4 := aP.at 4 rfl; have s0 := aS.at 0 rfl; have s1 := aS.at 1 rfl; have s2 := aS.at 2 rfl; have s3 := aS.at 3 rfl; have s4 := aS.at 4 rfl
        have BC3 := Lib.hid aC; have BP3 := Lib.hid aP; have BS3 := Lib.hid aS; clear aC aP aS
        go_wp2_with fail
        refine (right_any u g _).mono ?_
        rintro e w4 ⟨rfl, hB⟩
        rw [HR.out]
        have bC := BC3.out.below' hB; have bP := BP3.out.below' hB; have bS := BS3.out.below' hB
        have HB4 := Lib.hid (HB3.out.trans (hB.mono HB3.out.size))
        clear hB c0 c1 p0 p1 p2 p3 p4 s0 s1 s2 s3 s4 BC3 BP3 BS3
        have c0 := bC.at 0 rfl; have c1 := bC.at 1 rfl; have p0 := bP.at 0 rfl; have p1 := bP.at 1 rfl; have p2 := bP.at 2 rfl; have p3 := bP.at 3 rfl; have p4 := bP.at 4 rfl; have s0 := bS.at 0 rfl; have s1 := bS.at 1 rfl; have s2 := bS.at 2 rfl; have s3 := bS.at 3 rfl; have s4 := bS.at 4 rfl
        have BC4 := Lib.hid bC; have BP4 := Lib.hid bP; have BS4 := Lib.hid bS; clear bC bP bS
        go_wp2_with fail
        refine (perm_any a b c d m _).mono ?_
        rintro e w5 ⟨rfl, hB⟩
        rw [HP.out]
        have bC := BC4.out.below' hB; have bP := BP4.out.below' hB; have bS := BS4.out.below' hB
        have HB5 := Lib.hid (HB4.out.trans (hB.mono HB4.out.size))
        clear hB c0 c1 p0 p1 p2 p3 p4 s0 s1 s2 s3 s4 BC4 BP4 BS4
        have c0 := bC.at 0 rfl; have c1 := bC.at 1 rfl; have p0 := bP.at 0 rfl; have p1 := bP.at 1 rfl; have p2 := bP.at 2 rfl; have p3 := bP.at 3 rfl; have p4 := bP.at 4 rfl; have s0 := bS.at 0 rfl; have s1 := bS.at 1 rfl; have s2 := bS.at 2 rfl; have s3 := bS.at 3 rfl; have s4 := bS.at 4 rfl
        have BC5 := Lib.hid bC; have BP5 := Lib.hid bP; have BS5 := Lib.hid bS; clear bC bP bS
        go_wp2_with fail
        refine (owns_any u g a b c d m _).mono ?_
        rintro e w6 ⟨rfl, hB⟩
        rw [HO.out]
        have bC := BC5.out.below' hB; have bP := BP5.out.below' hB; have bS := BS5.out.below' hB
        have HB6 := Lib.hid (HB5.out.trans (hB.mono HB5.out.size))
        clear hB c0 c1 p0 p1 p2 p3 p4 s0 s1 s2 s3 s4 BC5 BP5 BS5
        have c0 := bC.at 0 rfl; have c1 := bC.at 1 rfl; have p0 := bP.at 0 rfl; have p1 := bP.at 1 rfl; have p2 := bP.at 2 rfl; have p3 := bP.at 3 rfl; have p4 := bP.at 4 rfl; have s0 := bS.at 0 rfl; have s1 := bS.at 1 rfl; have s2 := bS.at 2 rfl; have s3 := bS.at 3 rfl; have s4 := bS.at 4 rfl
        have BC6 := Lib.hid bC; have BP6 := Lib.hid bP; have BS6 := Lib.hid bS; clear bC bP bS
        go_wp2_with fail
        refine (allowed_any u g a b c d 511 6 _).mono ?_
        rintro e w7 ⟨rfl, hB⟩
        rw [HA.out]
        have bC := BC6.out.below' hB; have bP := BP6.out.below' hB; have bS := BS6.out.below' hB
        have HB7 := Lib.hid (HB6.out.trans (hB.mono HB6.out.size))
        clear hB c0 c1 p0 p1 p2 p3 p4 s0 s1 s2 s3 s4 BC6 BP6 BS6
        have c0 := bC.at 0 rfl; have c1 := bC.at 1 rfl; have p0 := bP.at 0 rfl; have p1 := bP.at 1 rfl; have p2 := bP.at 2 rfl; have p3 := bP.at 3 rfl; have p4 := bP.at 4 rfl; have s0 := bS.at 0 rfl; have s1 := bS.at 1 rfl; have s2 := bS.at 2 rfl; have s3 := bS.at 3 rfl; have s4 := bS.at 4 rfl
        have BC7 := Lib.hid bC; have BP7 := Lib.hid bP; have BS7 := Lib.hid bS; clear bC bP bS
        go_wp2_with fail
        refine (owns_any u g a b c d 511 _).mono ?_
        rintro e w8 ⟨rfl, hB⟩
        rw [HO2.out]
        have bC := BC7.out.below' hB; have bP := BP7.out.below' hB; have bS := BS7.out.below' hB
        have HB8 := Lib.hid (HB7.out.trans (hB.mono HB7.out.size))
        clear hB c0 c1 p0 p1 p2 p3 p4 s0 s1 s2 s3 s4 BC7 BP7 BS7
        have c0 := bC.at 0 rfl; have c1 := bC.at 1 rfl; have p0 := bP.at 0 rfl; have p1 := bP.at 1 rfl; have p2 := bP.at 2 rfl; have p3 := bP.at 3 rfl; have p4 := bP.at 4 rfl; have s0 := bS.at 0 rfl; have s1 := bS.at 1 rfl; have s2 := bS.at 2 rfl; have s3 := bS.at 3 rfl; have s4 := bS.at 4 rfl
        have BC8 := Lib.hid bC; have BP8 := Lib.hid bP; have BS8 := Lib.hid bS; clear bC bP bS
        go_wp2
        go_ret
        exact ⟨rfl, HB8.out⟩
      · have HE : Hid (setE u g a b c d m a b 511 = 51) := by unfold Hid setE; rw [hr, hp, hp1, Bool.eq_false_iff.2 ho]; rfl
        have HR := Lib.hid hr; have HP := Lib.hid hp; have HO := Lib.hid (Bool.eq_false_iff.2 ho); clear hr hp hp1 ho
        have bC := (BoxA.new w 23 #[.int .i64 u, .int .i64 g]).alloc (.cells #[.int .i64 a, .int .i64 b, .int .i64 c, .int .i64 d, .int .i64 m] 25)
        have bP := BoxA.new (w.alloc (.cells #[.int .i64 u, .int .i64 g] 23)) 25 #[.int .i64 a, .int .i64 b, .int .i64 c, .int .i64 d, .int .i64 m]
        simp only [World.size_alloc] at bP
        have HB0 := Lib.hid (((Below.refl w.heap.size w).alloc (by first | exact Nat.le_refl _ | (simp; done) | (simp; omega)) (.cells #[.int .i64 u, .int .i64 g] 23)).alloc (by first | exact Nat.le_refl _ | (simp; done) | (simp; omega)) (.cells #[.int .i64 a, .int .i64 b, .int .i64 c, .int .i64 d, .int .i64 m] 25))
        have BC0 := Lib.hid bC; have BP0 := Lib.hid bP; clear bC bP
        go_enter Try.func5, Try.ntmps5
        go_wp2_with fail
        refine (shown5_any _).mono ?_
        rintro e w1 ⟨rfl, hB⟩
        have bC := BC0.out.below' hB; have bP := BP0.out.below' hB
        have HB1 := Lib.hid (HB0.out.trans (hB.mono HB0.out.size))
        clear hB BC0 BP0
        have c0 := bC.at 0 rfl; have c1 := bC.at 1 rfl; have p0 := bP.at 0 rfl; have p1 := bP.at 1 rfl; have p2 := bP.at 2 rfl; have p3 := bP.at 3 rfl; have p4 := bP.at 4 rfl
        have BC1 := Lib.hid bC; have BP1 := Lib.hid bP; clear bC bP
        go_wp2_with fail
        refine (set_no u g a b c d m a b 511 (by rw [HE.out]; decide) _).mono ?_
        rintro e w2 ⟨rfl, hB⟩
        rw [HE.out]
        have bC := BC1.out.below' hB; have bP := BP1.out.below' hB
        have HB2 := Lib.hid (HB1.out.trans (hB.mono HB1.out.size))
        clear hB c0 c1 p0 p1 p2 p3 p4 BC1 BP1
        have aC := bC.alloc (.cells #[.int .i64 0, .int .i64 0, .int .i64 0, .int .i64 0, .int .i64 0] 25); have aP := bP.alloc (.cells #[.int .i64 0, .int .i64 0, .int .i64 0, .int .i64 0, .int .i64 0] 25)
        have aS := BoxA.new w2 25 #[.int .i64 0, .int .i64 0, .int .i64 0, .int .i64 0, .int .i64 0]
        have HB3 := Lib.hid (HB2.out.alloc HB2.out.size (.cells #[.int .i64 0, .int .i64 0, .int .i64 0, .int .i64 0, .int .i64 0] 25))
        clear bC bP
        have c0 := aC.at 0 rfl; have c1 := aC.at 1 rfl; have p0 := aP.at 0 rfl; have p1 := aP.at 1 rfl; have p2 := aP.at 2 rfl; have p3 := aP.at 3 rfl; have p4 := aP.at 4 rfl; have s0 := aS.at 0 rfl; have s1 := aS.at 1 rfl; have s2 := aS.at 2 rfl; have s3 := aS.at 3 rfl; have s4 := aS.at 4 rfl
        have BC3 := Lib.hid aC; have BP3 := Lib.hid aP; have BS3 := Lib.hid aS; clear aC aP aS
        go_wp2_with fail
        refine (right_any u g _).mono ?_
        rintro e w4 ⟨rfl, hB⟩
        rw [HR.out]
        have bC := BC3.out.below' hB; have bP := BP3.out.below' hB; have bS := BS3.out.below' hB
        have HB4 := Lib.hid (HB3.out.trans (hB.mono HB3.out.size))
        clear hB c0 c1 p0 p1 p2 p3 p4 s0 s1 s2 s3 s4 BC3 BP3 BS3
        have c0 := bC.at 0 rfl; have c1 := bC.at 1 rfl; have p0 := bP.at 0 rfl; have p1 := bP.at 1 rfl; have p2 := bP.at 2 rfl; have p3 := bP.at 3 rfl; have p4 := bP.at 4 rfl; have s0 := bS.at 0 rfl; have s1 := bS.at 1 rfl; have s2 := bS.at 2 rfl; have s3 := bS.at 3 rfl; have s4 := bS.at 4 rfl
        have BC4 := Lib.hid bC; have BP4 := Lib.hid bP; have BS4 := Lib.hid bS; clear bC bP bS
        go_wp2_with fail
        refine (perm_any a b c d m _).mono ?_
        rintro e w5 ⟨rfl, hB⟩
        rw [HP.out]
        have bC := BC4.out.below' hB; have bP := BP4.out.below' hB; have bS := BS4.out.below' hB
        have HB5 := Lib.hid (HB4.out.trans (hB.mono HB4.out.size))
        clear hB c0 c1 p0 p1 p2 p3 p4 s0 s1 s2 s3 s4 BC4 BP4 BS4
        have c0 := bC.at 0 rfl; have c1 := bC.at 1 rfl; have p0 := bP.at 0 rfl; have p1 := bP.at 1 rfl; have p2 := bP.at 2 rfl; have p3 := bP.at 3 rfl; have p4 := bP.at 4 rfl; have s0 := bS.at 0 rfl; have s1 := bS.at 1 rfl; have s2 := bS.at 2 rfl; have s3 := bS.at 3 rfl; have s4 := bS.at 4 rfl
        have BC5 := Lib.hid bC; have BP5 := Lib.hid bP; have BS5 := Lib.hid bS; clear bC bP bS
        go_wp2_with fail
        refine (owns_any u g a b c d m _).mono ?_
        rintro e w6 ⟨rfl, hB⟩
        rw [HO.out]
        have bC := BC5.out.below' hB; have bP := BP5.out.below' hB; have bS := BS5.out.below' hB
        have HB6 := Lib.hid (HB5.out.trans (hB.mono HB5.out.size))
        clear hB c0 c1 p0 p1 p2 p3 p4 s0 s1 s2 s3 s4 BC5 BP5 BS5
        have c0 := bC.at 0 rfl; have c1 := bC.at 1 rfl; have p0 := bP.at 0 rfl; have p1 := bP.at 1 rfl; have p2 := bP.at 2 rfl; have p3 := bP.at 3 rfl; have p4 := bP.at 4 rfl; have s0 := bS.at 0 rfl; have s1 := bS.at 1 rfl; have s2 := bS.at 2 rfl; have s3 := bS.at 3 rfl; have s4 := bS.at 4 rfl
        have BC6 := Lib.hid bC; have BP6 := Lib.hid bP; have BS6 := Lib.hid bS; clear bC bP bS
        go_wp2
        go_ret
        exact ⟨rfl, HB6.out⟩
    · have HE : Hid (setE u g a b c d m a b 511 = 50) := by unfold Hid setE; rw [hr, Bool.eq_false_iff.2 hp]; rfl
      have HO : Hid (ownsB u g a b c d m = false) := by unfold Hid ownsB; rw [hr, Bool.eq_false_iff.2 hp]; rfl
      have HR := Lib.hid hr; have HP := Lib.hid (Bool.eq_false_iff.2 hp); clear hr hp
      have bC := (BoxA.new w 23 #[.int .i64 u, .int .i64 g]).alloc (.cells #[.int .i64 a, .int .i64 b, .int .i64 c, .int .i64 d, .int .i64 m] 25)
      have bP := BoxA.new (w.alloc (.cells #[.int .i64 u, .int .i64 g] 23)) 25 #[.int .i64 a, .int .i64 b, .int .i64 c, .int .i64 d, .int .i64 m]
      simp only [World.size_alloc] at bP
      have HB0 := Lib.hid (((Below.refl w.heap.size w).alloc (by first | exact Nat.le_refl _ | (simp; done) | (simp; omega)) (.cells #[.int .i64 u, .int .i64 g] 23)).alloc (by first | exact Nat.le_refl _ | (simp; done) | (simp; omega)) (.cells #[.int .i64 a, .int .i64 b, .int .i64 c, .int .i64 d, .int .i64 m] 25))
      have BC0 := Lib.hid bC; have BP0 := Lib.hid bP; clear bC bP
      go_enter Try.func5, Try.ntmps5
      go_wp2_with fail
      refine (shown5_any _).mono ?_
      rintro e w1 ⟨rfl, hB⟩
      have bC := BC0.out.below' hB; have bP := BP0.out.below' hB
      have HB1 := Lib.hid (HB0.out.trans (hB.mono HB0.out.size))
      clear hB BC0 BP0
      have c0 := bC.at 0 rfl; have c1 := bC.at 1 rfl; have p0 := bP.at 0 rfl; have p1 := bP.at 1 rfl; have p2 := bP.at 2 rfl; have p3 := bP.at 3 rfl; have p4 := bP.at 4 rfl
      have BC1 := Lib.hid bC; have BP1 := Lib.hid bP; clear bC bP
      go_wp2_with fail
      refine (set_no u g a b c d m a b 511 (by rw [HE.out]; decide) _).mono ?_
      rintro e w2 ⟨rfl, hB⟩
      rw [HE.out]
      have bC := BC1.out.below' hB; have bP := BP1.out.below' hB
      have HB2 := Lib.hid (HB1.out.trans (hB.mono HB1.out.size))
      clear hB c0 c1 p0 p1 p2 p3 p4 BC1 BP1
      have aC := bC.alloc (.cells #[.int .i64 0, .int .i64 0, .int .i64 0, .int .i64 0, .int .i64 0] 25); have aP := bP.alloc (.cells #[.int .i64 0, .int .i64 0, .int .i64 0, .int .i64 0, .int .i64 0] 25)
      have aS := BoxA.new w2 25 #[.int .i64 0, .int .i64 0, .int .i64 0, .int .i64 0, .int .i64 0]
      have HB3 := Lib.hid (HB2.out.alloc HB2.out.size (.cells #[.int .i64 0, .int .i64 0, .int .i64 0, .int .i64 0, .int .i64 0] 25))
      clear bC bP
      have c0 := aC.at 0 rfl; have c1 := aC.at 1 rfl; have p0 := aP.at 0 rfl; have p1 := aP.at 1 rfl; have p2 := aP.at 2 rfl; have p3 := aP.at 3 rfl; have p4 := aP.at 4 rfl; have s0 := aS.at 0 rfl; have s1 := aS.at 1 rfl; have s2 := aS.at 2 rfl; have s3 := aS.at 3 rfl; have s4 := aS.at 4 rfl
      have BC3 := Lib.hid aC; have BP3 := Lib.hid aP; have BS3 := Lib.hid aS; clear aC aP aS
      go_wp2_with fail
      refine (right_any u g _).mono ?_
      rintro e w4 ⟨rfl, hB⟩
      rw [HR.out]
      have bC := BC3.out.below' hB; have bP := BP3.out.below' hB; have bS := BS3.out.below' hB
      have HB4 := Lib.hid (HB3.out.trans (hB.mono HB3.out.size))
      clear hB c0 c1 p0 p1 p2 p3 p4 s0 s1 s2 s3 s4 BC3 BP3 BS3
      have c0 := bC.at 0 rfl; have c1 := bC.at 1 rfl; have p0 := bP.at 0 rfl; have p1 := bP.at 1 rfl; have p2 := bP.at 2 rfl; have p3 := bP.at 3 rfl; have p4 := bP.at 4 rfl; have s0 := bS.at 0 rfl; have s1 := bS.at 1 rfl; have s2 := bS.at 2 rfl; have s3 := bS.at 3 rfl; have s4 := bS.at 4 rfl
      have BC4 := Lib.hid bC; have BP4 := Lib.hid bP; have BS4 := Lib.hid bS; clear bC bP bS
      go_wp2_with fail
      refine (perm_any a b c d m _).mono ?_
      rintro e w5 ⟨rfl, hB⟩
      rw [HP.out]
      have bC := BC4.out.below' hB; have bP := BP4.out.below' hB; have bS := BS4.out.below' hB
      have HB5 := Lib.hid (HB4.out.trans (hB.mono HB4.out.size))
      clear hB c0 c1 p0 p1 p2 p3 p4 s0 s1 s2 s3 s4 BC4 BP4 BS4
      have c0 := bC.at 0 rfl; have c1 := bC.at 1 rfl; have p0 := bP.at 0 rfl; have p1 := bP.at 1 rfl; have p2 := bP.at 2 rfl; have p3 := bP.at 3 rfl; have p4 := bP.at 4 rfl; have s0 := bS.at 0 rfl; have s1 := bS.at 1 rfl; have s2 := bS.at 2 rfl; have s3 := bS.at 3 rfl; have s4 := bS.at 4 rfl
      have BC5 := Lib.hid bC; have BP5 := Lib.hid bP; have BS5 := Lib.hid bS; clear bC bP bS
      go_wp2_with fail
      refine (owns_any u g a b c d m _).mono ?_
      rintro e w6 ⟨rfl, hB⟩
      rw [HO.out]
      have bC := BC5.out.below' hB; have bP := BP5.out.below' hB; have bS := BS5.out.below' hB
      have HB6 := Lib.hid (HB5.out.trans (hB.mono HB5.out.size))
      clear hB c0 c1 p0 p1 p2 p3 p4 s0 s1 s2 s3 s4 BC5 BP5 BS5
      have c0 := bC.at 0 rfl; have c1 := bC.at 1 rfl; have p0 := bP.at 0 rfl; have p1 := bP.at 1 rfl; have p2 := bP.at 2 rfl; have p3 := bP.at 3 rfl; have p4 := bP.at 4 rfl; have s0 := bS.at 0 rfl; have s1 := bS.at 1 rfl; have s2 := bS.at 2 rfl; have s3 := bS.at 3 rfl; have s4 := bS.at 4 rfl
      have BC6 := Lib.hid bC; have BP6 := Lib.hid bP; have BS6 := Lib.hid bS; clear bC bP bS
      go_wp2
      go_ret
      exact ⟨rfl, HB6.out⟩
  · have HE : Hid (setE u g a b c d m a b 511 = 50) := by unfold Hid setE; rw [Bool.eq_false_iff.2 hr]; rfl
    have HO : Hid (ownsB u g a b c d m = false) := by unfold Hid ownsB; rw [Bool.eq_false_iff.2 hr]; rfl
    have HR := Lib.hid (Bool.eq_false_iff.2 hr); clear hr
    have bC := (BoxA.new w 23 #[.int .i64 u, .int .i64 g]).alloc (.cells #[.int .i64 a, .int .i64 b, .int .i64 c, .int .i64 d, .int .i64 m] 25)
    have bP := BoxA.new (w.alloc (.cells #[.int .i64 u, .int .i64 g] 23)) 25 #[.int .i64 a, .int .i64 b, .int .i64 c, .int .i64 d, .int .i64 m]
    simp only [World.size_alloc] at bP
    have HB0 := Lib.hid (((Below.refl w.heap.size w).alloc (by first | exact Nat.le_refl _ | (simp; done) | (simp; omega)) (.cells #[.int .i64 u, .int .i64 g] 23)).alloc (by first | exact Nat.le_refl _ | (simp; done) | (simp; omega)) (.cells #[.int .i64 a, .int .i64 b, .int .i64 c, .int .i64 d, .int .i64 m] 25))
    have BC0 := Lib.hid bC; have BP0 := Lib.hid bP; clear bC bP
    go_enter Try.func5, Try.ntmps5
    go_wp2_with fail
    refine (shown5_any _).mono ?_
    rintro e w1 ⟨rfl, hB⟩
    have bC := BC0.out.below' hB; have bP := BP0.out.below' hB
    have HB1 := Lib.hid (HB0.out.trans (hB.mono HB0.out.size))
    clear hB BC0 BP0
    have c0 := bC.at 0 rfl; have c1 := bC.at 1 rfl; have p0 := bP.at 0 rfl; have p1 := bP.at 1 rfl; have p2 := bP.at 2 rfl; have p3 := bP.at 3 rfl; have p4 := bP.at 4 rfl
    have BC1 := Lib.hid bC; have BP1 := Lib.hid bP; clear bC bP
    go_wp2_with fail
    refine (set_no u g a b c d m a b 511 (by rw [HE.out]; decide) _).mono ?_
    rintro e w2 ⟨rfl, hB⟩
    rw [HE.out]
    have bC := BC1.out.below' hB; have bP := BP1.out.below' hB
    have HB2 := Lib.hid (HB1.out.trans (hB.mono HB1.out.size))
    clear hB c0 c1 p0 p1 p2 p3 p4 BC1 BP1
    have aC := bC.alloc (.cells #[.int .i64 0, .int .i64 0, .int .i64 0, .int .i64 0, .int .i64 0] 25); have aP := bP.alloc (.cells #[.int .i64 0, .int .i64 0, .int .i64 0, .int .i64 0, .int .i64 0] 25)
    have aS := BoxA.new w2 25 #[.int .i64 0, .int .i64 0, .int .i64 0, .int .i64 0, .int .i64 0]
    have HB3 := Lib.hid (HB2.out.alloc HB2.out.size (.cells #[.int .i64 0, .int .i64 0, .int .i64 0, .int .i64 0, .int .i64 0] 25))
    clear bC bP
    have c0 := aC.at 0 rfl; have c1 := aC.at 1 rfl; have p0 := aP.at 0 rfl; have p1 := aP.at 1 rfl; have p2 := aP.at 2 rfl; have p3 := aP.at 3 rfl; have p4 := aP.at 4 rfl; have s0 := aS.at 0 rfl; have s1 := aS.at 1 rfl; have s2 := aS.at 2 rfl; have s3 := aS.at 3 rfl; have s4 := aS.at 4 rfl
    have BC3 := Lib.hid aC; have BP3 := Lib.hid aP; have BS3 := Lib.hid aS; clear aC aP aS
    go_wp2_with fail
    refine (right_any u g _).mono ?_
    rintro e w4 ⟨rfl, hB⟩
    rw [HR.out]
    have bC := BC3.out.below' hB; have bP := BP3.out.below' hB; have bS := BS3.out.below' hB
    have HB4 := Lib.hid (HB3.out.trans (hB.mono HB3.out.size))
    clear hB c0 c1 p0 p1 p2 p3 p4 s0 s1 s2 s3 s4 BC3 BP3 BS3
    have c0 := bC.at 0 rfl; have c1 := bC.at 1 rfl; have p0 := bP.at 0 rfl; have p1 := bP.at 1 rfl; have p2 := bP.at 2 rfl; have p3 := bP.at 3 rfl; have p4 := bP.at 4 rfl; have s0 := bS.at 0 rfl; have s1 := bS.at 1 rfl; have s2 := bS.at 2 rfl; have s3 := bS.at 3 rfl; have s4 := bS.at 4 rfl
    have BC4 := Lib.hid bC; have BP4 := Lib.hid bP; have BS4 := Lib.hid bS; clear bC bP bS
    go_wp2_with fail
    refine (owns_any u g a b c d m _).mono ?_
    rintro e w5 ⟨rfl, hB⟩
    rw [HO.out]
    have bC := BC4.out.below' hB; have bP := BP4.out.below' hB; have bS := BS4.out.below' hB
    have HB5 := Lib.hid (HB4.out.trans (hB.mono HB4.out.size))
    clear hB c0 c1 p0 p1 p2 p3 p4 s0 s1 s2 s3 s4 BC4 BP4 BS4
    have c0 := bC.at 0 rfl; have c1 := bC.at 1 rfl; have p0 := bP.at 0 rfl; have p1 := bP.at 1 rfl; have p2 := bP.at 2 rfl; have p3 := bP.at 3 rfl; have p4 := bP.at 4 rfl; have s0 := bS.at 0 rfl; have s1 := bS.at 1 rfl; have s2 := bS.at 2 rfl; have s3 := bS.at 3 rfl; have s4 := bS.at 4 rfl
    have BC5 := Lib.hid bC; have BP5 := Lib.hid bP; have BS5 := Lib.hid bS; clear bC bP bS
    go_wp2
    go_ret
    exact ⟨rfl, HB5.out⟩

set_option maxRecDepth 100000 in
theorem credOwners_lifted (os : Os) (started : os.Started) (H : Type) (enc : TypeId × Value → H) :
    ReturnsInHanded {} Try.checked os 5 .any (Rows.credOwnersSpec.pre6 enc Try.prog Try.f5 Rows.credOwnersRow.domain false) (Rows.credOwnersSpec.post enc Try.prog Try.f5 false true false false) := by
  refine returnsInHanded_of_change (C := Try.checked) own started (by kernel_rfl) Try.func5
    (ChangeSpec.witness6 (enc := enc) (C := Try.checked) false ⟨#[], #[.agg #[.int .i64 0, .int .i64 0], .agg #[.int .i64 0, .int .i64 0, .int .i64 0, .int .i64 0, .int .i64 0]], []⟩ 8 (by kernel_rfl) (by kernel_rfl) (by kernel_rfl) (by kernel_rfl)) ?_
  intro W base args ds gs before hval0 hW _ _
  have hval : ∀ (j : Nat) t v, Try.f5.params[j]? = some t → args[j]? = some v → Value.okWide Try.prog W .any base t v := hval0
  have hW' := hW
  obtain ⟨p, q, hA0, hV, rfl, hfz, hnd⟩ := hW
  have hA : DataW.TrodAll enc Try.prog W 0 (fun _ => true) true Try.f5.params.toList args.toList ds p := hA0
  rw [Try.params5] at hA hval
  obtain ⟨v0, vs0, d0, ds0, p0, q0, hargs, rfl, rfl, h0, r0⟩ := trodAll_cons hA
  obtain ⟨v1, vs1, d1, ds1, p1, q1, rfl, rfl, rfl, h1, r1⟩ := trodAll_cons r0
  obtain ⟨rfl, rfl, rfl⟩ := trodAll_nil r1
  obtain rfl : args = #[v0, v1] := by cases args; simp_all
  obtain ⟨x0, x1, rfl⟩ := open_cred (hval 0 23 v0 rfl rfl) h0
  obtain ⟨x2, x3, x4, x5, x6, rfl⟩ := open_perm (hval 1 25 v1 rfl rfl) h1
  refine (owners_walk x0 x1 x2 x3 x4 x5 x6 W).mono fun e W' ⟨he, bel⟩ => ⟨_, he, ?_⟩
  exact law_post laidOut (of_decide_eq_true (by kernel_rfl)) rfl Try.underlying4 rfl hW' (fun ds' e => by subst e; rfl) bel

theorem credOwners_holds : Rows.CredOwnersSaid :=
  OpenClaim.holds_of_wide 5 Try.f5 rfl rfl rfl rfl rfl rfl rfl ⟨rfl, rfl, rfl, rfl, rfl⟩ rfl rfl rfl rfl rfl (by kernel_rfl) Try.func5 (by kernel_rfl)
    (of_decide_eq_true (by kernel_rfl)) (by unfold Func.isWrapper; rw [if_neg (by decide +kernel)]; exact ⟨rfl, rfl⟩)
    (fun os started H enc _ => credOwners_lifted os started H enc)

#print axioms credOwners_holds
end Go.Proofs.Ytpankbmlidnoaaa
