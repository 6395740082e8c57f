/- Package cred: Allowed, Owns, Set, walked. -/
import Derived.Test.YtpankbmlidnoaaaCredBits
namespace Go.Proofs.Ytpankbmlidnoaaa
open Go.RowKit

set_option maxRecDepth 100000 in
set_option maxHeartbeats 1000000 in
theorem allowed_any (u g a b c d m x : Int) (w : World) : Calls Try.prog 21 #[.agg #[.int .i64 u, .int .i64 g], .agg #[.int .i64 a, .int .i64 b, .int .i64 c, .int .i64 d, .int .i64 m], .int .i64 x] w fun e w' =>
    e = .returned (.int .i64 (allowN u g a b c d m x)) ∧ Below w.heap.size w w' := by
  have bC := (BoxA.new w 23 (cr u g)).alloc (.cells (pm a b c d m) 25)
  have bP := BoxA.new (w.alloc (.cells (cr u g) 23)) 25 (pm a b c d m)
  rw [World.size_alloc] at bP
  have HB0 := Lib.hid (((Below.refl w.heap.size w).alloc (Nat.le_refl _) (.cells (cr u g) 23)).alloc (by simp) (.cells (pm a b c d m) 25))
  have BC0 := Lib.hid bC; have BP0 := Lib.hid bP; clear bC bP
  by_cases hr : rightB u g = true
  · by_cases hp : permB a b c d m = true
    · by_cases hx : wantB x = true
      · have hn := bits_bd u g a b c d m
        have BT := Lib.hid (bits_any u g a b c d m)
        have HN : Hid (allowN u g a b c d m x = if hasB (bitsN u g a b c d m) x then 0 else 51) := by unfold Hid allowN; rw [hr, hp, hx]; rfl
        generalize bitsN u g a b c d m = n at *
        have hh := has_bits' hn.1 hn.2 hx
        have HR := Lib.hid hr; have HP := Lib.hid hp; have HX := Lib.hid hx; clear hr hp hx hn
        have hxx : Hid (decide (x = 2 ∨ x = 4 ∨ x = 6) = true) := HX.out
        by_cases hs : hasB n x = true
        · rw [hs] at HN hh
          have hh' : (bits BinOp.and IntKind.i64 n x != x) = false := hh
          clear hh hs
          go_enter Try.func21, Try.ntmps21
          go_wp2_with fail
          refine (right_any u g _).mono ?_
          rintro e w1 ⟨rfl, hB⟩
          rw [HR.out]
          have bC := BC0.out.below' hB; have bP := BP0.out.below' hB
          have HB1 := Lib.hid (HB0.out.trans (hB.mono HB0.out.size))
          clear hB
          have c0 := bC.at 0 rfl; have c1 := bC.at 1 rfl; have p0 := bP.at 0 rfl; have p1 := bP.at 1 rfl; have p2 := bP.at 2 rfl; have p3 := bP.at 3 rfl; have p4 := bP.at 4 rfl
          have BC1 := Lib.hid bC; have BP1 := Lib.hid bP; clear bC bP
          go_wp2_with fail
          refine (perm_any a b c d m _).mono ?_
          rintro e w2 ⟨rfl, hB⟩
          rw [HP.out]
          have bC := BC1.out.below' hB; have bP := BP1.out.below' hB
          have HB2 := Lib.hid (HB1.out.trans (hB.mono HB1.out.size))
          clear hB c0 c1 p0 p1 p2 p3 p4
          have c0 := bC.at 0 rfl; have c1 := bC.at 1 rfl; have p0 := bP.at 0 rfl; have p1 := bP.at 1 rfl; have p2 := bP.at 2 rfl; have p3 := bP.at 3 rfl; have p4 := bP.at 4 rfl
          have BC2 := Lib.hid bC; have BP2 := Lib.hid bP; clear bC bP
          clear c0 c1 p0 p1 p2 p3 p4
          have bS := BoxA.new w2 3 #[.int .i64 2, .int .i64 4, .int .i64 6]
          have bC := BC2.out.alloc (.cells #[.int .i64 2, .int .i64 4, .int .i64 6] 3)
          have bP := BP2.out.alloc (.cells #[.int .i64 2, .int .i64 4, .int .i64 6] 3)
          have HB3 := Lib.hid (HB2.out.alloc HB2.out.size (.cells #[.int .i64 2, .int .i64 4, .int .i64 6] 3))
          have BS := Lib.hid bS; have BC3 := Lib.hid bC; have BP3 := Lib.hid bP; clear bS bC bP
          go_wp2_with fail
          refine (among_three x 2 4 6 _ _ _ ?_ ?_ ?_).mono ?_
          case refine_1 => exact BS.out.at 0 rfl
          case refine_2 => exact BS.out.at 1 rfl
          case refine_3 => exact BS.out.at 2 rfl
          rintro e w3 ⟨rfl, rfl⟩
          rw [hxx.out]
          generalize w2.alloc (.cells #[.int .i64 2, .int .i64 4, .int .i64 6] 3) = W3 at *
          have bC := BC3.out; have bP := BP3.out
          have c0 := bC.at 0 rfl; have c1 := bC.at 1 rfl; have p0 := bP.at 0 rfl; have p1 := bP.at 1 rfl; have p2 := bP.at 2 rfl; have p3 := bP.at 3 rfl; have p4 := bP.at 4 rfl
          clear bC bP
          go_wp2_with fail
          refine (BT.out _).mono ?_
          rintro e w4 ⟨rfl, hB⟩
          have HB4 := Lib.hid (HB3.out.trans (hB.mono HB3.out.size))
          clear hB c0 c1 p0 p1 p2 p3 p4
          go_wp2
          go_ret
          exact ⟨ret_i HN.out.symm, HB4.out⟩
        · rw [Bool.eq_false_iff.2 hs] at HN hh
          have hh' : (bits BinOp.and IntKind.i64 n x != x) = true := hh
          clear hh hs
          go_enter Try.func21, Try.ntmps21
          go_wp2_with fail
          refine (right_any u g _).mono ?_
          rintro e w1 ⟨rfl, hB⟩
          rw [HR.out]
          have bC := BC0.out.below' hB; have bP := BP0.out.below' hB
          have HB1 := Lib.hid (HB0.out.trans (hB.mono HB0.out.size))
          clear hB
          have c0 := bC.at 0 rfl; have c1 := bC.at 1 rfl; have p0 := bP.at 0 rfl; have p1 := bP.at 1 rfl; have p2 := bP.at 2 rfl; have p3 := bP.at 3 rfl; have p4 := bP.at 4 rfl
          have BC1 := Lib.hid bC; have BP1 := Lib.hid bP; clear bC bP
          go_wp2_with fail
          refine (perm_any a b c d m _).mono ?_
          rintro e w2 ⟨rfl, hB⟩
          rw [HP.out]
          have bC := BC1.out.below' hB; have bP := BP1.out.below' hB
          have HB2 := Lib.hid (HB1.out.trans (hB.mono HB1.out.size))
          clear hB c0 c1 p0 p1 p2 p3 p4
          have c0 := bC.at 0 rfl; have c1 := bC.at 1 rfl; have p0 := bP.at 0 rfl; have p1 := bP.at 1 rfl; have p2 := bP.at 2 rfl; have p3 := bP.at 3 rfl; have p4 := bP.at 4 rfl
          have BC2 := Lib.hid bC; have BP2 := Lib.hid bP; clear bC bP
          clear c0 c1 p0 p1 p2 p3 p4
          have bS := BoxA.new w2 3 #[.int .i64 2, .int .i64 4, .int .i64 6]
          have bC := BC2.out.alloc (.cells #[.int .i64 2, .int .i64 4, .int .i64 6] 3)
          have bP := BP2.out.alloc (.cells #[.int .i64 2, .int .i64 4, .int .i64 6] 3)
          have HB3 := Lib.hid (HB2.out.alloc HB2.out.size (.cells #[.int .i64 2, .int .i64 4, .int .i64 6] 3))
          have BS := Lib.hid bS; have BC3 := Lib.hid bC; have BP3 := Lib.hid bP; clear bS bC bP
          go_wp2_with fail
          refine (among_three x 2 4 6 _ _ _ ?_ ?_ ?_).mono ?_
          case refine_1 => exact BS.out.at 0 rfl
          case refine_2 => exact BS.out.at 1 rfl
          case refine_3 => exact BS.out.at 2 rfl
          rintro e w3 ⟨rfl, rfl⟩
          rw [hxx.out]
          generalize w2.alloc (.cells #[.int .i64 2, .int .i64 4, .int .i64 6] 3) = W3 at *
          have bC := BC3.out; have bP := BP3.out
          have c0 := bC.at 0 rfl; have c1 := bC.at 1 rfl; have p0 := bP.at 0 rfl; have p1 := bP.at 1 rfl; have p2 := bP.at 2 rfl; have p3 := bP.at 3 rfl; have p4 := bP.at 4 rfl
          clear bC bP
          go_wp2_with fail
          refine (BT.out _).mono ?_
          rintro e w4 ⟨rfl, hB⟩
          have HB4 := Lib.hid (HB3.out.trans (hB.mono HB3.out.size))
          clear hB c0 c1 p0 p1 p2 p3 p4
          go_wp2
          go_ret
          exact ⟨ret_i HN.out.symm, HB4.out⟩
      · have HN : Hid (allowN u g a b c d m x = 50) := by unfold Hid allowN; rw [hr, hp, Bool.eq_false_iff.2 hx]; rfl
        have HR := Lib.hid hr; have HP := Lib.hid hp; have HX := Lib.hid (Bool.eq_false_iff.2 hx); clear hr hp hx
        have hxx : Hid (decide (x = 2 ∨ x = 4 ∨ x = 6) = false) := HX.out
        go_enter Try.func21, Try.ntmps21
        go_wp2_with fail
        refine (right_any u g _).mono ?_
        rintro e w1 ⟨rfl, hB⟩
        rw [HR.out]
        have bC := BC0.out.below' hB; have bP := BP0.out.below' hB
        have HB1 := Lib.hid (HB0.out.trans (hB.mono HB0.out.size))
        clear hB
        have c0 := bC.at 0 rfl; have c1 := bC.at 1 rfl; have p0 := bP.at 0 rfl; have p1 := bP.at 1 rfl; have p2 := bP.at 2 rfl; have p3 := bP.at 3 rfl; have p4 := bP.at 4 rfl
        have BC1 := Lib.hid bC; have BP1 := Lib.hid bP; clear bC bP
        go_wp2_with fail
        refine (perm_any a b c d m _).mono ?_
        rintro e w2 ⟨rfl, hB⟩
        rw [HP.out]
        have bC := BC1.out.below' hB; have bP := BP1.out.below' hB
        have HB2 := Lib.hid (HB1.out.trans (hB.mono HB1.out.size))
        clear hB c0 c1 p0 p1 p2 p3 p4
        have c0 := bC.at 0 rfl; have c1 := bC.at 1 rfl; have p0 := bP.at 0 rfl; have p1 := bP.at 1 rfl; have p2 := bP.at 2 rfl; have p3 := bP.at 3 rfl; have p4 := bP.at 4 rfl
        have BC2 := Lib.hid bC; have BP2 := Lib.hid bP; clear bC bP
        clear c0 c1 p0 p1 p2 p3 p4
        have BS := Lib.hid (BoxA.new w2 3 #[.int .i64 2, .int .i64 4, .int .i64 6])
        have HB3 := Lib.hid (HB2.out.alloc HB2.out.size (.cells #[.int .i64 2, .int .i64 4, .int .i64 6] 3))
        go_wp2_with fail
        refine (among_three x 2 4 6 _ _ _ ?_ ?_ ?_).mono ?_
        case refine_1 => exact BS.out.at 0 rfl
        case refine_2 => exact BS.out.at 1 rfl
        case refine_3 => exact BS.out.at 2 rfl
        rintro e w3 ⟨rfl, rfl⟩
        rw [hxx.out]
        go_wp2
        go_ret
        exact ⟨ret_i HN.out.symm, HB3.out⟩
    · have HN : Hid (allowN u g a b c d m x = 50) := by unfold Hid allowN; rw [hr, Bool.eq_false_iff.2 hp]; rfl
      have HR := Lib.hid hr; have HP := Lib.hid (Bool.eq_false_iff.2 hp); clear hr hp
      go_enter Try.func21, Try.ntmps21
      go_wp2_with fail
      refine (right_any u g _).mono ?_
      rintro e w1 ⟨rfl, hB⟩
      rw [HR.out]
      have bC := BC0.out.below' hB; have bP := BP0.out.below' hB
      have HB1 := Lib.hid (HB0.out.trans (hB.mono HB0.out.size))
      clear hB
      have c0 := bC.at 0 rfl; have c1 := bC.at 1 rfl; have p0 := bP.at 0 rfl; have p1 := bP.at 1 rfl; have p2 := bP.at 2 rfl; have p3 := bP.at 3 rfl; have p4 := bP.at 4 rfl
      have BC1 := Lib.hid bC; have BP1 := Lib.hid bP; clear bC bP
      go_wp2_with fail
      refine (perm_any a b c d m _).mono ?_
      rintro e w2 ⟨rfl, hB⟩
      rw [HP.out]
      have bC := BC1.out.below' hB; have bP := BP1.out.below' hB
      have HB2 := Lib.hid (HB1.out.trans (hB.mono HB1.out.size))
      clear hB c0 c1 p0 p1 p2 p3 p4
      have c0 := bC.at 0 rfl; have c1 := bC.at 1 rfl; have p0 := bP.at 0 rfl; have p1 := bP.at 1 rfl; have p2 := bP.at 2 rfl; have p3 := bP.at 3 rfl; have p4 := bP.at 4 rfl
      have BC2 := Lib.hid bC; have BP2 := Lib.hid bP; clear bC bP
      go_wp2
      go_ret
      exact ⟨ret_i HN.out.symm, HB2.out⟩
  · have HN : Hid (allowN u g a b c d m x = 50) := by unfold Hid allowN; rw [Bool.eq_false_iff.2 hr]; rfl
    have HR := Lib.hid (Bool.eq_false_iff.2 hr); clear hr
    go_enter Try.func21, Try.ntmps21
    go_wp2_with fail
    refine (right_any u g _).mono ?_
    rintro e w1 ⟨rfl, hB⟩
    rw [HR.out]
    have bC := BC0.out.below' hB; have bP := BP0.out.below' hB
    have HB1 := Lib.hid (HB0.out.trans (hB.mono HB0.out.size))
    clear hB
    have c0 := bC.at 0 rfl; have c1 := bC.at 1 rfl; have p0 := bP.at 0 rfl; have p1 := bP.at 1 rfl; have p2 := bP.at 2 rfl; have p3 := bP.at 3 rfl; have p4 := bP.at 4 rfl
    have BC1 := Lib.hid bC; have BP1 := Lib.hid bP; clear bC bP
    go_wp2
    go_ret
    exact ⟨ret_i HN.out.symm, HB1.out⟩

set_option maxRecDepth 100000 in
set_option maxHeartbeats 1000000 in
theorem owns_any (u g a b c d m : Int) (w : World) : Calls Try.prog 23 #[.agg #[.int .i64 u, .int .i64 g], .agg #[.int .i64 a, .int .i64 b, .int .i64 c, .int .i64 d, .int .i64 m]] w fun e w' =>
    e = .returned (.bool (ownsB u g a b c d m)) ∧ Below w.heap.size w w' := by
  have bC := (BoxA.new w 23 (cr u g)).alloc (.cells (pm a b c d m) 25)
  have bP := BoxA.new (w.alloc (.cells (cr u g) 23)) 25 (pm a b c d m)
  rw [World.size_alloc] at bP
  have HB0 := Lib.hid (((Below.refl w.heap.size w).alloc (Nat.le_refl _) (.cells (cr u g) 23)).alloc (by simp) (.cells (pm a b c d m) 25))
  have BC0 := Lib.hid bC; have BP0 := Lib.hid bP; clear bC bP
  by_cases hr : rightB u g = true
  · by_cases hp : permB a b c d m = true
    · have HN : Hid (ownsB u g a b c d m = decide (3 ≤ placeN u g a b c d)) := by unfold Hid ownsB; rw [hr, hp]; rfl
      have PL := Lib.hid (place_any u g a b c d m)
      generalize placeN u g a b c d = q at *
      have HR := Lib.hid hr; have HP := Lib.hid hp; clear hr hp
      go_enter Try.func23, Try.ntmps23
      go_wp2_with fail
      refine (right_any u g _).mono ?_
      rintro e w1 ⟨rfl, hB⟩
      rw [HR.out]
      have bC := BC0.out.below' hB; have bP := BP0.out.below' hB
      have HB1 := Lib.hid (HB0.out.trans (hB.mono HB0.out.size))
      clear hB
      have c0 := bC.at 0 rfl; have c1 := bC.at 1 rfl; have p0 := bP.at 0 rfl; have p1 := bP.at 1 rfl; have p2 := bP.at 2 rfl; have p3 := bP.at 3 rfl; have p4 := bP.at 4 rfl
      have BC1 := Lib.hid bC; have BP1 := Lib.hid bP; clear bC bP
      go_wp2_with fail
      refine (perm_any a b c d m _).mono ?_
      rintro e w2 ⟨rfl, hB⟩
      rw [HP.out]
      have bC := BC1.out.below' hB; have bP := BP1.out.below' hB
      have HB2 := Lib.hid (HB1.out.trans (hB.mono HB1.out.size))
      clear hB c0 c1 p0 p1 p2 p3 p4
      have c0 := bC.at 0 rfl; have c1 := bC.at 1 rfl; have p0 := bP.at 0 rfl; have p1 := bP.at 1 rfl; have p2 := bP.at 2 rfl; have p3 := bP.at 3 rfl; have p4 := bP.at 4 rfl
      have BC2 := Lib.hid bC; have BP2 := Lib.hid bP; clear bC bP
      go_wp2_with fail
      refine (PL.out _).mono ?_
      rintro e w3 ⟨rfl, hB⟩
      have bC := BC2.out.below' hB; have bP := BP2.out.below' hB
      have HB3 := Lib.hid (HB2.out.trans (hB.mono HB2.out.size))
      clear hB c0 c1 p0 p1 p2 p3 p4
      have c0 := bC.at 0 rfl; have c1 := bC.at 1 rfl; have p0 := bP.at 0 rfl; have p1 := bP.at 1 rfl; have p2 := bP.at 2 rfl; have p3 := bP.at 3 rfl; have p4 := bP.at 4 rfl
      have BC3 := Lib.hid bC; have BP3 := Lib.hid bP; clear bC bP
      go_wp2
      go_ret
      exact ⟨ret_b HN.out.symm, HB3.out⟩
    · have HN : Hid (ownsB u g a b c d m = false) := by unfold Hid ownsB; rw [hr, Bool.eq_false_iff.2 hp]; rfl
      have HR := Lib.hid hr; have HP := Lib.hid (Bool.eq_false_iff.2 hp); clear hr hp
      go_enter Try.func23, Try.ntmps23
      go_wp2_with fail
      refine (right_any u g _).mono ?_
      rintro e w1 ⟨rfl, hB⟩
      rw [HR.out]
      have bC := BC0.out.below' hB; have bP := BP0.out.below' hB
      have HB1 := Lib.hid (HB0.out.trans (hB.mono HB0.out.size))
      clear hB
      have c0 := bC.at 0 rfl; have c1 := bC.at 1 rfl; have p0 := bP.at 0 rfl; have p1 := bP.at 1 rfl; have p2 := bP.at 2 rfl; have p3 := bP.at 3 rfl; have p4 := bP.at 4 rfl
      have BC1 := Lib.hid bC; have BP1 := Lib.hid bP; clear bC bP
      go_wp2_with fail
      refine (perm_any a b c d m _).mono ?_
      rintro e w2 ⟨rfl, hB⟩
      rw [HP.out]
      have bC := BC1.out.below' hB; have bP := BP1.out.below' hB
      have HB2 := Lib.hid (HB1.out.trans (hB.mono HB1.out.size))
      clear hB c0 c1 p0 p1 p2 p3 p4
      have c0 := bC.at 0 rfl; have c1 := bC.at 1 rfl; have p0 := bP.at 0 rfl; have p1 := bP.at 1 rfl; have p2 := bP.at 2 rfl; have p3 := bP.at 3 rfl; have p4 := bP.at 4 rfl
      have BC2 := Lib.hid bC; have BP2 := Lib.hid bP; clear bC bP
      go_wp2
      go_ret
      exact ⟨ret_b HN.out.symm, HB2.out⟩
  · have HN : Hid (ownsB u g a b c d m = false) := by unfold Hid ownsB; rw [Bool.eq_false_iff.2 hr]; rfl
    have HR := Lib.hid (Bool.eq_false_iff.2 hr); clear hr
    go_enter Try.func23, Try.ntmps23
    go_wp2_with fail
    refine (right_any u g _).mono ?_
    rintro e w1 ⟨rfl, hB⟩
    rw [HR.out]
    have bC := BC0.out.below' hB; have bP := BP0.out.below' hB
    have HB1 := Lib.hid (HB0.out.trans (hB.mono HB0.out.size))
    clear hB
    have c0 := bC.at 0 rfl; have c1 := bC.at 1 rfl; have p0 := bP.at 0 rfl; have p1 := bP.at 1 rfl; have p2 := bP.at 2 rfl; have p3 := bP.at 3 rfl; have p4 := bP.at 4 rfl
    have BC1 := Lib.hid bC; have BP1 := Lib.hid bP; clear bC bP
    go_wp2
    go_ret
    exact ⟨ret_b HN.out.symm, HB1.out⟩

end Go.Proofs.Ytpankbmlidnoaaa
