/- CredDoes: for every credentials, permission, what is wanted, user, group and mode: what is right, made, allowed, owned, set is the document's answer; no condition. -/
import Derived.Test.YtpankbmlidnoaaaCredShown
import Derived.Test.YtpankbmlidnoaaaCredArgs
import Derived.Test.YtpankbmlidnoaaaRef5D
namespace Go.Proofs.Ytpankbmlidnoaaa
open Go.ChangeShapes Go.WideShapes Go.ChangeAt Go.RowKit

/-- what is made, by the program and by the document: the same. -/
theorem make_both (u g m : Int) : ∃ y0 y1 y2 y3 y4 ye : Int,
    (∀ w : World, Calls Try.prog 11 #[.agg #[.int .i64 u, .int .i64 g], .int .i64 m] w fun e w' => e = .returned (.tuple #[.agg #[.int .i64 y0, .int .i64 y1, .int .i64 y2, .int .i64 y3, .int .i64 y4], .int .i64 ye]) ∧ Below w.heap.size w w') ∧
    (∀ w : World, Calls Try.prog 12 #[.agg #[.int .i64 u, .int .i64 g], .int .i64 m] w fun e w' => e = .returned (.tuple #[.agg #[.int .i64 y0, .int .i64 y1, .int .i64 y2, .int .i64 y3, .int .i64 y4], .int .i64 ye]) ∧ Below w.heap.size w w') := by
  by_cases h : permB u g u g m = true
  · exact ⟨_, _, _, _, _, _, make_ok u g m h, rmake_ok u g m h⟩
  · exact ⟨_, _, _, _, _, _, make_no u g m (Bool.eq_false_iff.2 h), rmake_no u g m (Bool.eq_false_iff.2 h)⟩
/-- what is set, by the program and by the document: the same. -/
theorem set_both (u g a b c d m a' b' m' : Int) : ∃ y0 y1 y2 y3 y4 ye : Int,
    (∀ w : World, Calls Try.prog 13 #[.agg #[.int .i64 u, .int .i64 g], .agg #[.int .i64 a, .int .i64 b, .int .i64 c, .int .i64 d, .int .i64 m], .int .i64 a', .int .i64 b', .int .i64 m'] w fun e w' => e = .returned (.tuple #[.agg #[.int .i64 y0, .int .i64 y1, .int .i64 y2, .int .i64 y3, .int .i64 y4], .int .i64 ye]) ∧ Below w.heap.size w w') ∧
    (∀ w : World, Calls Try.prog 14 #[.agg #[.int .i64 u, .int .i64 g], .agg #[.int .i64 a, .int .i64 b, .int .i64 c, .int .i64 d, .int .i64 m], .int .i64 a', .int .i64 b', .int .i64 m'] w fun e w' => e = .returned (.tuple #[.agg #[.int .i64 y0, .int .i64 y1, .int .i64 y2, .int .i64 y3, .int .i64 y4], .int .i64 ye]) ∧ Below w.heap.size w w') := by
  by_cases h : setE u g a b c d m a' b' m' = 0
  · exact ⟨_, _, _, _, _, _, set_ok u g a b c d m a' b' m' h, rset_ok u g a b c d m a' b' m' h⟩
  · exact ⟨_, _, _, _, _, _, set_no u g a b c d m a' b' m' h, rset_no u g a b c d m a' b' m' h⟩

theorem eql_perm_same (a b c d m : Int) (w : World) : (binOp .eql 25 (.agg #[.int .i64 a, .int .i64 b, .int .i64 c, .int .i64 d, .int .i64 m]) (.agg #[.int .i64 a, .int .i64 b, .int .i64 c, .int .i64 d, .int .i64 m])).run Try.prog w = .ok (.bool true) w := by
  rw [eql_perm]; simp

/-- six boxes, and their cells. -/
structure Six (W : World) (b0 b1 b2 b3 b4 b5 : Nat) (x0 x1 x2 x3 x4 x5 : Array Value) : Prop where
  h0 : BoxA W b0 23 x0
  h1 : BoxA W b1 25 x1
  h2 : BoxA W b2 25 x2
  h3 : BoxA W b3 25 x3
  h4 : BoxA W b4 25 x4
  h5 : BoxA W b5 25 x5
section
variable {W W' : World} {b0 b1 b2 b3 b4 b5 : Nat} {x0 x1 x2 x3 x4 x5 : Array Value}
theorem Six.below (h : Six W b0 b1 b2 b3 b4 b5 x0 x1 x2 x3 x4 x5) (hb : Below W.heap.size W W') : Six W' b0 b1 b2 b3 b4 b5 x0 x1 x2 x3 x4 x5 := ⟨h.h0.below' hb, h.h1.below' hb, h.h2.below' hb, h.h3.below' hb, h.h4.below' hb, h.h5.below' hb⟩
theorem Six.drew (h : Six W b0 b1 b2 b3 b4 b5 x0 x1 x2 x3 x4 x5) : Six W.drew b0 b1 b2 b3 b4 b5 x0 x1 x2 x3 x4 x5 := ⟨h.h0.keep rfl, h.h1.keep rfl, h.h2.keep rfl, h.h3.keep rfl, h.h4.keep rfl, h.h5.keep rfl⟩
end
theorem Six.cells {W : World} {b0 b1 b2 b3 b4 b5 : Nat} {u0 u1 v10 v11 v12 v13 v14 v20 v21 v22 v23 v24 v30 v31 v32 v33 v34 v40 v41 v42 v43 v44 v50 v51 v52 v53 v54 : Value} (h : Six W b0 b1 b2 b3 b4 b5 #[u0, u1] #[v10, v11, v12, v13, v14] #[v20, v21, v22, v23, v24] #[v30, v31, v32, v33, v34] #[v40, v41, v42, v43, v44] #[v50, v51, v52, v53, v54]) :
    W.cell? ⟨b0, 0, none⟩ = some (u0) ∧ W.cell? ⟨b0, 1, none⟩ = some (u1) ∧ W.cell? ⟨b1, 0, none⟩ = some (v10) ∧ W.cell? ⟨b1, 1, none⟩ = some (v11) ∧ W.cell? ⟨b1, 2, none⟩ = some (v12) ∧ W.cell? ⟨b1, 3, none⟩ = some (v13) ∧ W.cell? ⟨b1, 4, none⟩ = some (v14) ∧ W.cell? ⟨b2, 0, none⟩ = some (v20) ∧ W.cell? ⟨b2, 1, none⟩ = some (v21) ∧ W.cell? ⟨b2, 2, none⟩ = some (v22) ∧ W.cell? ⟨b2, 3, none⟩ = some (v23) ∧ W.cell? ⟨b2, 4, none⟩ = some (v24) ∧ W.cell? ⟨b3, 0, none⟩ = some (v30) ∧ W.cell? ⟨b3, 1, none⟩ = some (v31) ∧ W.cell? ⟨b3, 2, none⟩ = some (v32) ∧ W.cell? ⟨b3, 3, none⟩ = some (v33) ∧ W.cell? ⟨b3, 4, none⟩ = some (v34) ∧ W.cell? ⟨b4, 0, none⟩ = some (v40) ∧ W.cell? ⟨b4, 1, none⟩ = some (v41) ∧ W.cell? ⟨b4, 2, none⟩ = some (v42) ∧ W.cell? ⟨b4, 3, none⟩ = some (v43) ∧ W.cell? ⟨b4, 4, none⟩ = some (v44) ∧ W.cell? ⟨b5, 0, none⟩ = some (v50) ∧ W.cell? ⟨b5, 1, none⟩ = some (v51) ∧ W.cell? ⟨b5, 2, none⟩ = some (v52) ∧ W.cell? ⟨b5, 3, none⟩ = some (v53) ∧ W.cell? ⟨b5, 4, none⟩ = some (v54) :=
  ⟨h.h0.at 0 rfl, h.h0.at 1 rfl, h.h1.at 0 rfl, h.h1.at 1 rfl, h.h1.at 2 rfl, h.h1.at 3 rfl, h.h1.at 4 rfl, h.h2.at 0 rfl, h.h2.at 1 rfl, h.h2.at 2 rfl, h.h2.at 3 rfl, h.h2.at 4 rfl, h.h3.at 0 rfl, h.h3.at 1 rfl, h.h3.at 2 rfl, h.h3.at 3 rfl, h.h3.at 4 rfl, h.h4.at 0 rfl, h.h4.at 1 rfl, h.h4.at 2 rfl, h.h4.at 3 rfl, h.h4.at 4 rfl, h.h5.at 0 rfl, h.h5.at 1 rfl, h.h5.at 2 rfl, h.h5.at 3 rfl, h.h5.at 4 rfl⟩

set_option maxRecDepth 100000 in
set_option maxHeartbeats 1000000 in
theorem does_walk (u g a b c d m x a' b' m' : Int) (w : World) : Calls Try.prog 3 #[.agg #[.int .i64 u, .int .i64 g], .agg #[.int .i64 a, .int .i64 b, .int .i64 c, .int .i64 d, .int .i64 m], .int .i64 x, .int .i64 a', .int .i64 b', .int .i64 m'] w fun e w' => e = .returned (.bool true) ∧ Below w.heap.size w w' := by
  have HR1 := Lib.hid (right_any u g); have HR2 := Lib.hid (rright_any u g)
  have HP1 := Lib.hid (perm_any a b c d m); have HP2 := Lib.hid (rperm_any a b c d m)
  have HT1 := Lib.hid (bits_any u g a b c d m); have HT2 := Lib.hid (rbits_any u g a b c d m)
  have HA1 := Lib.hid (allowed_any u g a b c d m x); have HA2 := Lib.hid (rallowed_any u g a b c d m x)
  have HO1 := Lib.hid (owns_any u g a b c d m); have HO2 := Lib.hid (rowns_any u g a b c d m)
  obtain ⟨y0, y1, y2, y3, y4, ye, hM1, hM2⟩ := make_both u g m'
  obtain ⟨z0, z1, z2, z3, z4, ze, hS1, hS2⟩ := set_both u g a b c d m a' b' m'
  have HM1 := Lib.hid hM1; have HM2 := Lib.hid hM2; have HS1 := Lib.hid hS1; have HS2 := Lib.hid hS2; clear hM1 hM2 hS1 hS2
  generalize rightB u g = vr at HR1 HR2
  generalize permB a b c d m = vp at HP1 HP2
  generalize bitsN u g a b c d m = vb at HT1 HT2
  generalize allowN u g a b c d m x = va at HA1 HA2
  generalize ownsB u g a b c d m = vo at HO1 HO2
  have q1 := eql_perm_same y0 y1 y2 y3 y4
  have q2 := eql_perm_same z0 z1 z2 z3 z4
  have e1 : (vr == vr) = true := by simp
  have e2 : (vp == vp) = true := by simp
  have e3 : (vb == vb) = true := by simp
  have e4 : (va == va) = true := by simp
  have e5 : (vo == vo) = true := by simp
  have e6 : (ye == ye) = true := by simp
  have e7 : (ze == ze) = true := by simp
  have bC := (BoxA.new w 23 #[.int .i64 u, .int .i64 g]).alloc (.cells #[.int .i64 a, .int .i64 b, .int .i64 c, .int .i64 d, .int .i64 m] 25)
  have bP := BoxA.new (w.alloc (.cells #[.int .i64 u, .int .i64 g] 23)) 25 #[.int .i64 a, .int .i64 b, .int .i64 c, .int .i64 d, .int .i64 m]
  simp only [World.size_alloc] at bP
  have HB0 := Lib.hid (((Below.refl w.heap.size w).alloc (by first | exact Nat.le_refl _ | (simp; done) | (simp; omega)) (.cells #[.int .i64 u, .int .i64 g] 23)).alloc (by first | exact Nat.le_refl _ | (simp; done) | (simp; omega)) (.cells #[.int .i64 a, .int .i64 b, .int .i64 c, .int .i64 d, .int .i64 m] 25))
  have BC0 := Lib.hid bC; have BP0 := Lib.hid bP; clear bC bP
  go_enter Try.func3, Try.ntmps3
  go_wp2_with fail
  refine (shown5_any _).mono ?_
  rintro e w1 ⟨rfl, hB⟩
  have bC := BC0.out.below' hB; have bP := BP0.out.below' hB
  have HB1 := Lib.hid (HB0.out.trans (hB.mono HB0.out.size))
  clear hB BC0 BP0
  have c0 := bC.at 0 rfl; have c1 := bC.at 1 rfl; have p0 := bP.at 0 rfl; have p1 := bP.at 1 rfl; have p2 := bP.at 2 rfl; have p3 := bP.at 3 rfl; have p4 := bP.at 4 rfl
  have BC1 := Lib.hid bC; have BP1 := Lib.hid bP; clear bC bP
  go_wp2_with fail
  refine (HM1.out _).mono ?_
  rintro e w2 ⟨rfl, hB⟩
  have bC := BC1.out.below' hB; have bP := BP1.out.below' hB
  have HB2 := Lib.hid (HB1.out.trans (hB.mono HB1.out.size))
  clear hB c0 c1 p0 p1 p2 p3 p4 BC1 BP1
  have aC := bC.alloc (.cells #[.int .i64 y0, .int .i64 y1, .int .i64 y2, .int .i64 y3, .int .i64 y4] 25); have aP := bP.alloc (.cells #[.int .i64 y0, .int .i64 y1, .int .i64 y2, .int .i64 y3, .int .i64 y4] 25)
  have aA := BoxA.new w2 25 #[.int .i64 y0, .int .i64 y1, .int .i64 y2, .int .i64 y3, .int .i64 y4]
  have HB3 := Lib.hid (HB2.out.alloc HB2.out.size (.cells #[.int .i64 y0, .int .i64 y1, .int .i64 y2, .int .i64 y3, .int .i64 y4] 25))
  clear bC bP
  have c0 := aC.at 0 rfl; have c1 := aC.at 1 rfl; have p0 := aP.at 0 rfl; have p1 := aP.at 1 rfl; have p2 := aP.at 2 rfl; have p3 := aP.at 3 rfl; have p4 := aP.at 4 rfl; have a0 := aA.at 0 rfl; have a1 := aA.at 1 rfl; have a2 := aA.at 2 rfl; have a3 := aA.at 3 rfl; have a4 := aA.at 4 rfl
  have BC3 := Lib.hid aC; have BP3 := Lib.hid aP; have BA3 := Lib.hid aA; clear aC aP aA
  go_wp2_with fail
  refine (HM2.out _).mono ?_
  rintro e w4 ⟨rfl, hB⟩
  have bC := BC3.out.below' hB; have bP := BP3.out.below' hB; have bA := BA3.out.below' hB
  have HB4 := Lib.hid (HB3.out.trans (hB.mono HB3.out.size))
  clear hB c0 c1 p0 p1 p2 p3 p4 a0 a1 a2 a3 a4 BC3 BP3 BA3
  have aC := bC.alloc (.cells #[.int .i64 y0, .int .i64 y1, .int .i64 y2, .int .i64 y3, .int .i64 y4] 25); have aP := bP.alloc (.cells #[.int .i64 y0, .int .i64 y1, .int .i64 y2, .int .i64 y3, .int .i64 y4] 25); have aA := bA.alloc (.cells #[.int .i64 y0, .int .i64 y1, .int .i64 y2, .int .i64 y3, .int .i64 y4] 25)
  have aB := BoxA.new w4 25 #[.int .i64 y0, .int .i64 y1, .int .i64 y2, .int .i64 y3, .int .i64 y4]
  have HB5 := Lib.hid (HB4.out.alloc HB4.out.size (.cells #[.int .i64 y0, .int .i64 y1, .int .i64 y2, .int .i64 y3, .int .i64 y4] 25))
  clear bC bP bA
  have c0 := aC.at 0 rfl; have c1 := aC.at 1 rfl; have p0 := aP.at 0 rfl; have p1 := aP.at 1 rfl; have p2 := aP.at 2 rfl; have p3 := aP.at 3 rfl; have p4 := aP.at 4 rfl; have a0 := aA.at 0 rfl; have a1 := aA.at 1 rfl; have a2 := aA.at 2 rfl; have a3 := aA.at 3 rfl; have a4 := aA.at 4 rfl; have b0 := aB.at 0 rfl; have b1 := aB.at 1 rfl; have b2 := aB.at 2 rfl; have b3 := aB.at 3 rfl; have b4 := aB.at 4 rfl
  have BC5 := Lib.hid aC; have BP5 := Lib.hid aP; have BA5 := Lib.hid aA; have BB5 := Lib.hid aB; clear aC aP aA aB
  go_wp2_with fail
  refine (HS1.out _).mono ?_
  rintro e w6 ⟨rfl, hB⟩
  have bC := BC5.out.below' hB; have bP := BP5.out.below' hB; have bA := BA5.out.below' hB; have bB := BB5.out.below' hB
  have HB6 := Lib.hid (HB5.out.trans (hB.mono HB5.out.size))
  clear hB c0 c1 p0 p1 p2 p3 p4 a0 a1 a2 a3 a4 b0 b1 b2 b3 b4 BC5 BP5 BA5 BB5
  have aC := bC.alloc (.cells #[.int .i64 z0, .int .i64 z1, .int .i64 z2, .int .i64 z3, .int .i64 z4] 25); have aP := bP.alloc (.cells #[.int .i64 z0, .int .i64 z1, .int .i64 z2, .int .i64 z3, .int .i64 z4] 25); have aA := bA.alloc (.cells #[.int .i64 z0, .int .i64 z1, .int .i64 z2, .int .i64 z3, .int .i64 z4] 25); have aB := bB.alloc (.cells #[.int .i64 z0, .int .i64 z1, .int .i64 z2, .int .i64 z3, .int .i64 z4] 25)
  have aD := BoxA.new w6 25 #[.int .i64 z0, .int .i64 z1, .int .i64 z2, .int .i64 z3, .int .i64 z4]
  have HB7 := Lib.hid (HB6.out.alloc HB6.out.size (.cells #[.int .i64 z0, .int .i64 z1, .int .i64 z2, .int .i64 z3, .int .i64 z4] 25))
  clear bC bP bA bB
  have c0 := aC.at 0 rfl; have c1 := aC.at 1 rfl; have p0 := aP.at 0 rfl; have p1 := aP.at 1 rfl; have p2 := aP.at 2 rfl; have p3 := aP.at 3 rfl; have p4 := aP.at 4 rfl; have a0 := aA.at 0 rfl; have a1 := aA.at 1 rfl; have a2 := aA.at 2 rfl; have a3 := aA.at 3 rfl; have a4 := aA.at 4 rfl; have b0 := aB.at 0 rfl; have b1 := aB.at 1 rfl; have b2 := aB.at 2 rfl; have b3 := aB.at 3 rfl; have b4 := aB.at 4 rfl; have d0 := aD.at 0 rfl; have d1 := aD.at 1 rfl; have d2 := aD.at 2 rfl; have d3 := aD.at 3 rfl; have d4 := aD.at 4 rfl
  have BC7 := Lib.hid aC; have BP7 := Lib.hid aP; have BA7 := Lib.hid aA; have BB7 := Lib.hid aB; have BD7 := Lib.hid aD; clear aC aP aA aB aD
  go_wp2_with fail
  refine (HS2.out _).mono ?_
  rintro e w8 ⟨rfl, hB⟩
  have bC := BC7.out.below' hB; have bP := BP7.out.below' hB; have bA := BA7.out.below' hB; have bB := BB7.out.below' hB; have bD := BD7.out.below' hB
  have HB8 := Lib.hid (HB7.out.trans (hB.mono HB7.out.size))
  clear hB c0 c1 p0 p1 p2 p3 p4 a0 a1 a2 a3 a4 b0 b1 b2 b3 b4 d0 d1 d2 d3 d4 BC7 BP7 BA7 BB7 BD7
  have aC := bC.alloc (.cells #[.int .i64 z0, .int .i64 z1, .int .i64 z2, .int .i64 z3, .int .i64 z4] 25); have aP := bP.alloc (.cells #[.int .i64 z0, .int .i64 z1, .int .i64 z2, .int .i64 z3, .int .i64 z4] 25); have aA := bA.alloc (.cells #[.int .i64 z0, .int .i64 z1, .int .i64 z2, .int .i64 z3, .int .i64 z4] 25); have aB := bB.alloc (.cells #[.int .i64 z0, .int .i64 z1, .int .i64 z2, .int .i64 z3, .int .i64 z4] 25); have aD := bD.alloc (.cells #[.int .i64 z0, .int .i64 z1, .int .i64 z2, .int .i64 z3, .int .i64 z4] 25)
  have aH := BoxA.new w8 25 #[.int .i64 z0, .int .i64 z1, .int .i64 z2, .int .i64 z3, .int .i64 z4]
  have HB9 := Lib.hid (HB8.out.alloc HB8.out.size (.cells #[.int .i64 z0, .int .i64 z1, .int .i64 z2, .int .i64 z3, .int .i64 z4] 25))
  clear bC bP bA bB bD
  have c0 := aC.at 0 rfl; have c1 := aC.at 1 rfl; have p0 := aP.at 0 rfl; have p1 := aP.at 1 rfl; have p2 := aP.at 2 rfl; have p3 := aP.at 3 rfl; have p4 := aP.at 4 rfl; have a0 := aA.at 0 rfl; have a1 := aA.at 1 rfl; have a2 := aA.at 2 rfl; have a3 := aA.at 3 rfl; have a4 := aA.at 4 rfl; have b0 := aB.at 0 rfl; have b1 := aB.at 1 rfl; have b2 := aB.at 2 rfl; have b3 := aB.at 3 rfl; have b4 := aB.at 4 rfl; have d0 := aD.at 0 rfl; have d1 := aD.at 1 rfl; have d2 := aD.at 2 rfl; have d3 := aD.at 3 rfl; have d4 := aD.at 4 rfl; have h0 := aH.at 0 rfl; have h1 := aH.at 1 rfl; have h2 := aH.at 2 rfl; have h3 := aH.at 3 rfl; have h4 := aH.at 4 rfl
  have BC9 := Lib.hid aC; have BP9 := Lib.hid aP; have BA9 := Lib.hid aA; have BB9 := Lib.hid aB; have BD9 := Lib.hid aD; have BH9 := Lib.hid aH; clear aC aP aA aB aD aH
  go_wp2
  have KK : Six (w8.alloc (.cells #[.int .i64 z0, .int .i64 z1, .int .i64 z2, .int .i64 z3, .int .i64 z4] 25)) w.heap.size (w.heap.size + 1) w2.heap.size w4.heap.size w6.heap.size w8.heap.size #[.int .i64 u, .int .i64 g] #[.int .i64 a, .int .i64 b, .int .i64 c, .int .i64 d, .int .i64 m] #[.int .i64 y0, .int .i64 y1, .int .i64 y2, .int .i64 y3, .int .i64 y4] #[.int .i64 y0, .int .i64 y1, .int .i64 y2, .int .i64 y3, .int .i64 y4] #[.int .i64 z0, .int .i64 z1, .int .i64 z2, .int .i64 z3, .int .i64 z4] #[.int .i64 z0, .int .i64 z1, .int .i64 z2, .int .i64 z3, .int .i64 z4] := ⟨BC9.out, BP9.out, BA9.out, BB9.out, BD9.out, BH9.out⟩
  clear c0 c1 p0 p1 p2 p3 p4 a0 a1 a2 a3 a4 b0 b1 b2 b3 b4 d0 d1 d2 d3 d4 h0 h1 h2 h3 h4 BC9 BP9 BA9 BB9 BD9 BH9
  generalize w8.alloc (.cells #[.int .i64 z0, .int .i64 z1, .int .i64 z2, .int .i64 z3, .int .i64 z4] 25) = V at *
  have K0 := Lib.hid KK.drew; have KV := Lib.hid KK; clear KK
  have HV := HB9
  simp only [List.append_eq, List.cons_append, List.nil_append]
  go_region_held3 (fun w' => w'.cell? ⟨w.heap.size, 0, none⟩ = some (.int .i64 u) ∧ w'.cell? ⟨w.heap.size, 1, none⟩ = some (.int .i64 g) ∧ w'.cell? ⟨w.heap.size + 1, 0, none⟩ = some (.int .i64 a) ∧ w'.cell? ⟨w.heap.size + 1, 1, none⟩ = some (.int .i64 b) ∧ w'.cell? ⟨w.heap.size + 1, 2, none⟩ = some (.int .i64 c) ∧ w'.cell? ⟨w.heap.size + 1, 3, none⟩ = some (.int .i64 d) ∧ w'.cell? ⟨w.heap.size + 1, 4, none⟩ = some (.int .i64 m) ∧ w'.cell? ⟨w2.heap.size, 0, none⟩ = some (.int .i64 y0) ∧ w'.cell? ⟨w2.heap.size, 1, none⟩ = some (.int .i64 y1) ∧ w'.cell? ⟨w2.heap.size, 2, none⟩ = some (.int .i64 y2) ∧ w'.cell? ⟨w2.heap.size, 3, none⟩ = some (.int .i64 y3) ∧ w'.cell? ⟨w2.heap.size, 4, none⟩ = some (.int .i64 y4) ∧ w'.cell? ⟨w4.heap.size, 0, none⟩ = some (.int .i64 y0) ∧ w'.cell? ⟨w4.heap.size, 1, none⟩ = some (.int .i64 y1) ∧ w'.cell? ⟨w4.heap.size, 2, none⟩ = some (.int .i64 y2) ∧ w'.cell? ⟨w4.heap.size, 3, none⟩ = some (.int .i64 y3) ∧ w'.cell? ⟨w4.heap.size, 4, none⟩ = some (.int .i64 y4) ∧ w'.cell? ⟨w6.heap.size, 0, none⟩ = some (.int .i64 z0) ∧ w'.cell? ⟨w6.heap.size, 1, none⟩ = some (.int .i64 z1) ∧ w'.cell? ⟨w6.heap.size, 2, none⟩ = some (.int .i64 z2) ∧ w'.cell? ⟨w6.heap.size, 3, none⟩ = some (.int .i64 z3) ∧ w'.cell? ⟨w6.heap.size, 4, none⟩ = some (.int .i64 z4) ∧ w'.cell? ⟨w8.heap.size, 0, none⟩ = some (.int .i64 z0) ∧ w'.cell? ⟨w8.heap.size, 1, none⟩ = some (.int .i64 z1) ∧ w'.cell? ⟨w8.heap.size, 2, none⟩ = some (.int .i64 z2) ∧ w'.cell? ⟨w8.heap.size, 3, none⟩ = some (.int .i64 z3) ∧ w'.cell? ⟨w8.heap.size, 4, none⟩ = some (.int .i64 z4)) (first | with_reducible exact K0.out.cells | with_reducible exact KV.out.cells | with_reducible exact K1.out.cells | with_reducible exact K2.out.cells | with_reducible exact K3.out.cells | with_reducible exact K4.out.cells | with_reducible exact K5.out.cells | with_reducible exact K6.out.cells | with_reducible exact K7.out.cells | with_reducible exact K8.out.cells | with_reducible exact K9.out.cells | with_reducible exact K10.out.cells) (first
      | (go_at_call 15; refine (HR1.out _).mono ?_; rintro e x1 ⟨rfl, hB⟩; have K1 := Lib.hid (K0.out.below hB); have V1 := Lib.hid (HV.out.trans ((drew_below' hB).mono HV.out.size)); clear hB)
      | (go_at_call 16; refine (HR2.out _).mono ?_; rintro e x2 ⟨rfl, hB⟩; have K2 := Lib.hid (K1.out.below hB); have V2 := Lib.hid (V1.out.trans ((hB).mono V1.out.size)); clear hB)
      | (go_at_call 17; refine (HP1.out _).mono ?_; rintro e x3 ⟨rfl, hB⟩; have K3 := Lib.hid (K2.out.below hB); have V3 := Lib.hid (V2.out.trans ((hB).mono V2.out.size)); clear hB)
      | (go_at_call 18; refine (HP2.out _).mono ?_; rintro e x4 ⟨rfl, hB⟩; have K4 := Lib.hid (K3.out.below hB); have V4 := Lib.hid (V3.out.trans ((hB).mono V3.out.size)); clear hB)
      | (go_at_call 19; refine (HT1.out _).mono ?_; rintro e x5 ⟨rfl, hB⟩; have K5 := Lib.hid (K4.out.below hB); have V5 := Lib.hid (V4.out.trans ((hB).mono V4.out.size)); clear hB)
      | (go_at_call 20; refine (HT2.out _).mono ?_; rintro e x6 ⟨rfl, hB⟩; have K6 := Lib.hid (K5.out.below hB); have V6 := Lib.hid (V5.out.trans ((hB).mono V5.out.size)); clear hB)
      | (go_at_call 21; refine (HA1.out _).mono ?_; rintro e x7 ⟨rfl, hB⟩; have K7 := Lib.hid (K6.out.below hB); have V7 := Lib.hid (V6.out.trans ((hB).mono V6.out.size)); clear hB)
      | (go_at_call 22; refine (HA2.out _).mono ?_; rintro e x8 ⟨rfl, hB⟩; have K8 := Lib.hid (K7.out.below hB); have V8 := Lib.hid (V7.out.trans ((hB).mono V7.out.size)); clear hB)
      | (go_at_call 23; refine (HO1.out _).mono ?_; rintro e x9 ⟨rfl, hB⟩; have K9 := Lib.hid (K8.out.below hB); have V9 := Lib.hid (V8.out.trans ((hB).mono V8.out.size)); clear hB)
      | (go_at_call 24; refine (HO2.out _).mono ?_; rintro e x10 ⟨rfl, hB⟩; have K10 := Lib.hid (K9.out.below hB); have V10 := Lib.hid (V9.out.trans ((hB).mono V9.out.size)); clear hB))
  go_wp2
  go_ret
  exact ⟨rfl, V10.out⟩

set_option maxRecDepth 100000 in
theorem credDoes_lifted (os : Os) (started : os.Started) (H : Type) (enc : TypeId × Value → H) :
    ReturnsInHanded {} Try.checked os 3 .any (Rows.credDoesSpec.pre6 enc Try.prog Try.f3 Rows.credDoesRow.domain false) (Rows.credDoesSpec.post enc Try.prog Try.f3 false true false false) := by
  refine returnsInHanded_of_change (C := Try.checked) own started (by kernel_rfl) Try.func3
    (ChangeSpec.witness6 (enc := enc) (C := Try.checked) false ⟨#[], #[.agg #[.int .i64 0, .int .i64 0], .agg #[.int .i64 0, .int .i64 0, .int .i64 0, .int .i64 0, .int .i64 0], .int .i64 0, .int .i64 0, .int .i64 0, .int .i64 0], []⟩ 8 (by kernel_rfl) (by kernel_rfl) (by kernel_rfl) (by kernel_rfl)) ?_
  intro W base args ds gs before hval0 hW _ _
  have hval : ∀ (j : Nat) t v, Try.f3.params[j]? = some t → args[j]? = some v → Value.okWide Try.prog W .any base t v := hval0
  have hW' := hW
  obtain ⟨p, q, hA0, hV, rfl, hfz, hnd⟩ := hW
  have hA : DataW.TrodAll enc Try.prog W 0 (fun _ => true) true Try.f3.params.toList args.toList ds p := hA0
  rw [Try.params3] at hA hval
  obtain ⟨v0, vs0, d0, ds0, p0, q0, hargs, rfl, rfl, h0, r0⟩ := trodAll_cons hA
  obtain ⟨v1, vs1, d1, ds1, p1, q1, rfl, rfl, rfl, h1, r1⟩ := trodAll_cons r0
  obtain ⟨v2, vs2, d2, ds2, p2, q2, rfl, rfl, rfl, h2, r2⟩ := trodAll_cons r1
  obtain ⟨v3, vs3, d3, ds3, p3, q3, rfl, rfl, rfl, h3, r3⟩ := trodAll_cons r2
  obtain ⟨v4, vs4, d4, ds4, p4, q4, rfl, rfl, rfl, h4, r4⟩ := trodAll_cons r3
  obtain ⟨v5, vs5, d5, ds5, p5, q5, rfl, rfl, rfl, h5, r5⟩ := trodAll_cons r4
  obtain ⟨rfl, rfl, rfl⟩ := trodAll_nil r5
  obtain rfl : args = #[v0, v1, v2, v3, v4, v5] := by cases args; simp_all
  obtain ⟨x0, x1, rfl⟩ := open_cred (hval 0 23 v0 rfl rfl) h0
  obtain ⟨x2, x3, x4, x5, x6, rfl⟩ := open_perm (hval 1 25 v1 rfl rfl) h1
  obtain ⟨x7, rfl, -, -, _⟩ := open_int Try.underlying3 (hval 2 3 v2 rfl rfl) h2
  obtain ⟨x8, rfl, -, -, _⟩ := open_int Try.underlying3 (hval 3 3 v3 rfl rfl) h3
  obtain ⟨x9, rfl, -, -, _⟩ := open_int Try.underlying3 (hval 4 3 v4 rfl rfl) h4
  obtain ⟨x10, rfl, -, -, _⟩ := open_int Try.underlying3 (hval 5 3 v5 rfl rfl) h5
  refine (does_walk x0 x1 x2 x3 x4 x5 x6 x7 x8 x9 x10 W).mono fun e W' ⟨he, bel⟩ => ⟨_, he, ?_⟩
  exact law_post laidOut (of_decide_eq_true (by kernel_rfl)) rfl Try.underlying4 rfl hW' (fun ds' e => by subst e; rfl) bel

theorem credDoes_holds : Rows.CredDoesSaid :=
  OpenClaim.holds_of_wide 3 Try.f3 rfl rfl rfl rfl rfl rfl rfl ⟨rfl, rfl, rfl, rfl, rfl⟩ rfl rfl rfl rfl rfl (by kernel_rfl) Try.func3 (by kernel_rfl)
    (of_decide_eq_true (by kernel_rfl)) (by unfold Func.isWrapper; rw [if_neg (by decide +kernel)]; exact ⟨rfl, rfl⟩)
    (fun os started H enc _ => credDoes_lifted os started H enc)

#print axioms credDoes_holds
end Go.Proofs.Ytpankbmlidnoaaa
