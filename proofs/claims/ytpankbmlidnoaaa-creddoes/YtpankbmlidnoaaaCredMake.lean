/- Package cred: Make, walked; a permission's five cells. -/
import Derived.Test.YtpankbmlidnoaaaCredRight
namespace Go.Proofs.Ytpankbmlidnoaaa
open Go.RowKit

/-- a permission's cells. -/
abbrev pm (a b c d m : Int) : Array Value := #[.int .i64 a, .int .i64 b, .int .i64 c, .int .i64 d, .int .i64 m]
abbrev cr (u g : Int) : Array Value := #[.int .i64 u, .int .i64 g]
/-- five stores into one block. -/
abbrev set5 (w : World) (b : Nat) (y0 y1 y2 y3 y4 : Value) : World := ((((w.setCell ⟨b, 0, none⟩ y0).setCell ⟨b, 1, none⟩ y1).setCell ⟨b, 2, none⟩ y2).setCell ⟨b, 3, none⟩ y3).setCell ⟨b, 4, none⟩ y4
theorem BoxA.set5 {w : World} {b : Nat} {t : TypeId} {x0 x1 x2 x3 x4 : Value} (h : BoxA w b t #[x0, x1, x2, x3, x4]) (y0 y1 y2 y3 y4 : Value) : BoxA (set5 w b y0 y1 y2 y3 y4) b t #[y0, y1, y2, y3, y4] :=
  ((((h.set 0 y0).set 1 y1).set 2 y2).set 3 y3).set 4 y4
theorem below_set5 {w w' : World} {b n : Nat} (h : Below n w w') (hb : n ≤ b) (y0 y1 y2 y3 y4 : Value) : Below n w (set5 w' b y0 y1 y2 y3 y4) :=
  ((((h.setCell (p := ⟨b, 0, none⟩) hb y0).setCell (p := ⟨b, 1, none⟩) hb y1).setCell (p := ⟨b, 2, none⟩) hb y2).setCell (p := ⟨b, 3, none⟩) hb y3).setCell (p := ⟨b, 4, none⟩) hb y4

set_option maxRecDepth 100000 in
set_option maxHeartbeats 1000000 in
theorem make_ok (u g m : Int) (h : permB u g u g m = true) (w : World) : Calls Try.prog 11 #[.agg #[.int .i64 u, .int .i64 g], .int .i64 m] w fun e w' =>
    e = .returned (.tuple #[.agg #[.int .i64 u, .int .i64 g, .int .i64 u, .int .i64 g, .int .i64 m], .int .i64 0]) ∧ Below w.heap.size w w' := by
  have HP := Lib.hid h; clear h
  have bR := (BoxA.new (w.alloc (.cells (cr u g) 23)) 25 (pm 0 0 0 0 0)).alloc (.cells (pm u g u g m) 25)
  have bP := BoxA.new ((w.alloc (.cells (cr u g) 23)).alloc (.cells (pm 0 0 0 0 0) 25)) 25 (pm u g u g m)
  simp only [World.size_alloc] at bR bP
  have HB0 := Lib.hid ((((Below.refl w.heap.size w).alloc (Nat.le_refl _) (.cells (cr u g) 23)).alloc (by simp) (.cells (pm 0 0 0 0 0) 25)).alloc (by simp; omega) (.cells (pm u g u g m) 25))
  go_enter Try.func11, Try.ntmps11
  go_wp2_with fail
  refine (perm_any _ _ _ _ _ _).mono ?_
  rintro e w1 ⟨rfl, hB⟩
  rw [HP.out]
  have bR1 := bR.below' hB
  have bP1 := bP.below' hB
  have HB1 := Lib.hid (HB0.out.trans (hB.mono HB0.out.size))
  clear hB bR bP
  have r0 := bR1.at 0 rfl; have r1 := bR1.at 1 rfl; have r2 := bR1.at 2 rfl; have r3 := bR1.at 3 rfl; have r4 := bR1.at 4 rfl
  have f0 := bR1.f 0; have f1 := bR1.f 1; have f2 := bR1.f 2; have f3 := bR1.f 3; have f4 := bR1.f 4
  have p0 := bP1.at 0 rfl; have p1 := bP1.at 1 rfl; have p2 := bP1.at 2 rfl; have p3 := bP1.at 3 rfl; have p4 := bP1.at 4 rfl
  have BR := Lib.hid bR1; clear bR1 bP1
  go_wp2
  have bs := BR.out.set5 (.int .i64 u) (.int .i64 g) (.int .i64 u) (.int .i64 g) (.int .i64 m)
  have s0 := bs.at 0 rfl; have s1 := bs.at 1 rfl; have s2 := bs.at 2 rfl; have s3 := bs.at 3 rfl; have s4 := bs.at 4 rfl
  exact bodyPost_ret (v := .tuple #[.agg (pm u g u g m), .int .i64 0]) (by simp [results, Try.results11, go_sem, s0, s1, s2, s3, s4]) rfl ⟨rfl, below_set5 HB1.out (by omega) _ _ _ _ _⟩

set_option maxRecDepth 100000 in
set_option maxHeartbeats 1000000 in
theorem make_no (u g m : Int) (h : permB u g u g m = false) (w : World) : Calls Try.prog 11 #[.agg #[.int .i64 u, .int .i64 g], .int .i64 m] w fun e w' =>
    e = .returned (.tuple #[.agg #[.int .i64 0, .int .i64 0, .int .i64 0, .int .i64 0, .int .i64 0], .int .i64 50]) ∧ Below w.heap.size w w' := by
  have HP := Lib.hid h; clear h
  have bR := (BoxA.new (w.alloc (.cells (cr u g) 23)) 25 (pm 0 0 0 0 0)).alloc (.cells (pm u g u g m) 25)
  simp only [World.size_alloc] at bR
  have HB0 := Lib.hid ((((Below.refl w.heap.size w).alloc (Nat.le_refl _) (.cells (cr u g) 23)).alloc (by simp) (.cells (pm 0 0 0 0 0) 25)).alloc (by simp; omega) (.cells (pm u g u g m) 25))
  go_enter Try.func11, Try.ntmps11
  go_wp2_with fail
  refine (perm_any _ _ _ _ _ _).mono ?_
  rintro e w1 ⟨rfl, hB⟩
  rw [HP.out]
  have bR1 := bR.below' hB
  have HB1 := Lib.hid (HB0.out.trans (hB.mono HB0.out.size))
  clear hB bR
  have r0 := bR1.at 0 rfl; have r1 := bR1.at 1 rfl; have r2 := bR1.at 2 rfl; have r3 := bR1.at 3 rfl; have r4 := bR1.at 4 rfl
  have f0 := bR1.f 0; have f1 := bR1.f 1; have f2 := bR1.f 2; have f3 := bR1.f 3; have f4 := bR1.f 4
  have BR := Lib.hid bR1; clear bR1
  go_wp2
  have bs := BR.out.set5 (.int .i64 0) (.int .i64 0) (.int .i64 0) (.int .i64 0) (.int .i64 0)
  have s0 := bs.at 0 rfl; have s1 := bs.at 1 rfl; have s2 := bs.at 2 rfl; have s3 := bs.at 3 rfl; have s4 := bs.at 4 rfl
  exact bodyPost_ret (v := .tuple #[.agg (pm 0 0 0 0 0), .int .i64 50]) (by simp [results, Try.results11, go_sem, s0, s1, s2, s3, s4]) rfl ⟨rfl, below_set5 HB1.out (by omega) _ _ _ _ _⟩

end Go.Proofs.Ytpankbmlidnoaaa
