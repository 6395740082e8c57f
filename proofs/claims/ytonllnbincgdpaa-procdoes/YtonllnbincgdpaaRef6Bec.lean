/- The document's own table of processes (taffrailref06): Become, walked. -/
import Derived.Test.YtonllnbincgdpaaRef6Ops
namespace Go.Proofs.Ytonllnbincgdpaa
open Go.RowKit

theorem ret_b6 {a b : Bool} (h : a = b) : Ending.returned (.bool a) = .returned (.bool b) := by rw [h]

set_option maxRecDepth 100000 in
set_option maxHeartbeats 1000000 in
theorem ruser6 (n : Int) (w : World) : Calls Try.prog 51 #[.int .i64 n] w fun e w' => e = .returned (.bool (usrB6 n)) ∧ w = w' := by
  by_cases h : 0 ≤ n
  · have HB : Hid (usrB6 n = decide (n ≤ 65535)) := by unfold Hid usrB6; simp [h]
    go_enter Try.func51, Try.ntmps51
    go_wp2
    go_ret
    exact ⟨ret_b6 HB.out.symm, rfl⟩
  · have HB : Hid (usrB6 n = false) := by unfold Hid usrB6; simp; omega
    go_enter Try.func51, Try.ntmps51
    go_wp2
    go_ret
    exact ⟨ret_b6 HB.out.symm, rfl⟩

set_option maxRecDepth 100000 in
set_option maxHeartbeats 1000000 in
theorem rright6 (u v : Int) (w : World) : Calls Try.prog 48 #[.agg #[.int .i64 u, .int .i64 v]] w fun e w' => e = .returned (.bool (usrB6 u && usrB6 v)) ∧ w' = w.alloc (.cells #[.int .i64 u, .int .i64 v] 30) := by
  cases hu : usrB6 u
  · have hU := ruser6 u (w.alloc (.cells #[.int .i64 u, .int .i64 v] 30))
    rw [hu] at hU
    have HU := Lib.hid hU
    clear hU hu
    go_enter Try.func48, Try.ntmps48
    go_wp2_with (go_at_call 51; refine HU.out.mono ?_; rintro e w' ⟨rfl, rfl⟩)
    go_ret
    exact ⟨rfl, rfl⟩
  · have hU := ruser6 u (w.alloc (.cells #[.int .i64 u, .int .i64 v] 30))
    rw [hu] at hU
    have HU := Lib.hid hU
    clear hU hu
    go_enter Try.func48, Try.ntmps48
    go_wp2_with fail
    refine HU.out.mono ?_
    rintro e w' ⟨rfl, rfl⟩
    go_wp2_with fail
    refine (ruser6 v _).mono ?_
    rintro e w' ⟨rfl, rfl⟩
    go_wp2
    go_ret
    exact ⟨rfl, rfl⟩

set_option maxRecDepth 100000 in
theorem neq_cred6 (u g u' g' : Int) (w : World) : (binOp .neq 30 (.agg #[.int .i64 u, .int .i64 g]) (.agg #[.int .i64 u', .int .i64 g'])).run Try.prog w = .ok (.bool (!((u == u') && (g == g')))) w := by
  cases h1 : (u == u') <;> cases h2 : (g == g') <;> simp [go_sem, h1, h2]

theorem cell_heap6 {W X : World} (h : W.heap = X.heap) (a : Addr) : W.cell? a = X.cell? a := World.cell?_of_block (by rw [h])
theorem frozen_heap6 {W X : World} (h : W.heap = X.heap) (a : Addr) : W.frozen? a = X.frozen? a := World.frozen?_of_block (by rw [h])

section
variable {w : World} {base q : Nat} {L : List PV} {g : Int}


set_option maxRecDepth 100000 in
set_option maxHeartbeats 2000000 in
theorem rbecome {r cap : Nat} (h : RT w base q r cap L g) (ho : TOk L g) (k u v : Int) : Calls Try.prog 26 #[.pointer (some ⟨q, 0, none⟩), .int .i64 k, .agg #[.int .i64 u, .int .i64 v]] w fun e w' => e = .returned (.int .i64 (becE L k u v)) ∧ RTab w' base q (becL L k u v) g ∧ Turn q r w w' := by
  have hn := ho.len
  have hbs : base ≤ w.heap.size := Nat.le_of_lt (Nat.lt_of_le_of_lt h.bq h.qlt)
  have hB0 := (Below.refl w.heap.size w).alloc (Nat.le_refl _) (.cells #[.int .i64 u, .int .i64 v] 30)
  have h0 := h.below hB0
  have bX := BoxA.new w 30 #[.int .i64 u, .int .i64 v]
  have hbr := h.br
  cases e : getL L k with
  | none =>
    have hE : becE L k u v = 60 := by unfold becE; rw [e]
    rw [becL_no (by rw [hE]; decide), hE]
    have HA := Lib.hid (rat_none h0 hn (getL_none e))
    have HR := Lib.hid h0; have HB := Lib.hid (Turn.of_below (p := q) (m := r) hB0)
    clear h h0 e hE bX hB0
    go_enter Try.func26, Try.ntmps26
    go_wp2_with (go_at_call 47; refine HA.out.mono ?_; rintro e w' ⟨rfl, rfl⟩)
    go_ret
    exact ⟨rfl, ⟨_, _, HR.out⟩, HB.out⟩
  | some x =>
    obtain ⟨i, hil, hi, hx, hlo⟩ := getL_idx e
    have HA := Lib.hid (rat_some h0 hn hil hi hx hlo)
    have hat := atL_some e
    have hRt := rright6 u v (w.alloc (.cells #[.int .i64 u, .int .i64 v] 30))
    cases hr : (usrB6 u && usrB6 v)
    · have hE : becE L k u v = 50 := by unfold becE; rw [e]; simp [hr]
      rw [becL_no (by rw [hE]; decide), hE]
      rw [hr] at hRt
      have HRt := Lib.hid hRt
      have HR := Lib.hid (h0.below ((Below.refl _ _).alloc (Nat.le_refl _) (.cells #[.int .i64 u, .int .i64 v] 30))); have HB := Lib.hid (Turn.of_below (p := q) (m := r) (hB0.alloc (by simp) (.cells #[.int .i64 u, .int .i64 v] 30)))
      clear h h0 e hE bX hB0 hRt hi hx hlo hat hr
      go_enter Try.func26, Try.ntmps26
      go_wp2_with (first | (go_at_call 47; refine HA.out.mono ?_; rintro e w' ⟨rfl, rfl⟩) | (go_at_call 48; refine HRt.out.mono ?_; rintro e w' ⟨rfl, rfl⟩))
      go_ret
      exact ⟨rfl, ⟨_, _, HR.out⟩, HB.out⟩
    · rw [hr] at hRt
      have HRt := Lib.hid hRt
      have h1 := h0.below ((Below.refl _ _).alloc (Nat.le_refl _) (.cells #[.int .i64 u, .int .i64 v] 30))
      have bX1 := bX.alloc (.cells #[.int .i64 u, .int .i64 v] 30)
      have HB := Lib.hid (Turn.of_below (p := q) (m := r) (hB0.alloc (by simp) (.cells #[.int .i64 u, .int .i64 v] 30)))
      have c0 := h1.c0; have y3 := h1.at hi 3 rfl; have y4 : _ = some (Value.int .i64 x.gid) := h1.at hi 4 rfl
      have y4' : ((w.alloc (.cells #[.int .i64 u, .int .i64 v] 30)).alloc (.cells #[.int .i64 u, .int .i64 v] 30)).cell? ⟨r, i * 8 + 3 + 1, none⟩ = some (Value.int .i64 x.gid) := y4
      have x0 := bX1.at 0 rfl; have x1 := bX1.at 1 rfl
      have hnc := neq_cred6 x.uid x.gid u v
      by_cases hz : x.uid ≠ 0 ∧ ¬ (x.uid = u ∧ x.gid = v)
      · have hE : becE L k u v = 51 := by unfold becE; rw [e]; simp [hr]; exact ⟨hz.1, fun h1 h2 => hz.2 ⟨h1, h2⟩⟩
        rw [becL_no (by rw [hE]; decide), hE]
        have bz : (x.uid == 0) = false := by simpa using hz.1
        have bz' : (x.uid != 0) = true := by simpa using hz.1
        have hne : ((x.uid == u) && (x.gid == v)) = false := by
          rw [Bool.eq_false_iff]; intro hh; apply hz.2; simpa using hh
        rw [hne, Bool.not_false] at hnc
        have HR := Lib.hid h1
        clear h h0 h1 e hE bX bX1 hB0 hRt hi hx hlo hat hr hz hne
        obtain ⟨a0, a1, a2, a3, a4, a5, a6, a7⟩ := x
        dsimp only at y3 y4 y4' bz bz' hnc
        go_enter Try.func26, Try.ntmps26
        go_wp2_with (first | (go_at_call 47; refine HA.out.mono ?_; rintro e w' ⟨rfl, rfl⟩) | (go_at_call 48; refine HRt.out.mono ?_; rintro e w' ⟨rfl, rfl⟩))
        go_quiet (fail)
        go_wp2
        go_ret
        exact ⟨rfl, ⟨_, _, HR.out.keep rfl rfl⟩, HB.out.drewN⟩
      · have hE : becE L k u v = 0 := by unfold becE; rw [e]; simp [hr]; intro h1; exact Classical.byContradiction fun h3 => hz ⟨h1, h3⟩
        have HS : Hid (L.set i (becV u v x) = becL L k u v) := by unfold Hid; rw [becL_yes hE, hat]; exact setL_set ho hi hx
        rw [hE, ← HS.out]
        have hk : ∀ W : World, W.heap = ((w.alloc (.cells #[.int .i64 u, .int .i64 v] 30)).alloc (.cells #[.int .i64 u, .int .i64 v] 30)).heap → RT ((W.setCell ⟨r, i * 8 + 3, none⟩ (.int .i64 u)).setCell ⟨r, i * 8 + 3 + 1, none⟩ (.int .i64 v)) base q r cap (L.set i (becV u v x)) g := fun W hW => by
          have h2 := (h1.keep (w' := W) (by rw [hW]) (by rw [hW])).set (x' := { x with uid := u }) hi 3 (u := .int .i64 u) (by decide) rfl
          have h3 := h2.set (x' := becV u v x) (set_at hil) 4 (u := .int .i64 v) (by decide) rfl
          rw [List.set_set] at h3
          exact h3
        have HR := Lib.hid hk
        have f3 := h1.fr (i * 8 + 3); have f4 := h1.fr (i * 8 + 3 + 1)
        by_cases hu0 : x.uid = 0
        · clear h h0 h1 e hE bX bX1 hB0 hRt hi hx hlo hat hr hz hk hnc
          obtain ⟨a0, a1, a2, a3, a4, a5, a6, a7⟩ := x
          dsimp only at y3 y4 y4' hu0
          subst hu0
          go_enter Try.func26, Try.ntmps26
          go_wp2_with (first | (go_at_call 47; refine HA.out.mono ?_; rintro e w' ⟨rfl, rfl⟩) | (go_at_call 48; refine HRt.out.mono ?_; rintro e w' ⟨rfl, rfl⟩))
          go_quiet (fail)
          go_wp2
          generalize hW : World.drewN ((w.alloc (.cells #[.int .i64 u, .int .i64 v] 30)).alloc (.cells #[.int .i64 u, .int .i64 v] 30)) nq = W
          have eW : W.heap = ((w.alloc (.cells #[.int .i64 u, .int .i64 v] 30)).alloc (.cells #[.int .i64 u, .int .i64 v] 30)).heap := by rw [← hW]; rfl
          have HRW := Lib.hid (HR.out W.drew eW)
          have HBW : Hid (Turn q r w W.drew) := by unfold Hid; rw [← hW]; exact HB.out.drewN.drewN (k := 1)
          have c0' := (cell_heap6 eW _).trans c0; have x0' := (cell_heap6 eW _).trans x0; have x1' := (cell_heap6 eW _).trans x1
          have y3' := (cell_heap6 eW _).trans y3; have y4W := (cell_heap6 eW _).trans y4'
          have f3' := (frozen_heap6 eW _).trans f3; have f4' := (frozen_heap6 eW _).trans f4
          clear hW eW c0 x0 x1 y3 y4 y4' f3 f4
          go_still_tail 8, (by kernel_rfl)
          change wpList _ _ _ _ _ W.drew
          go_wp2
          go_ret
          exact ⟨rfl, ⟨_, _, HRW.out⟩, (HBW.out.setM _ _).setM _ _⟩
        · have hee : x.uid = u ∧ x.gid = v := Classical.byContradiction fun h3 => hz ⟨hu0, h3⟩
          have bz : (x.uid == 0) = false := by simpa using hu0
          have bz' : (x.uid != 0) = true := by simpa using hu0
          have hne : ((x.uid == u) && (x.gid == v)) = true := by simp [hee.1, hee.2]
          rw [hne, Bool.not_true] at hnc
          clear hee hne hu0
          clear h h0 h1 e hE bX bX1 hB0 hRt hi hx hlo hat hr hz hk
          obtain ⟨a0, a1, a2, a3, a4, a5, a6, a7⟩ := x
          dsimp only at y3 y4 y4' bz bz' hnc
          go_enter Try.func26, Try.ntmps26
          go_wp2_with (first | (go_at_call 47; refine HA.out.mono ?_; rintro e w' ⟨rfl, rfl⟩) | (go_at_call 48; refine HRt.out.mono ?_; rintro e w' ⟨rfl, rfl⟩))
          go_quiet (fail)
          go_wp2
          generalize hW : World.drewN ((w.alloc (.cells #[.int .i64 u, .int .i64 v] 30)).alloc (.cells #[.int .i64 u, .int .i64 v] 30)) nq = W
          have eW : W.heap = ((w.alloc (.cells #[.int .i64 u, .int .i64 v] 30)).alloc (.cells #[.int .i64 u, .int .i64 v] 30)).heap := by rw [← hW]; rfl
          have HRW := Lib.hid (HR.out W.drew eW)
          have HBW : Hid (Turn q r w W.drew) := by unfold Hid; rw [← hW]; exact HB.out.drewN.drewN (k := 1)
          have c0' := (cell_heap6 eW _).trans c0; have x0' := (cell_heap6 eW _).trans x0; have x1' := (cell_heap6 eW _).trans x1
          have y3' := (cell_heap6 eW _).trans y3; have y4W := (cell_heap6 eW _).trans y4'
          have f3' := (frozen_heap6 eW _).trans f3; have f4' := (frozen_heap6 eW _).trans f4
          clear hW eW c0 x0 x1 y3 y4 y4' f3 f4
          go_still_tail 8, (by kernel_rfl)
          change wpList _ _ _ _ _ W.drew
          go_wp2
          go_ret
          exact ⟨rfl, ⟨_, _, HRW.out⟩, (HBW.out.setM _ _).setM _ _⟩
end
end Go.Proofs.Ytonllnbincgdpaa
