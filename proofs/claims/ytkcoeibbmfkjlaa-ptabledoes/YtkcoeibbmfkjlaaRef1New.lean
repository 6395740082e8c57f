/- Package taffrailref01: New, walked. -/
import Derived.Test.YtkcoeibbmfkjlaaRef1Alloc
import Derived.OwnWalk
import Derived.OneCell
import Derived.RangeFuncBox
import Derived.Maps.AppendAt
namespace Go.Proofs.Ytkcoeibbmfkjlaa
open Go.RowKit

/-- New, in the midst of it: the struct in block q holds two slices, each with its own row. -/
structure NewSt (base q : Nat) (w : World) (vb vr : Value) (k l : Nat) (xs ys : List Value) : Prop where
  hq : w.heap[q]? = some (.cells #[vb, vr] 64 (0, 0))
  ob : w.ownsRow base 9 1 vb k xs
  orr : w.ownsRow base 3 1 vr l ys
  hqb : q < base
  hbs : base ≤ w.heap.size

section
variable {base q : Nat} {w w1 : World} {vb vr v' : Value} {k l : Nat} {xs ys xs' : List Value}

theorem own_ge {e : TypeId} {v : Value} (h : w.ownsRow base e 1 v k xs) : ∀ j, v.ownBlock = some j → base ≤ j := fun j hj => (h.lt j hj).1

theorem own_apart {e e' : TypeId} {v u : Value} (h : w.ownsRow base e 1 v k xs) (h' : w.ownsRow base e' 1 u l ys) (hne : e ≠ e') : u.ownBlock = none ∨ u.ownBlock ≠ v.ownBlock := by
  rcases h'.2 with ⟨rfl, _⟩ | ⟨g', cap', cur', rfl, _, hg', _⟩
  · exact .inl rfl
  · right
    intro e
    rcases h.2 with ⟨rfl, _⟩ | ⟨g, cap, cur, rfl, _, hg, _⟩
    · simp [Value.ownBlock] at e
    · simp [Value.ownBlock] at e
      subst e
      rw [hg] at hg'
      simp at hg'
      exact hne hg'.2

theorem NewSt.cells (h : NewSt base q w vb vr k l xs ys) : w.cell? ⟨q, 0, none⟩ = some vb ∧ w.cell? ⟨q, 1, none⟩ = some vr ∧ w.frozen? ⟨q, 0, none⟩ = false ∧ w.frozen? ⟨q, 1, none⟩ = false := by
  simp [World.cell?, World.frozen?, h.hq]

theorem NewSt.alloc (h : NewSt base q w vb vr k l xs ys) (o : Obj) : NewSt base q (w.alloc o) vb vr k l xs ys :=
  ⟨(Below.heap_alloc _ _ _ (by have := h.hqb; have := h.hbs; omega)).trans h.hq, h.ob.alloc o, h.orr.alloc o, h.hqb, by have := h.hbs; simp; omega⟩

/-- one text more. -/
theorem NewSt.stepB (h : NewSt base q w vb vr k l xs ys) (hown : w1.ownsRow base 9 1 v' (k + 1) xs') (hgrow : w.grownBy w1 vb.ownBlock) :
    (w1.cell? ⟨q, 0, none⟩ = some vb ∧ w1.frozen? ⟨q, 0, none⟩ = false) ∧ NewSt base q (w1.setCell ⟨q, 0, none⟩ v') v' vr (k + 1) l xs' ys ∧ Below q w (w1.setCell ⟨q, 0, none⟩ v') := by
  have hq1 : w1.heap[q]? = some (.cells #[vb, vr] 64 (0, 0)) := (hgrow.block q (by have := h.hqb; have := h.hbs; omega) (fun e => by have := own_ge h.ob q e.symm; have := h.hqb; omega)).trans h.hq
  have hor1 : w1.ownsRow base 3 1 vr l ys := h.orr.kept hgrow (own_apart h.ob h.orr (by decide))
  refine ⟨by simp [World.cell?, World.frozen?, hq1], ⟨by rw [heap_setCell_same _ _ _ _ _ _ hq1]; rfl, ownsRow_setCell_below hown h.hqb _, ownsRow_setCell_below hor1 h.hqb _, h.hqb, ?_⟩, ?_⟩
  · have := hgrow.size; have := h.hbs; simp [World.setCell]; omega
  · exact ((Below.refl q w).grown hgrow (by have := h.hqb; have := h.hbs; omega) (fun j e => by have := own_ge h.ob j e; have := h.hqb; omega)).setCell (p := ⟨q, 0, none⟩) (Nat.le_refl _) _

/-- one number more. -/
theorem NewSt.stepR (h : NewSt base q w vb vr k l xs ys) (hown : w1.ownsRow base 3 1 v' (l + 1) xs') (hgrow : w.grownBy w1 vr.ownBlock) :
    (w1.cell? ⟨q, 1, none⟩ = some vr ∧ w1.frozen? ⟨q, 1, none⟩ = false) ∧ NewSt base q (w1.setCell ⟨q, 1, none⟩ v') vb v' k (l + 1) xs xs' ∧ Below q w (w1.setCell ⟨q, 1, none⟩ v') := by
  have hq1 : w1.heap[q]? = some (.cells #[vb, vr] 64 (0, 0)) := (hgrow.block q (by have := h.hqb; have := h.hbs; omega) (fun e => by have := own_ge h.orr q e.symm; have := h.hqb; omega)).trans h.hq
  have hor1 : w1.ownsRow base 9 1 vb k xs := h.ob.kept hgrow (own_apart h.orr h.ob (by decide))
  refine ⟨by simp [World.cell?, World.frozen?, hq1], ⟨by rw [heap_setCell_same _ _ _ _ _ _ hq1]; rfl, ownsRow_setCell_below hor1 h.hqb _, ownsRow_setCell_below hown h.hqb _, h.hqb, ?_⟩, ?_⟩
  · have := hgrow.size; have := h.hbs; simp [World.setCell]; omega
  · exact ((Below.refl q w).grown hgrow (by have := h.hqb; have := h.hbs; omega) (fun j e => by have := own_ge h.orr j e; have := h.hqb; omega)).setCell (p := ⟨q, 1, none⟩) (Nat.le_refl _) _

theorem replicate_snoc (k : Nat) (x : Value) : List.replicate k x ++ [x] = List.replicate (k + 1) x := by rw [List.replicate_succ']

theorem own_cells {e : TypeId} {v x : Value} {n : Nat} (h : w.ownsRow base e 1 v n (List.replicate n x)) (hn : 1 ≤ n) : ∃ g cap C, v = .slice (some ⟨g, 0, none⟩) n cap ∧ w.heap[g]? = some (.cells C e (0, 0)) ∧ base ≤ g ∧ ∀ j, j < n → C[j]? = some x := by
  rcases h.2 with ⟨_, h0⟩ | ⟨g, cap, cur, hv, hb, hg, _, _, _, ht⟩
  · omega
  · refine ⟨g, cap, cur, hv, hg, hb, fun j hj => ?_⟩
    rw [Nat.mul_one] at ht
    have h1 : (cur.toList.take n)[j]? = some x := by rw [ht]; simp [hj]
    rw [List.getElem?_take_of_lt hj] at h1
    simpa using h1

theorem NewSt.done {n : Nat} (h : NewSt base q w vb vr n n (List.replicate n (.string (tx zeroPage))) (List.replicate n (.int .i64 0))) (h1 : 1 ≤ n) (hn : n ≤ 256) :
    ∃ gb gr, base ≤ gb ∧ base ≤ gr ∧ RefAt w q gb gr n (fun _ => 0) (fun _ => zeroPage) := by
  obtain ⟨gb, cb, Cb, rfl, hgb, b1, hb⟩ := own_cells h.ob h1
  obtain ⟨gr, cr, Cr, rfl, hgr, b2, hr⟩ := own_cells h.orr h1
  exact ⟨gb, gr, b1, b2, ⟨_, _, h.hq⟩, ⟨Cb, hgb, hb⟩, ⟨Cr, hgr, hr⟩, fun _ _ => ⟨Int.le_refl _, by omega⟩, fun _ _ => by simp [zeroPage], hn, h1⟩

end

theorem Try.infoString : (Try.prog.info? 9).map (fun i => (i.zero, i.size, i.bytes)) = some (some (.string ⟨#[]⟩), 1, 16) := by kernel_rfl
theorem Try.infoInt : (Try.prog.info? 3).map (fun i => (i.zero, i.size, i.bytes)) = some (some (.int .i64 0), 1, 8) := by kernel_rfl

set_option maxRecDepth 100000 in
set_option maxHeartbeats 400000 in
theorem rnew_bad (k : Int) (hk : k < 1 ∨ 256 < k) (w : World) : Calls Try.prog 11 #[.int .i64 k] w fun e w' => e = .returned (.tuple #[.pointer none, .int .i64 2]) ∧ w = w' := by
  by_cases h1 : k < 1
  · go_enter Try.func11, Try.ntmps11
    go_wp2
    go_ret2
    exact ⟨rfl, rfl⟩
  · have h2 : 256 < k := by omega
    clear hk
    go_enter Try.func11, Try.ntmps11
    go_wp2
    go_ret2
    exact ⟨rfl, rfl⟩

set_option maxRecDepth 100000 in
set_option maxHeartbeats 1000000 in
theorem rnew_ok (n : Nat) (h1 : 1 ≤ n) (hn : n ≤ 256) (w : World) : Calls Try.prog 11 #[.int .i64 n] w fun e w' =>
    e = .returned (.tuple #[.pointer (some ⟨w.heap.size, 0, none⟩), .int .i64 0]) ∧ (∃ gb gr, w.heap.size + 1 ≤ gb ∧ w.heap.size + 1 ≤ gr ∧ RefAt w' w.heap.size gb gr n (fun _ => 0) (fun _ => zeroPage)) ∧ Below w.heap.size w w' := by
  obtain ⟨i0, hi, hz0, hz1, hz2⟩ := info_parts Try.infoString
  obtain ⟨i1, hi', hz0', hz1', hz2'⟩ := info_parts Try.infoInt
  have HI := Lib.hid hi; have HZ0 := Lib.hid hz0; have HZ1 := Lib.hid hz1; have HZ2 := Lib.hid hz2
  have HI' := Lib.hid hi'; have HZ0' := Lib.hid hz0'; have HZ1' := Lib.hid hz1'; have HZ2' := Lib.hid hz2'
  clear hi hz0 hz1 hz2 hi' hz0' hz1' hz2'
  have hmk := make_page (w.alloc (.cells #[.slice none 0 0, .slice none 0 0] 64))
  have hcv := conv_page ((w.alloc (.cells #[.slice none 0 0, .slice none 0 0] 64)).alloc (.cells zeroCells64 5)) (w.heap.size + 1) (by have := heap_alloc_new (w.alloc (.cells #[.slice none 0 0, .slice none 0 0] 64)) (.cells zeroCells64 5); rwa [World.size_alloc] at this)
  rw [World.size_alloc] at hmk
  have hst : NewSt (w.heap.size + 1) w.heap.size ((w.alloc (.cells #[.slice none 0 0, .slice none 0 0] 64)).alloc (.cells zeroCells64 5)) (.slice none 0 0) (.slice none 0 0) 0 0 [] [] :=
    NewSt.alloc ⟨heap_alloc_new _ _, World.ownsRow_nil _ _ _ _, World.ownsRow_nil _ _ _ _, by omega, by simp⟩ _
  have hB0 : Below w.heap.size w ((w.alloc (.cells #[.slice none 0 0, .slice none 0 0] 64)).alloc (.cells zeroCells64 5)) := ((Below.refl _ _).alloc (Nat.le_refl _) _).alloc (by simp) _
  have HST := Lib.hid hst; clear hst
  have HB0 := Lib.hid hB0; clear hB0
  have HD : Hid (∀ (W : World) (vb vr : Value), NewSt (w.heap.size + 1) w.heap.size W vb vr n n (List.replicate n (.string (tx zeroPage))) (List.replicate n (.int .i64 0)) → ∃ gb gr, w.heap.size + 1 ≤ gb ∧ w.heap.size + 1 ≤ gr ∧ RefAt W w.heap.size gb gr n (fun _ => 0) (fun _ => zeroPage)) := fun W vb vr h => h.done h1 hn
  unfold tx at HD
  generalize (⟨zeroPage.toArray⟩ : ByteArray) = ZS at *
  generalize zeroCells64 = Z at *
  go_enter Try.func11, Try.ntmps11
  go_wp2
  go_loopw [6] (fun i wr => ∃ (k : Nat) (vb vr : Value), k ≤ n ∧ i = .int .i64 k ∧ NewSt (w.heap.size + 1) w.heap.size wr vb vr k k (List.replicate k (.string ZS)) (List.replicate k (.int .i64 0)) ∧ Below w.heap.size w wr) (fun i _ => n - (intOf i).toNat)
  case atStart => exact ⟨0, _, _, Nat.zero_le _, rfl, HST.out, HB0.out⟩
  case round =>
    obtain ⟨k, vb, vr, hk, rfl, hst, hB⟩ := hrel
    have HB := Lib.hid hB; clear hB
    by_cases hlt : k < n
    · obtain ⟨c0, c1, f0, f1⟩ := hst.cells
      go_wp2_with (first
        | (at_builtin; refine wpList_append_own _ rfl (.tmp 26) (.tmp 28) 62 rfl (w.heap.size + 1) 9 i0 (.string ⟨#[]⟩) 1 16 Try.underlying62 HI.out HZ0.out HZ1.out HZ2.out rfl (by decide) vb k (List.replicate k (.string ZS)) rfl (hst.ob.alloc _) ⟨wr.heap.size, 0, none⟩ 1 1 [.string ZS] rfl rfl (cell_one_new _ _ _) (by simp [Value.oneCell']) (by unfold maxLen; omega) (by omega) (by have := hst.hbs; simp; omega) ?_; intro v1 w1 hown1 hgrow1 _; obtain ⟨g1, cap1, rfl⟩ := ownsRow_succ hown1; rw [replicate_snoc] at hown1; obtain ⟨⟨c10, f10⟩, st1, bl1⟩ := (hst.alloc (.cells #[.string ZS] 9)).stepB hown1 hgrow1; obtain ⟨-, d11, -, g11⟩ := st1.cells; have BL1 := Lib.hid bl1; clear bl1 hown1 hgrow1)
        | (at_builtin; refine wpList_append_own _ rfl (.tmp 36) (.tmp 37) 44 rfl (w.heap.size + 1) 3 i1 (.int .i64 0) 1 8 Try.underlying44 HI'.out HZ0'.out HZ1'.out HZ2'.out rfl (by decide) vr k (List.replicate k (.int .i64 0)) rfl (st1.orr.alloc _) ⟨w1.heap.size, 0, none⟩ 1 1 [.int .i64 0] rfl rfl ?cn (by simp [Value.oneCell']) (by unfold maxLen; omega) (by omega) (by have := st1.hbs; simp at this ⊢; omega) ?_))
      case cn =>
        have e : (w1.setCell ⟨w.heap.size, 0, none⟩ (.slice (some ⟨g1, 0, none⟩) (k + 1) cap1)).heap.size = w1.heap.size := by simp [World.setCell]
        have := cell_one_new (w1.setCell ⟨w.heap.size, 0, none⟩ (.slice (some ⟨g1, 0, none⟩) (k + 1) cap1)) (.int .i64 0) 3
        rw [e] at this
        exact this
      intro v2 w2 hown2 hgrow2 _
      obtain ⟨g2, cap2, rfl⟩ := ownsRow_succ hown2
      rw [replicate_snoc] at hown2
      obtain ⟨⟨c11, f11⟩, st2, bl2⟩ := (st1.alloc (.cells #[.int .i64 0] 3)).stepR hown2 hgrow2
      have hBB : Hid (Below w.heap.size w (w2.setCell ⟨w.heap.size, 1, none⟩ (.slice (some ⟨g2, 0, none⟩) (k + 1) cap2))) := by
        have b1 : Below w.heap.size w (wr.alloc (.cells #[.string ZS] 9)) := HB.out.alloc HB.out.size _
        have b2 := b1.trans BL1.out
        have b3 : Below w.heap.size w ((w1.setCell ⟨w.heap.size, 0, none⟩ (.slice (some ⟨g1, 0, none⟩) (k + 1) cap1)).alloc (.cells #[.int .i64 0] 3)) := b2.alloc b2.size _
        exact b3.trans bl2
      have ST2 := Lib.hid st2
      clear st2 bl2 hown2 hgrow2
      go_wp2
      go_roundw
      case rel => exact ⟨k + 1, _, _, by omega, by go_num, ST2.out, hBB.out⟩
      case measure => simp [intOf]; omega
    · obtain rfl : k = n := by omega
      go_wp2
      go_ret2
      exact ⟨rfl, HD.out _ _ _ hst, HB.out⟩

end Go.Proofs.Ytkcoeibbmfkjlaa
