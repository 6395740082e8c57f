/- Package space: Attach, of pages that may be and frames that are in use, walked. -/
import Derived.Test.YtdkaaoboipphcaaSpAttaches
namespace Go.Proofs.Ytdkaaoboipphcaa
open Go.RowKit Go.Shelf

theorem AttsAt.alloc {w : World} {v : Value} {al : List AttV} (h : AttsAt w v al) (o : Obj) : AttsAt (w.alloc o) v al := h.below ((Below.refl _ _).alloc (Nat.le_refl _) _)
theorem AttsAt.drew {w : World} {v : Value} {al : List AttV} (h : AttsAt w v al) : AttsAt w.drew v al := by
  rcases h with h | ⟨h0, b, cap, h1, h2, h3⟩
  · exact .inl h
  · exact .inr ⟨h0, b, cap, h1, h2, fun j hj i u hu => (cell_drew _ _).trans (h3 j hj i u hu)⟩

/-- Attach, ahead of its work: what lies in the world. -/
structure AtF (w Wx : World) (pw lo bw : Nat) (v' : Value) (p g n root : Nat) (S : PtS) (t d h : Int) (al : List AttV) : Prop where
  mem : S.at Wx p g n
  work : WorkAt Wx pw p root t d h v' (.slice none 0 0) 0 []
  own : Wx.ownsRow lo 66 3 v' al.length (cellsA al)
  row : ∀ j, v'.ownBlock = some j → j < pw
  lop : lo ≤ pw
  cw : Wx.cell? ⟨bw, 0, none⟩ = some (.pointer (some ⟨pw, 0, none⟩))
  blk : ∀ k, k < w.heap.size → Wx.heap[k]? = w.heap[k]?
  bel : Below w.heap.size w Wx
  lt : w.heap.size < lo

theorem AttsAt.far {w : World} {gg m cap : Nat} {al : List AttV} (h : AttsAt w (.slice (some ⟨gg, 0, none⟩) m cap) al) {c : Nat} (o : Nat) (v : Value) (hne : gg ≠ c) : AttsAt (w.setCell ⟨c, o, none⟩ v) (.slice (some ⟨gg, 0, none⟩) m cap) al := by
  rcases h with ⟨_, h2⟩ | ⟨h0, b, cap2, h1, h2, h4⟩
  · cases h2
  · have hb : gg = b := by simp at h1; exact h1.1
    exact .inr ⟨h0, b, cap2, h1, by simpa [World.setCell] using h2, fun j hj i u hu => cell_far (h4 j hj i u hu) (by omega)⟩

theorem atA {W w5 : World} {p g n root pw : Nat} {S : PtS} {t d h : Int} {v' : Value} {al : List AttV} (hm : S.at W p g n) (hw : WorkAt w5 pw p root t d h v' (.slice none 0 0) 0 []) (ho : w5.ownsRow (W.heap.size + 1) 66 3 v' al.length (cellsA al)) (hr : ∀ j, v'.ownBlock = some j → j < pw) (hp : W.heap.size < pw) (hb' : Below W.heap.size W w5) :
    AtF W (w5.alloc (.cells #[.pointer (some ⟨pw, 0, none⟩)] 57)) pw (W.heap.size + 1) w5.heap.size v' p g n root S t d h al := by
  exact ⟨MemAt.alloc (MemAt.below hm hb') _, hw.alloc _, ho.alloc _, hr, hp, by simp, fun k hk => (Below.heap_alloc _ _ _ (by have := hb'.size; omega)).trans (hb'.block k hk), hb'.alloc hb'.size _, Nat.lt_succ_self _⟩

section
variable {w : World} {p g n root : Nat} {S : PtS}

set_option maxRecDepth 100000 in
set_option maxHeartbeats 8000000 in
theorem attach_any (hm : S.at w p g n) (hok : S.ok n root) (t d h : Int) (v : Value) (al : List AttV) (hal : al.length ≤ 10) (ha : AttsAt w v al) (page len : Nat) (write : Bool) (fl : Nat) (hfl : fl = if write = true then 7 else 5) (b cap : Nat) (f : Nat → Nat) (hbg : b ≠ g) (h1 : 128 ≤ page) (h2 : page + len ≤ 240) (h3 : 1 ≤ len) (hl : len ≤ 100)
    (hc : ∀ j, j < len → w.cell? ⟨b, j, none⟩ = some (.int .i64 (f j))) (hk : ∀ j, j < len → Kept n root S (f j) ∧ S.R (f j) + len < 1000) (hu : usedN n S.R + len ≤ n) :
    Calls Try.prog 9 #[.pointer (some ⟨p, 0, none⟩), .agg #[.int .i64 root, .int .i64 t, .int .i64 d, .int .i64 h, v], .int .i64 page, .slice (some ⟨b, 0, none⟩) len cap, .bool write] w fun e w' =>
      (e = .returned (.tuple #[.agg #[.int .i64 0, .int .i64 0, .int .i64 0, .int .i64 0, .slice none 0 0], .int .i64 20]) ∧ (∃ i, i < len ∧ S.E (page + i) ≠ (0, 0)) ∧ Below w.heap.size w w') ∨
      (∃ gg cap', e = .returned (.tuple #[.agg #[.int .i64 root, .int .i64 t, .int .i64 d, .int .i64 h, .slice (some ⟨gg, 0, none⟩) (al.length + 1) cap'], .int .i64 0]) ∧ (∀ i, i < len → S.E (page + i) = (0, 0)) ∧ (attK n root S page fl f len).at w' p g n ∧
        (∃ al' : List AttV, al'.Perm (al ++ [(⟨page, by omega⟩, ⟨len, by omega⟩, write)]) ∧ AttsAt w' (.slice (some ⟨gg, 0, none⟩) (al.length + 1) cap') al') ∧ w.heap.size ≤ gg ∧ w.grownBy w' (some g)) := by
  have HFL := Lib.hid hfl
  have HM := Lib.hid hm; have HOK := Lib.hid hok; have HA := Lib.hid ha; have HC := Lib.hid hc; have HK := Lib.hid hk
  have HB1 : Hid (Below w.heap.size w (((((w.alloc (.cells #[.int .i64 root, .int .i64 t, .int .i64 d, .int .i64 h, v] 32)).alloc (.cells #[.int .i64 page] 3)).alloc (.cells #[.slice (some ⟨b, 0, none⟩) len cap] 22)).alloc (.cells #[.bool write] 4)).alloc (.cells #[.int .i64 0, .int .i64 0, .int .i64 0, .int .i64 0, .slice none 0 0] 32))) :=
    (((((Below.refl _ w).alloc (Nat.le_refl _) _).alloc (by simp) _).alloc (by simp; omega) _).alloc (by simp; omega) _).alloc (by simp; omega) _
  have HS1 : Hid ((((((w.alloc (.cells #[.int .i64 root, .int .i64 t, .int .i64 d, .int .i64 h, v] 32)).alloc (.cells #[.int .i64 page] 3)).alloc (.cells #[.slice (some ⟨b, 0, none⟩) len cap] 22)).alloc (.cells #[.bool write] 4)).alloc (.cells #[.int .i64 0, .int .i64 0, .int .i64 0, .int .i64 0, .slice none 0 0] 32)).heap.size = w.heap.size + 5) := by unfold Hid; simp
  have b0 : (((((w.alloc (.cells #[.int .i64 root, .int .i64 t, .int .i64 d, .int .i64 h, v] 32)).alloc (.cells #[.int .i64 page] 3)).alloc (.cells #[.slice (some ⟨b, 0, none⟩) len cap] 22)).alloc (.cells #[.bool write] 4)).alloc (.cells #[.int .i64 0, .int .i64 0, .int .i64 0, .int .i64 0, .slice none 0 0] 32)).heap[w.heap.size]? = some (.cells #[.int .i64 root, .int .i64 t, .int .i64 d, .int .i64 h, v] 32 (0, 0)) := by
    rw [Below.heap_alloc _ _ _ (by simp; omega), Below.heap_alloc _ _ _ (by simp; omega), Below.heap_alloc _ _ _ (by simp; omega), Below.heap_alloc _ _ _ (by simp), heap_alloc_new]
  have b4 := heap_alloc_new ((((w.alloc (.cells #[.int .i64 root, .int .i64 t, .int .i64 d, .int .i64 h, v] 32)).alloc (.cells #[.int .i64 page] 3)).alloc (.cells #[.slice (some ⟨b, 0, none⟩) len cap] 22)).alloc (.cells #[.bool write] 4)) (.cells #[.int .i64 0, .int .i64 0, .int .i64 0, .int .i64 0, .slice none 0 0] 32)
  have b3 := (Boxed.new (((w.alloc (.cells #[.int .i64 root, .int .i64 t, .int .i64 d, .int .i64 h, v] 32)).alloc (.cells #[.int .i64 page] 3)).alloc (.cells #[.slice (some ⟨b, 0, none⟩) len cap] 22)) 4 (.bool write)).alloc (.cells #[.int .i64 0, .int .i64 0, .int .i64 0, .int .i64 0, .slice none 0 0] 32)
  have b2 := ((Boxed.new ((w.alloc (.cells #[.int .i64 root, .int .i64 t, .int .i64 d, .int .i64 h, v] 32)).alloc (.cells #[.int .i64 page] 3)) 22 (.slice (some ⟨b, 0, none⟩) len cap)).alloc (.cells #[.bool write] 4)).alloc (.cells #[.int .i64 0, .int .i64 0, .int .i64 0, .int .i64 0, .slice none 0 0] 32)
  have b1 := (((Boxed.new (w.alloc (.cells #[.int .i64 root, .int .i64 t, .int .i64 d, .int .i64 h, v] 32)) 3 (.int .i64 page)).alloc (.cells #[.slice (some ⟨b, 0, none⟩) len cap] 22)).alloc (.cells #[.bool write] 4)).alloc (.cells #[.int .i64 0, .int .i64 0, .int .i64 0, .int .i64 0, .slice none 0 0] 32)
  simp only [World.size_alloc] at b1 b2 b3 b4
  have HP := Lib.hid (⟨hm.p_lt, hm.g_lt⟩ : _ ∧ _)
  clear hm hok ha hc hk hfl
  go_enter Try.func9, Try.ntmps9
  go_wp2_with fail
  generalize (((((w.alloc (.cells #[.int .i64 root, .int .i64 t, .int .i64 d, .int .i64 h, v] 32)).alloc (.cells #[.int .i64 page] 3)).alloc (.cells #[.slice (some ⟨b, 0, none⟩) len cap] 22)).alloc (.cells #[.bool write] 4)).alloc (.cells #[.int .i64 0, .int .i64 0, .int .i64 0, .int .i64 0, .slice none 0 0] 32)) = W1 at *
  refine (callsIn_wide.1 (checkAttach_in (MemAt.below HM.out HB1.out) HOK.out page len b cap f h1 h2 h3 (fun j hj => ⟨(HB1.out.cell (p := ⟨b, j, none⟩) (World.block_lt_of_cell? w _ (HC.out j hj))).trans (HC.out j hj), (HK.out j hj).1.lt, (HK.out j hj).1.pos⟩))).mono ?_
  rintro e w2 ⟨hor, hB2⟩
  have hsz := HS1.out
  replace b0 := (hB2.block _ (by omega)).trans b0
  replace b1 : Boxed w2 (w.heap.size + 1) 3 (.int .i64 page) := (hB2.block _ (by omega)).trans b1
  replace b2 : Boxed w2 (w.heap.size + 1 + 1) 22 (.slice (some ⟨b, 0, none⟩) len cap) := (hB2.block _ (by omega)).trans b2
  replace b3 : Boxed w2 (w.heap.size + 1 + 1 + 1) 4 (.bool write) := (hB2.block _ (by omega)).trans b3
  replace b4 := (hB2.block _ (by omega)).trans b4
  have HB2 : Hid (Below w.heap.size w w2) := HB1.out.trans (hB2.mono (by omega))
  have HS2 : Hid (w.heap.size + 5 ≤ w2.heap.size) := by have := hB2.size; unfold Hid; omega
  have k0 : w2.cell? ⟨w.heap.size + 1 + 1 + 1 + 1, 0, none⟩ = some (.int .i64 0) := cell_of_heap b4 rfl
  have k1 : w2.cell? ⟨w.heap.size + 1 + 1 + 1 + 1, 1, none⟩ = some (.int .i64 0) := cell_of_heap b4 rfl
  have k2 : w2.cell? ⟨w.heap.size + 1 + 1 + 1 + 1, 2, none⟩ = some (.int .i64 0) := cell_of_heap b4 rfl
  have k3 : w2.cell? ⟨w.heap.size + 1 + 1 + 1 + 1, 3, none⟩ = some (.int .i64 0) := cell_of_heap b4 rfl
  have k4 : w2.cell? ⟨w.heap.size + 1 + 1 + 1 + 1, 4, none⟩ = some (.slice none 0 0) := cell_of_heap b4 rfl
  have HZ := Lib.hid b4
  clear hB2 hsz HB1 HS1 b4
  rcases hor with ⟨rfl, hfree⟩ | ⟨rfl, hex⟩
  · have HF := Lib.hid hfree
    have HMW : Hid (S.at w2 p g n) := MemAt.below HM.out HB2.out
    have HAW : Hid (AttsAt w2 v al) := HA.out.below HB2.out
    have t0 : w2.cell? ⟨w.heap.size, 0, none⟩ = some (.int .i64 root) := cell_of_heap b0 rfl
    have t1 : w2.cell? ⟨w.heap.size, 1, none⟩ = some (.int .i64 t) := cell_of_heap b0 rfl
    have t2 : w2.cell? ⟨w.heap.size, 2, none⟩ = some (.int .i64 d) := cell_of_heap b0 rfl
    have t3 : w2.cell? ⟨w.heap.size, 3, none⟩ = some (.int .i64 h) := cell_of_heap b0 rfl
    have t4 : w2.cell? ⟨w.heap.size, 4, none⟩ = some v := cell_of_heap b0 rfl
    have HB0 := Lib.hid b0; have HBX := Lib.hid (⟨b1, b2, b3⟩ : _ ∧ _ ∧ _)
    clear k0 k1 k2 k3 k4 b0 b1 b2 b3 hfree
    go_wp2_with fail
    refine (begin_any p root t d h v al (by omega) _ HAW.out).mono ?_
    rintro e w5 ⟨pw, v', rfl, hW5, hO5, hR5, hP5, hB5⟩
    have F := Lib.hid (atA HMW.out hW5 hO5 hR5 hP5 hB5)
    clear t0 t1 t2 t3 t4 hW5 hO5 hR5 hP5 hB5
    go_wp2_with fail
    generalize w5.alloc (.cells #[.pointer (some ⟨pw, 0, none⟩)] 57) = Wx at *
    have hs2 := HS2.out
    have hlt := F.out.lt
    have hfacts := att_facts HOK.out (page := page) (fl := fl) (by rw [HFL.out]; cases write <;> decide) f len (fun i hi => HK.out i hi) hu (by omega) (fun q q1 q2 => by have := HF.out (q - page) (by omega); rwa [show page + (q - page) = q by omega] at this)
    rw [HFL.out] at hfacts
    refine (attach_whole F.out.mem F.out.work (by have := F.out.lop; have := HP.out.2; omega) (by have := F.out.lop; have := HP.out.1; omega) (by omega) page len write b cap f _ F.out.lop (by have := World.block_lt_of_cell? w _ (HC.out 0 (by omega)); show b < _; simp only at this; omega) hbg (by have := HP.out.2; omega) (by have := HP.out.1; omega) al hal F.out.own F.out.row (by omega) h3 hl (fun j hj => (F.out.bel.cell (p := ⟨b, j, none⟩) (by have := World.block_lt_of_cell? w _ (HC.out j hj); show b < _; simp only at this; omega)).trans ((HB2.out.cell (p := ⟨b, j, none⟩) (World.block_lt_of_cell? w _ (HC.out j hj))).trans (HC.out j hj))) hfacts _ _ _ _ F.out.cw
      ((F.out.bel.cell (p := ⟨w.heap.size + 1, 0, none⟩) (by show w.heap.size + 1 < _; omega)).trans HBX.out.1.cell) ((F.out.bel.cell (p := ⟨w.heap.size + 1 + 1, 0, none⟩) (by show w.heap.size + 1 + 1 < _; omega)).trans HBX.out.2.1.cell) ((F.out.bel.cell (p := ⟨w.heap.size + 1 + 1 + 1, 0, none⟩) (by show w.heap.size + 1 + 1 + 1 < _; omega)).trans HBX.out.2.2.cell)).mono ?_
    clear hfacts
    rintro e w9 ⟨gg, cap', rfl, hM9, hA9, hgg, hG9⟩
    rw [← HFL.out] at hM9
    have hZ9 : w9.heap[w.heap.size + 1 + 1 + 1 + 1]? = _ := (hG9.low _ (by omega) (by have := HP.out.2; omega)).trans ((F.out.blk _ (by omega)).trans HZ.out)
    have HG9 : Hid (w.grownBy w9 (some g)) := ⟨hG9.os.trans (F.out.bel.os.trans HB2.out.os), hG9.tape.trans (F.out.bel.tape.trans HB2.out.tape), hG9.output.trans (F.out.bel.output.trans HB2.out.output), Nat.le_trans HB2.out.size (Nat.le_trans F.out.bel.size hG9.size), fun k hk hne => (hG9.low k (by omega) (fun e => hne (by rw [e]))).trans ((F.out.blk k (by omega)).trans (HB2.out.block k hk))⟩
    have k0 : w9.cell? ⟨w.heap.size + 1 + 1 + 1 + 1, 0, none⟩ = some (.int .i64 0) := cell_of_heap hZ9 rfl
    have k1 : w9.cell? ⟨w.heap.size + 1 + 1 + 1 + 1, 1, none⟩ = some (.int .i64 0) := cell_of_heap hZ9 rfl
    have k2 : w9.cell? ⟨w.heap.size + 1 + 1 + 1 + 1, 2, none⟩ = some (.int .i64 0) := cell_of_heap hZ9 rfl
    have k3 : w9.cell? ⟨w.heap.size + 1 + 1 + 1 + 1, 3, none⟩ = some (.int .i64 0) := cell_of_heap hZ9 rfl
    have k4 : w9.cell? ⟨w.heap.size + 1 + 1 + 1 + 1, 4, none⟩ = some (.slice none 0 0) := cell_of_heap hZ9 rfl
    have f4 : ∀ i, w9.frozen? ⟨w.heap.size + 1 + 1 + 1 + 1, i, none⟩ = false := fun i => by simp [World.frozen?, hZ9]
    have q0 := f4 0; have q1 := f4 1; have q2 := f4 2; have q3 := f4 3; have q4 := f4 4
    have HGG : Hid (gg ≠ w.heap.size + 1 + 1 + 1 + 1 ∧ w.heap.size ≤ gg) := ⟨by omega, by omega⟩
    have HZ9 := Lib.hid hZ9; have HM9 := Lib.hid hM9; have HA9 := Lib.hid hA9
    clear hZ9 hM9 hA9 hG9 f4 hs2 hlt hgg
    go_wp2
    have hB10 : (((((w9.setCell ⟨w.heap.size + 1 + 1 + 1 + 1, 0, none⟩ (.int .i64 root)).setCell ⟨w.heap.size + 1 + 1 + 1 + 1, 1, none⟩ (.int .i64 t)).setCell ⟨w.heap.size + 1 + 1 + 1 + 1, 2, none⟩ (.int .i64 d)).setCell ⟨w.heap.size + 1 + 1 + 1 + 1, 3, none⟩ (.int .i64 h)).setCell ⟨w.heap.size + 1 + 1 + 1 + 1, 4, none⟩ (.slice (some ⟨gg, 0, none⟩) (al.length + 1) cap')).heap[w.heap.size + 1 + 1 + 1 + 1]? = some (.cells #[.int .i64 root, .int .i64 t, .int .i64 d, .int .i64 h, .slice (some ⟨gg, 0, none⟩) (al.length + 1) cap'] 32 (0, 0)) :=
      heap_setCell_same _ _ _ _ _ _ (heap_setCell_same _ _ _ _ _ _ (heap_setCell_same _ _ _ _ _ _ (heap_setCell_same _ _ _ _ _ _ (heap_setCell_same _ _ _ _ _ _ HZ9.out))))
    have HM10 : Hid ((attK n root S page fl f len).at (((((w9.setCell ⟨w.heap.size + 1 + 1 + 1 + 1, 0, none⟩ (.int .i64 root)).setCell ⟨w.heap.size + 1 + 1 + 1 + 1, 1, none⟩ (.int .i64 t)).setCell ⟨w.heap.size + 1 + 1 + 1 + 1, 2, none⟩ (.int .i64 d)).setCell ⟨w.heap.size + 1 + 1 + 1 + 1, 3, none⟩ (.int .i64 h)).setCell ⟨w.heap.size + 1 + 1 + 1 + 1, 4, none⟩ (.slice (some ⟨gg, 0, none⟩) (al.length + 1) cap')) p g n) := by
      have hp : p ≠ w.heap.size + 1 + 1 + 1 + 1 := by have := HP.out; omega
      have hg : g ≠ w.heap.size + 1 + 1 + 1 + 1 := by have := HP.out; omega
      exact MemAt.setOther (MemAt.setOther (MemAt.setOther (MemAt.setOther (MemAt.setOther HM9.out _ _ _ hp hg) _ _ _ hp hg) _ _ _ hp hg) _ _ _ hp hg) _ _ _ hp hg
    have HG10 : Hid (w.grownBy (((((w9.setCell ⟨w.heap.size + 1 + 1 + 1 + 1, 0, none⟩ (.int .i64 root)).setCell ⟨w.heap.size + 1 + 1 + 1 + 1, 1, none⟩ (.int .i64 t)).setCell ⟨w.heap.size + 1 + 1 + 1 + 1, 2, none⟩ (.int .i64 d)).setCell ⟨w.heap.size + 1 + 1 + 1 + 1, 3, none⟩ (.int .i64 h)).setCell ⟨w.heap.size + 1 + 1 + 1 + 1, 4, none⟩ (.slice (some ⟨gg, 0, none⟩) (al.length + 1) cap')) (some g)) := grown_setNew (grown_setNew (grown_setNew (grown_setNew (grown_setNew HG9.out _ _ (by omega)) _ _ (by omega)) _ _ (by omega)) _ _ (by omega)) _ _ (by omega)
    have HA10 : Hid (∃ al' : List AttV, al'.Perm (al ++ [(⟨page, by omega⟩, ⟨len, by omega⟩, write)]) ∧ AttsAt (((((w9.setCell ⟨w.heap.size + 1 + 1 + 1 + 1, 0, none⟩ (.int .i64 root)).setCell ⟨w.heap.size + 1 + 1 + 1 + 1, 1, none⟩ (.int .i64 t)).setCell ⟨w.heap.size + 1 + 1 + 1 + 1, 2, none⟩ (.int .i64 d)).setCell ⟨w.heap.size + 1 + 1 + 1 + 1, 3, none⟩ (.int .i64 h)).setCell ⟨w.heap.size + 1 + 1 + 1 + 1, 4, none⟩ (.slice (some ⟨gg, 0, none⟩) (al.length + 1) cap')) (.slice (some ⟨gg, 0, none⟩) (al.length + 1) cap') al') := by
      obtain ⟨al', x6, x7⟩ := HA9.out
      refine ⟨al', x6, ?_⟩
      have hne := HGG.out.1
      exact ((((x7.far _ _ hne).far _ _ hne).far _ _ hne).far _ _ hne).far _ _ hne
    generalize (((((w9.setCell ⟨w.heap.size + 1 + 1 + 1 + 1, 0, none⟩ (.int .i64 root)).setCell ⟨w.heap.size + 1 + 1 + 1 + 1, 1, none⟩ (.int .i64 t)).setCell ⟨w.heap.size + 1 + 1 + 1 + 1, 2, none⟩ (.int .i64 d)).setCell ⟨w.heap.size + 1 + 1 + 1 + 1, 3, none⟩ (.int .i64 h)).setCell ⟨w.heap.size + 1 + 1 + 1 + 1, 4, none⟩ (.slice (some ⟨gg, 0, none⟩) (al.length + 1) cap')) = W10 at *
    have s0 : W10.cell? ⟨w.heap.size + 1 + 1 + 1 + 1, 0, none⟩ = some (.int .i64 root) := cell_of_heap hB10 rfl
    have s1 : W10.cell? ⟨w.heap.size + 1 + 1 + 1 + 1, 1, none⟩ = some (.int .i64 t) := cell_of_heap hB10 rfl
    have s2 : W10.cell? ⟨w.heap.size + 1 + 1 + 1 + 1, 2, none⟩ = some (.int .i64 d) := cell_of_heap hB10 rfl
    have s3 : W10.cell? ⟨w.heap.size + 1 + 1 + 1 + 1, 3, none⟩ = some (.int .i64 h) := cell_of_heap hB10 rfl
    have s4 : W10.cell? ⟨w.heap.size + 1 + 1 + 1 + 1, 4, none⟩ = some (.slice (some ⟨gg, 0, none⟩) (al.length + 1) cap') := cell_of_heap hB10 rfl
    exact bodyPost_ret (v := .tuple #[.agg #[.int .i64 root, .int .i64 t, .int .i64 d, .int .i64 h, .slice (some ⟨gg, 0, none⟩) (al.length + 1) cap'], .int .i64 0]) (by simp [results, Try.results9, go_sem, s0, s1, s2, s3, s4]) rfl (.inr ⟨gg, cap', rfl, HF.out, HM10.out, HA10.out, HGG.out.2, HG10.out⟩)
  · have f4 : ∀ i, w2.frozen? ⟨w.heap.size + 1 + 1 + 1 + 1, i, none⟩ = false := fun i => by simp [World.frozen?, HZ.out]
    have q0 := f4 0; have q1 := f4 1; have q2 := f4 2; have q3 := f4 3; have q4 := f4 4
    have HE := Lib.hid hex
    clear hex f4 b0 b1 b2 b3
    go_wp2
    have hB10 : (((((w2.setCell ⟨w.heap.size + 1 + 1 + 1 + 1, 0, none⟩ (.int .i64 0)).setCell ⟨w.heap.size + 1 + 1 + 1 + 1, 1, none⟩ (.int .i64 0)).setCell ⟨w.heap.size + 1 + 1 + 1 + 1, 2, none⟩ (.int .i64 0)).setCell ⟨w.heap.size + 1 + 1 + 1 + 1, 3, none⟩ (.int .i64 0)).setCell ⟨w.heap.size + 1 + 1 + 1 + 1, 4, none⟩ (.slice none 0 0)).heap[w.heap.size + 1 + 1 + 1 + 1]? = some (.cells #[.int .i64 0, .int .i64 0, .int .i64 0, .int .i64 0, .slice none 0 0] 32 (0, 0)) :=
      heap_setCell_same _ _ _ _ _ _ (heap_setCell_same _ _ _ _ _ _ (heap_setCell_same _ _ _ _ _ _ (heap_setCell_same _ _ _ _ _ _ (heap_setCell_same _ _ _ _ _ _ HZ.out))))
    have hBB : Below w.heap.size w (((((w2.setCell ⟨w.heap.size + 1 + 1 + 1 + 1, 0, none⟩ (.int .i64 0)).setCell ⟨w.heap.size + 1 + 1 + 1 + 1, 1, none⟩ (.int .i64 0)).setCell ⟨w.heap.size + 1 + 1 + 1 + 1, 2, none⟩ (.int .i64 0)).setCell ⟨w.heap.size + 1 + 1 + 1 + 1, 3, none⟩ (.int .i64 0)).setCell ⟨w.heap.size + 1 + 1 + 1 + 1, 4, none⟩ (.slice none 0 0)) :=
      ((((HB2.out.setCell (p := ⟨w.heap.size + 1 + 1 + 1 + 1, 0, none⟩) (by show w.heap.size ≤ w.heap.size + 1 + 1 + 1 + 1; omega) _).setCell (p := ⟨w.heap.size + 1 + 1 + 1 + 1, 1, none⟩) (by show w.heap.size ≤ w.heap.size + 1 + 1 + 1 + 1; omega) _).setCell (p := ⟨w.heap.size + 1 + 1 + 1 + 1, 2, none⟩) (by show w.heap.size ≤ w.heap.size + 1 + 1 + 1 + 1; omega) _).setCell (p := ⟨w.heap.size + 1 + 1 + 1 + 1, 3, none⟩) (by show w.heap.size ≤ w.heap.size + 1 + 1 + 1 + 1; omega) _).setCell (p := ⟨w.heap.size + 1 + 1 + 1 + 1, 4, none⟩) (by show w.heap.size ≤ w.heap.size + 1 + 1 + 1 + 1; omega) _
    generalize ((((w2.setCell ⟨w.heap.size + 1 + 1 + 1 + 1, 0, none⟩ (.int .i64 0)).setCell ⟨w.heap.size + 1 + 1 + 1 + 1, 1, none⟩ (.int .i64 0)).setCell ⟨w.heap.size + 1 + 1 + 1 + 1, 2, none⟩ (.int .i64 0)).setCell ⟨w.heap.size + 1 + 1 + 1 + 1, 3, none⟩ (.int .i64 0)).setCell ⟨w.heap.size + 1 + 1 + 1 + 1, 4, none⟩ (.slice none 0 0) = W10 at *
    have s0 : W10.cell? ⟨w.heap.size + 1 + 1 + 1 + 1, 0, none⟩ = some (.int .i64 0) := cell_of_heap hB10 rfl
    have s1 : W10.cell? ⟨w.heap.size + 1 + 1 + 1 + 1, 1, none⟩ = some (.int .i64 0) := cell_of_heap hB10 rfl
    have s2 : W10.cell? ⟨w.heap.size + 1 + 1 + 1 + 1, 2, none⟩ = some (.int .i64 0) := cell_of_heap hB10 rfl
    have s3 : W10.cell? ⟨w.heap.size + 1 + 1 + 1 + 1, 3, none⟩ = some (.int .i64 0) := cell_of_heap hB10 rfl
    have s4 : W10.cell? ⟨w.heap.size + 1 + 1 + 1 + 1, 4, none⟩ = some (.slice none 0 0) := cell_of_heap hB10 rfl
    exact bodyPost_ret (v := .tuple #[.agg #[.int .i64 0, .int .i64 0, .int .i64 0, .int .i64 0, .slice none 0 0], .int .i64 20]) (by simp [results, Try.results9, go_sem, s0, s1, s2, s3, s4]) rfl (.inl ⟨rfl, HE.out, hBB⟩)

end
end Go.Proofs.Ytdkaaoboipphcaa
