/- Package ptable: seek, seekMapped, walked. -/
import Derived.Test.YtdkaaoboipphcaaPtFind
import Derived.WalkMore
import Derived.ScopeJumps
import Derived.Deep.RegionHeld3
namespace Go.Proofs.Ytdkaaoboipphcaa
open Go.RowKit

/-- a block of four cells. -/
structure Boxed4 (w : World) (b : Nat) (t : TypeId) (x0 x1 x2 x3 : Value) : Prop where
  blk : w.heap[b]? = some (.cells #[x0, x1, x2, x3] t (0, 0))
section
variable {w w' : World} {b : Nat} {t : TypeId} {x0 x1 x2 x3 : Value}
theorem Boxed4.new (w : World) (t : TypeId) (x0 x1 x2 x3 : Value) : Boxed4 (w.alloc (.cells #[x0, x1, x2, x3] t)) w.heap.size t x0 x1 x2 x3 := ⟨heap_alloc_new _ _⟩
theorem Boxed4.lt (h : Boxed4 w b t x0 x1 x2 x3) : b < w.heap.size := (Array.getElem?_eq_some_iff.1 h.blk).1
theorem Boxed4.keep (h : Boxed4 w b t x0 x1 x2 x3) (e : w'.heap[b]? = w.heap[b]?) : Boxed4 w' b t x0 x1 x2 x3 := ⟨e.trans h.blk⟩
theorem Boxed4.alloc (h : Boxed4 w b t x0 x1 x2 x3) (o : Obj) : Boxed4 (w.alloc o) b t x0 x1 x2 x3 := h.keep (Below.heap_alloc w o b h.lt)
theorem Boxed4.grown {r : Nat} (h : Boxed4 w b t x0 x1 x2 x3) (hg : w.grownBy w' (some r)) (hne : b ≠ r) : Boxed4 w' b t x0 x1 x2 x3 := h.keep (hg.block b h.lt (fun e => hne (Option.some.inj e)))
theorem Boxed4.below {m : Nat} (h : Boxed4 w b t x0 x1 x2 x3) (hb : Below m w w') (hlt : b < m) : Boxed4 w' b t x0 x1 x2 x3 := h.keep (hb.block b hlt)
theorem Boxed4.c0 (h : Boxed4 w b t x0 x1 x2 x3) : w.cell? ⟨b, 0, none⟩ = some x0 := by simp [World.cell?, h.blk]
theorem Boxed4.c1 (h : Boxed4 w b t x0 x1 x2 x3) : w.cell? ⟨b, 1, none⟩ = some x1 := by simp [World.cell?, h.blk]
theorem Boxed4.c2 (h : Boxed4 w b t x0 x1 x2 x3) : w.cell? ⟨b, 2, none⟩ = some x2 := by simp [World.cell?, h.blk]
theorem Boxed4.c3 (h : Boxed4 w b t x0 x1 x2 x3) : w.cell? ⟨b, 3, none⟩ = some x3 := by simp [World.cell?, h.blk]
theorem Boxed4.fz (h : Boxed4 w b t x0 x1 x2 x3) (o : Nat) : w.frozen? ⟨b, o, none⟩ = false := by simp [World.frozen?, h.blk]
theorem Boxed4.setOther {c o : Nat} (h : Boxed4 w b t x0 x1 x2 x3) (x : Value) (hne : b ≠ c) : Boxed4 (w.setCell ⟨c, o, none⟩ x) b t x0 x1 x2 x3 := h.keep (heap_setCell_other _ _ _ _ hne)
theorem Boxed4.set01 (h : Boxed4 w b t x0 x1 x2 x3) (y0 y1 : Value) : Boxed4 ((w.setCell ⟨b, 0, none⟩ y0).setCell ⟨b, 1, none⟩ y1) b t y0 y1 x2 x3 :=
  ⟨heap_setCell_same _ b 1 _ _ y1 (heap_setCell_same w b 0 _ _ y0 h.blk)⟩
theorem Boxed4.set23 (h : Boxed4 w b t x0 x1 x2 x3) (y2 y3 : Value) : Boxed4 ((w.setCell ⟨b, 2, none⟩ y2).setCell ⟨b, 3, none⟩ y3) b t x0 x1 y2 y3 :=
  ⟨heap_setCell_same _ b 3 _ _ y3 (heap_setCell_same w b 2 _ _ y2 h.blk)⟩
end

theorem exit_jump_ret {l : Nat} {J : Act → World → Prop} {Q : Exit → Act → World → Prop} {a : Act} {w : World} : Exit.jump l J Q .ret a w = Q .ret a w := rfl

theorem MemAt.below2 {w w' : World} {p g n : Nat} {R : Nat → Int} {B : Nat → List UInt8} {m : Nat} (h : MemAt w p g n R B) (hb : Below m w w') (hm : m = w.heap.size := by rfl) : MemAt w' p g n R B := by subst hm; exact h.below hb

/-- what stands where seek's ways meet again. -/
def SeekJ (a0 : Option Addr) (root page e v0 v1 v2 v3 : Int) (w : World) (a : Act) (w' : World) : Prop :=
  ∃ u10 u11 u12 u13 u14 u15 u16 u17 u18 u19 u20 u21 u22 u23 u24 u25 u26 u27 u28 u29 u30 u31 u32 u33 u34 u35 u36 u37 u38 u39 u40 u41 u42 u43 : Value, a = { tmps := #[.pointer a0, .int .i64 root, .int .i64 page, undef, undef, undef, .pointer (some ⟨w.heap.size, 0, none⟩), .int .i64 0, .pointer (some ⟨w.heap.size + 1, 0, none⟩), .int .i64 e, u10, u11, u12, u13, u14, u15, u16, u17, u18, u19, u20, u21, u22, u23, u24, u25, u26, u27, u28, u29, u30, u31, u32, u33, u34, u35, u36, u37, u38, u39, u40, u41, u42, u43], defers := [] } ∧
    Boxed4 w' w.heap.size 102 (.int .i64 0) (.int .i64 0) (.int .i64 0) (.int .i64 0) ∧ Boxed4 w' (w.heap.size + 1) 102 (.int .i64 v0) (.int .i64 v1) (.int .i64 v2) (.int .i64 v3) ∧ Below w.heap.size w w'

section
variable {w : World} {p g n : Nat} {R : Nat → Int} {B : Nat → List UInt8}

theorem entries_box (a : Option Addr) (k : Int) (w : World) :
    Calls Try.prog 61 #[.pointer a, .int .i64 k] w fun e w' => ∃ Bm Bt : Nat, e = .returned (.func (.func 81) #[] #[.pointer (some ⟨Bm, 0, none⟩), .pointer (some ⟨Bt, 0, none⟩)]) ∧ w'.cell? ⟨Bm, 0, none⟩ = some (.pointer a) ∧ w'.cell? ⟨Bt, 0, none⟩ = some (.int .i64 k) ∧ Below w.heap.size w w' := by
  refine (entries_any a k w).mono ?_
  rintro e w' ⟨rfl, rfl⟩
  have ct := (Boxed.new (w.alloc (.cells #[.pointer a] 24)) 3 (.int .i64 k)).cell
  rw [World.size_alloc] at ct
  exact ⟨_, _, rfl, ((Boxed.new w 24 (.pointer a)).alloc _).cell, ct, ((Below.refl _ _).alloc (Nat.le_refl _) _).alloc (by simp) _⟩

set_option maxRecDepth 100000 in
set_option maxHeartbeats 1000000 in
theorem seek_nil (root page : Int) (w : World) :
    Calls Try.prog 64 #[.pointer none, .int .i64 root, .int .i64 page] w fun e w' => e = .returned (.tuple #[.agg #[.int .i64 0, .int .i64 0, .int .i64 0, .int .i64 0], .int .i64 1]) ∧ Below w.heap.size w w' := by
  go_enter Try.func64, Try.ntmps64
  go_wp2
  refine wp_scope_jumps 0 (SeekJ none root page 1 0 0 0 0 w) (fun _ _ => 0) (by rfl) ?first ?pass
  case first =>
    have b0 := (Boxed4.new w 102 (.int .i64 0) (.int .i64 0) (.int .i64 0) (.int .i64 0)).alloc (.cells #[.int .i64 0, .int .i64 0, .int .i64 0, .int .i64 0] 102)
    have b1 := Boxed4.new (w.alloc (.cells #[.int .i64 0, .int .i64 0, .int .i64 0, .int .i64 0] 102)) 102 (.int .i64 0) (.int .i64 0) (.int .i64 0) (.int .i64 0)
    rw [World.size_alloc] at b1
    have HB := Lib.hid (((Below.refl _ w).alloc (Nat.le_refl _) (.cells #[.int .i64 0, .int .i64 0, .int .i64 0, .int .i64 0] 102)).alloc (by simp) (.cells #[.int .i64 0, .int .i64 0, .int .i64 0, .int .i64 0] 102))
    have HB0 := Lib.hid b0; have HB1 := Lib.hid b1
    clear b0 b1
    go_wp2_with fail
    refine (checkRoot_nil _ _).mono ?_
    rintro e w' ⟨rfl, rfl⟩
    go_wp2
    go_step3
    exact ⟨rfl, _, _, _, _, _, _, _, _, _, _, _, _, _, _, _, _, _, _, _, _, _, _, _, _, _, _, _, _, _, _, _, _, _, _, rfl, HB0.out, HB1.out, HB.out⟩
  case pass =>
    rintro a w1 ⟨u10, u11, u12, u13, u14, u15, u16, u17, u18, u19, u20, u21, u22, u23, u24, u25, u26, u27, u28, u29, u30, u31, u32, u33, u34, u35, u36, u37, u38, u39, u40, u41, u42, u43, rfl, b0, b1, hB⟩
    have x0 := b1.c0; have x1 := b1.c1; have x2 := b1.c2; have x3 := b1.c3
    have y0 := b0.c0; have y1 := b0.c1; have y2 := b0.c2; have y3 := b0.c3
    have z0 := b0.fz 0; have z1 := b0.fz 1; have z2 := b0.fz 2; have z3 := b0.fz 3
    have HB := Lib.hid hB; have HB0 := Lib.hid b0
    clear hB b0 b1
    go_wp2
    have bs := (HB0.out.set01 (.int .i64 0) (.int .i64 0)).set23 (.int .i64 0) (.int .i64 0)
    have s0 := bs.c0; have s1 := bs.c1; have s2 := bs.c2; have s3 := bs.c3
    rw [exit_jump_ret]
    refine bodyPost_ret (v := .tuple #[.agg #[.int .i64 0, .int .i64 0, .int .i64 0, .int .i64 0], .int .i64 1]) (by simp [results, Try.results64, go_sem, s0, s1, s2, s3]) rfl ⟨rfl, ?_⟩
    exact (((HB.out.setCell (p := ⟨w.heap.size, 0, none⟩) (Nat.le_refl _) _).setCell (p := ⟨w.heap.size, 1, none⟩) (Nat.le_refl _) _).setCell (p := ⟨w.heap.size, 2, none⟩) (Nat.le_refl _) _).setCell (p := ⟨w.heap.size, 3, none⟩) (Nat.le_refl _) _

set_option maxRecDepth 100000 in
set_option maxHeartbeats 1000000 in
theorem seek_no (h : MemAt w p g n R B) (root page : Int) (hl : liveB n R root = false) :
    Calls Try.prog 64 #[.pointer (some ⟨p, 0, none⟩), .int .i64 root, .int .i64 page] w fun e w' => e = .returned (.tuple #[.agg #[.int .i64 0, .int .i64 0, .int .i64 0, .int .i64 0], .int .i64 10]) ∧ Below w.heap.size w w' := by
  have HL := Lib.hid hl; clear hl
  go_enter Try.func64, Try.ntmps64
  go_wp2
  refine wp_scope_jumps 0 (SeekJ (some ⟨p, 0, none⟩) root page 10 0 0 0 0 w) (fun _ _ => 0) (by rfl) ?first ?pass
  case first =>
    have b0 := (Boxed4.new w 102 (.int .i64 0) (.int .i64 0) (.int .i64 0) (.int .i64 0)).alloc (.cells #[.int .i64 0, .int .i64 0, .int .i64 0, .int .i64 0] 102)
    have b1 := Boxed4.new (w.alloc (.cells #[.int .i64 0, .int .i64 0, .int .i64 0, .int .i64 0] 102)) 102 (.int .i64 0) (.int .i64 0) (.int .i64 0) (.int .i64 0)
    rw [World.size_alloc] at b1
    have HB := Lib.hid (((Below.refl _ w).alloc (Nat.le_refl _) (.cells #[.int .i64 0, .int .i64 0, .int .i64 0, .int .i64 0] 102)).alloc (by simp) (.cells #[.int .i64 0, .int .i64 0, .int .i64 0, .int .i64 0] 102))
    have HB0 := Lib.hid b0; have HB1 := Lib.hid b1
    clear b0 b1
    go_wp2_with fail
    generalize ((w.alloc (.cells #[.int .i64 0, .int .i64 0, .int .i64 0, .int .i64 0] 102)).alloc (.cells #[.int .i64 0, .int .i64 0, .int .i64 0, .int .i64 0] 102)) = W2 at *
    refine (checkRoot_no (h.below2 HB.out) _ HL.out).mono ?_
    rintro e w3 ⟨rfl, hB3⟩
    have HB3 : Hid (Below w.heap.size w w3) := HB.out.trans (hB3.mono HB.out.size)
    have HB03 := Lib.hid (HB0.out.below hB3 HB0.out.lt); have HB13 := Lib.hid (HB1.out.below hB3 HB1.out.lt)
    clear hB3
    go_wp2
    go_step3
    exact ⟨rfl, _, _, _, _, _, _, _, _, _, _, _, _, _, _, _, _, _, _, _, _, _, _, _, _, _, _, _, _, _, _, _, _, _, _, rfl, HB03.out, HB13.out, HB3.out⟩
  case pass =>
    rintro a w1 ⟨u10, u11, u12, u13, u14, u15, u16, u17, u18, u19, u20, u21, u22, u23, u24, u25, u26, u27, u28, u29, u30, u31, u32, u33, u34, u35, u36, u37, u38, u39, u40, u41, u42, u43, rfl, b0, b1, hB⟩
    have x0 := b1.c0; have x1 := b1.c1; have x2 := b1.c2; have x3 := b1.c3
    have y0 := b0.c0; have y1 := b0.c1; have y2 := b0.c2; have y3 := b0.c3
    have z0 := b0.fz 0; have z1 := b0.fz 1; have z2 := b0.fz 2; have z3 := b0.fz 3
    have HB := Lib.hid hB; have HB0 := Lib.hid b0
    clear hB b0 b1
    go_wp2
    have bs := (HB0.out.set01 (.int .i64 0) (.int .i64 0)).set23 (.int .i64 0) (.int .i64 0)
    have s0 := bs.c0; have s1 := bs.c1; have s2 := bs.c2; have s3 := bs.c3
    rw [exit_jump_ret]
    refine bodyPost_ret (v := .tuple #[.agg #[.int .i64 0, .int .i64 0, .int .i64 0, .int .i64 0], .int .i64 10]) (by simp [results, Try.results64, go_sem, s0, s1, s2, s3]) rfl ⟨rfl, ?_⟩
    exact (((HB.out.setCell (p := ⟨w.heap.size, 0, none⟩) (Nat.le_refl _) _).setCell (p := ⟨w.heap.size, 1, none⟩) (Nat.le_refl _) _).setCell (p := ⟨w.heap.size, 2, none⟩) (Nat.le_refl _) _).setCell (p := ⟨w.heap.size, 3, none⟩) (Nat.le_refl _) _

set_option maxRecDepth 100000 in
set_option maxHeartbeats 1000000 in
theorem seek_arg (h : MemAt w p g n R B) (root page : Int) (hl : liveB n R root = true) (hp : belowB 256 page = false) :
    Calls Try.prog 64 #[.pointer (some ⟨p, 0, none⟩), .int .i64 root, .int .i64 page] w fun e w' => e = .returned (.tuple #[.agg #[.int .i64 0, .int .i64 0, .int .i64 0, .int .i64 0], .int .i64 2]) ∧ Below w.heap.size w w' := by
  have HL := Lib.hid hl; clear hl
  have HP := Lib.hid hp; clear hp
  go_enter Try.func64, Try.ntmps64
  go_wp2
  refine wp_scope_jumps 0 (SeekJ (some ⟨p, 0, none⟩) root page 2 0 0 0 0 w) (fun _ _ => 0) (by rfl) ?first ?pass
  case first =>
    have b0 := (Boxed4.new w 102 (.int .i64 0) (.int .i64 0) (.int .i64 0) (.int .i64 0)).alloc (.cells #[.int .i64 0, .int .i64 0, .int .i64 0, .int .i64 0] 102)
    have b1 := Boxed4.new (w.alloc (.cells #[.int .i64 0, .int .i64 0, .int .i64 0, .int .i64 0] 102)) 102 (.int .i64 0) (.int .i64 0) (.int .i64 0) (.int .i64 0)
    rw [World.size_alloc] at b1
    have HB := Lib.hid (((Below.refl _ w).alloc (Nat.le_refl _) (.cells #[.int .i64 0, .int .i64 0, .int .i64 0, .int .i64 0] 102)).alloc (by simp) (.cells #[.int .i64 0, .int .i64 0, .int .i64 0, .int .i64 0] 102))
    have HB0 := Lib.hid b0; have HB1 := Lib.hid b1
    clear b0 b1
    go_wp2_with fail
    generalize ((w.alloc (.cells #[.int .i64 0, .int .i64 0, .int .i64 0, .int .i64 0] 102)).alloc (.cells #[.int .i64 0, .int .i64 0, .int .i64 0, .int .i64 0] 102)) = W2 at *
    refine (checkRoot_ok (h.below2 HB.out) _ HL.out).mono ?_
    rintro e w3 ⟨rfl, hB3⟩
    have HB3 : Hid (Below w.heap.size w w3) := HB.out.trans (hB3.mono HB.out.size)
    have HB03 := Lib.hid (HB0.out.below hB3 HB0.out.lt); have HB13 := Lib.hid (HB1.out.below hB3 HB1.out.lt)
    clear hB3
    go_wp2_with fail
    refine (pbelow_any _ _ _).mono ?_
    rintro e w' ⟨rfl, rfl⟩
    rw [HP.out]
    go_wp2
    go_step3
    exact ⟨rfl, _, _, _, _, _, _, _, _, _, _, _, _, _, _, _, _, _, _, _, _, _, _, _, _, _, _, _, _, _, _, _, _, _, _, rfl, HB03.out, HB13.out, HB3.out⟩
  case pass =>
    rintro a w1 ⟨u10, u11, u12, u13, u14, u15, u16, u17, u18, u19, u20, u21, u22, u23, u24, u25, u26, u27, u28, u29, u30, u31, u32, u33, u34, u35, u36, u37, u38, u39, u40, u41, u42, u43, rfl, b0, b1, hB⟩
    have x0 := b1.c0; have x1 := b1.c1; have x2 := b1.c2; have x3 := b1.c3
    have y0 := b0.c0; have y1 := b0.c1; have y2 := b0.c2; have y3 := b0.c3
    have z0 := b0.fz 0; have z1 := b0.fz 1; have z2 := b0.fz 2; have z3 := b0.fz 3
    have HB := Lib.hid hB; have HB0 := Lib.hid b0
    clear hB b0 b1
    go_wp2
    have bs := (HB0.out.set01 (.int .i64 0) (.int .i64 0)).set23 (.int .i64 0) (.int .i64 0)
    have s0 := bs.c0; have s1 := bs.c1; have s2 := bs.c2; have s3 := bs.c3
    rw [exit_jump_ret]
    refine bodyPost_ret (v := .tuple #[.agg #[.int .i64 0, .int .i64 0, .int .i64 0, .int .i64 0], .int .i64 2]) (by simp [results, Try.results64, go_sem, s0, s1, s2, s3]) rfl ⟨rfl, ?_⟩
    exact (((HB.out.setCell (p := ⟨w.heap.size, 0, none⟩) (Nat.le_refl _) _).setCell (p := ⟨w.heap.size, 1, none⟩) (Nat.le_refl _) _).setCell (p := ⟨w.heap.size, 2, none⟩) (Nat.le_refl _) _).setCell (p := ⟨w.heap.size, 3, none⟩) (Nat.le_refl _) _

set_option maxRecDepth 100000 in
set_option maxHeartbeats 1000000 in
theorem seek_none (h : MemAt w p g n R B) (k i : Nat) (page : Int) (hk : k < n) (hr : 0 < R k) (hp0 : 0 ≤ page) (hp1 : page < 256) (hi : i < 16) (hpi : page / 16 = i) (hz : entP (B k) i = (0, 0)) :
    Calls Try.prog 64 #[.pointer (some ⟨p, 0, none⟩), .int .i64 k, .int .i64 page] w fun e w' => e = .returned (.tuple #[.agg #[.int .i64 0, .int .i64 0, .int .i64 0, .int .i64 0], .int .i64 0]) ∧ Below w.heap.size w w' := by
  have HL : Hid (liveB n R k = true) := by unfold Hid; simp [liveB, hk, hr]
  have HP : Hid (belowB 256 page = true) := by unfold Hid belowB; simp; omega
  have HI := Lib.hid hpi
  clear hpi
  have HZ := Lib.hid hz; clear hz
  go_enter Try.func64, Try.ntmps64
  go_wp2
  refine wp_scope_jumps 0 (SeekJ (some ⟨p, 0, none⟩) k page 0 0 0 0 0 w) (fun _ _ => 0) (by rfl) ?first ?pass
  case first =>
    have b0 := (Boxed4.new w 102 (.int .i64 0) (.int .i64 0) (.int .i64 0) (.int .i64 0)).alloc (.cells #[.int .i64 0, .int .i64 0, .int .i64 0, .int .i64 0] 102)
    have b1 := Boxed4.new (w.alloc (.cells #[.int .i64 0, .int .i64 0, .int .i64 0, .int .i64 0] 102)) 102 (.int .i64 0) (.int .i64 0) (.int .i64 0) (.int .i64 0)
    rw [World.size_alloc] at b1
    have HB := Lib.hid (((Below.refl _ w).alloc (Nat.le_refl _) (.cells #[.int .i64 0, .int .i64 0, .int .i64 0, .int .i64 0] 102)).alloc (by simp) (.cells #[.int .i64 0, .int .i64 0, .int .i64 0, .int .i64 0] 102))
    have HB0 := Lib.hid b0; have HB1 := Lib.hid b1
    clear b0 b1
    go_wp2_with fail
    generalize ((w.alloc (.cells #[.int .i64 0, .int .i64 0, .int .i64 0, .int .i64 0] 102)).alloc (.cells #[.int .i64 0, .int .i64 0, .int .i64 0, .int .i64 0] 102)) = W2 at *
    refine (checkRoot_ok (h.below2 HB.out) _ HL.out).mono ?_
    rintro e w3 ⟨rfl, hB3⟩
    have HB3 : Hid (Below w.heap.size w w3) := HB.out.trans (hB3.mono HB.out.size)
    have HB03 := Lib.hid (HB0.out.below hB3 HB0.out.lt); have HB13 := Lib.hid (HB1.out.below hB3 HB1.out.lt)
    clear hB3
    go_wp2_with fail
    refine (pbelow_any _ _ _).mono ?_
    rintro e w' ⟨rfl, rfl⟩
    rw [HP.out]
    go_wp2_with fail
    refine (entries_any _ _ _).mono ?_
    rintro e w' ⟨rfl, rfl⟩
    have cm := ((Boxed.new w3 24 (.pointer (some ⟨p, 0, none⟩))).alloc (.cells #[.int .i64 k] 3)).cell
    have ct := (Boxed.new (w3.alloc (.cells #[.pointer (some ⟨p, 0, none⟩)] 24)) 3 (.int .i64 k)).cell
    rw [World.size_alloc] at ct
    have hB4 : Hid (Below w.heap.size w ((w3.alloc (.cells #[.pointer (some ⟨p, 0, none⟩)] 24)).alloc (.cells #[.int .i64 k] 3))) := (HB3.out.alloc HB3.out.size _).alloc (by have := HB3.out.size; simp; omega) _
    have HB04 := Lib.hid ((HB03.out.alloc (.cells #[.pointer (some ⟨p, 0, none⟩)] 24)).alloc (.cells #[.int .i64 k] 3))
    have HB14 := Lib.hid ((HB13.out.alloc (.cells #[.pointer (some ⟨p, 0, none⟩)] 24)).alloc (.cells #[.int .i64 k] 3))
    have hs4 : Hid (w3.heap.size + 1 < ((w3.alloc (.cells #[.pointer (some ⟨p, 0, none⟩)] 24)).alloc (.cells #[.int .i64 k] 3)).heap.size) := by unfold Hid; simp
    have CM := Lib.hid cm; have CT := Lib.hid ct
    clear cm ct
    generalize (w3.alloc (.cells #[.pointer (some ⟨p, 0, none⟩)] 24)).alloc (.cells #[.int .i64 k] 3) = w4 at *
    generalize w3.heap.size = s3 at *
    go_wp2_with fail
    refine (upper_any _ _ hp0 hp1 _).mono ?_
    rintro e w5 ⟨rfl, hB5⟩
    rw [HI.out]
    have CM5 := Lib.hid ((hB5.cell (p := ⟨s3, 0, none⟩) (by have := hs4.out; show s3 < _; omega)).trans CM.out)
    have CT5 := Lib.hid ((hB5.cell (p := ⟨s3 + 1, 0, none⟩) hs4.out).trans CT.out)
    have HB5 : Hid (Below w.heap.size w w5) := hB4.out.trans (hB5.mono hB4.out.size)
    have HB05 := Lib.hid (HB04.out.below hB5 HB04.out.lt); have HB15 := Lib.hid (HB14.out.below hB5 HB14.out.lt)
    clear hB5
    go_wp2_with fail
    refine (pfind_any (h.below2 HB5.out) k i hk hr hi s3 (s3 + 1) CM5.out CT5.out).mono ?_
    rintro e w6 ⟨rfl, hB6⟩
    rw [HZ.out]
    have HB6 : Hid (Below w.heap.size w w6) := HB5.out.trans (hB6.mono HB5.out.size)
    have b06 := HB05.out.below hB6 HB05.out.lt
    have b16 := HB15.out.below hB6 HB15.out.lt
    have q0 := b16.c0; have q1 := b16.c1; have q2 := b16.fz 0; have q3 := b16.fz 1
    have HB06 := Lib.hid b06; have HB16 := Lib.hid b16
    clear hB6 b06 b16
    go_wp2
    go_step3
    exact ⟨rfl, _, _, _, _, _, _, _, _, _, _, _, _, _, _, _, _, _, _, _, _, _, _, _, _, _, _, _, _, _, _, _, _, _, _, rfl, (HB06.out.setOther _ (by omega)).setOther _ (by omega), HB16.out.set01 _ _, (HB6.out.setCell (p := ⟨w.heap.size + 1, 0, none⟩) (by simp) _).setCell (p := ⟨w.heap.size + 1, 1, none⟩) (by simp) _⟩
  case pass =>
    rintro a w1 ⟨u10, u11, u12, u13, u14, u15, u16, u17, u18, u19, u20, u21, u22, u23, u24, u25, u26, u27, u28, u29, u30, u31, u32, u33, u34, u35, u36, u37, u38, u39, u40, u41, u42, u43, rfl, b0, b1, hB⟩
    have x0 := b1.c0; have x1 := b1.c1; have x2 := b1.c2; have x3 := b1.c3
    have y0 := b0.c0; have y1 := b0.c1; have y2 := b0.c2; have y3 := b0.c3
    have z0 := b0.fz 0; have z1 := b0.fz 1; have z2 := b0.fz 2; have z3 := b0.fz 3
    have HB := Lib.hid hB; have HB0 := Lib.hid b0
    clear hB b0 b1
    go_wp2
    have bs := (HB0.out.set01 (.int .i64 0) (.int .i64 0)).set23 (.int .i64 0) (.int .i64 0)
    have s0 := bs.c0; have s1 := bs.c1; have s2 := bs.c2; have s3 := bs.c3
    rw [exit_jump_ret]
    refine bodyPost_ret (v := .tuple #[.agg #[.int .i64 0, .int .i64 0, .int .i64 0, .int .i64 0], .int .i64 0]) (by simp [results, Try.results64, go_sem, s0, s1, s2, s3]) rfl ⟨rfl, ?_⟩
    exact (((HB.out.setCell (p := ⟨w.heap.size, 0, none⟩) (Nat.le_refl _) _).setCell (p := ⟨w.heap.size, 1, none⟩) (Nat.le_refl _) _).setCell (p := ⟨w.heap.size, 2, none⟩) (Nat.le_refl _) _).setCell (p := ⟨w.heap.size, 3, none⟩) (Nat.le_refl _) _

set_option maxRecDepth 100000 in
set_option maxHeartbeats 2000000 in
theorem seek_ok (h : MemAt w p g n R B) (k i j F t : Nat) (page : Int) (hk : k < n) (hr : 0 < R k) (hp0 : 0 ≤ page) (hp1 : page < 256) (hi : i < 16) (hj : j < 16) (hpi : page / 16 = i) (hpj : page % 16 = j) (hz : entP (B k) i = (F, t)) (hF : F ≠ 0) (ht : t < n) (htr : 0 < R t) :
    Calls Try.prog 64 #[.pointer (some ⟨p, 0, none⟩), .int .i64 k, .int .i64 page] w fun e w' => e = .returned (.tuple #[.agg #[.int .i64 F, .int .i64 t, .int .i64 (entP (B t) j).1, .int .i64 (entP (B t) j).2], .int .i64 0]) ∧ Below w.heap.size w w' := by
  have HL : Hid (liveB n R k = true) := by unfold Hid; simp [liveB, hk, hr]
  have HP : Hid (belowB 256 page = true) := by unfold Hid belowB; simp; omega
  have HI := Lib.hid hpi; have HJ := Lib.hid hpj
  clear hpi hpj
  have HZ := Lib.hid hz; clear hz
  have hF1 : ((F : Int) == 0) = false := by rw [beq_eq_false_iff_ne]; omega
  go_enter Try.func64, Try.ntmps64
  go_wp2
  refine wp_scope_jumps 0 (fun _ _ => False) (fun _ _ => 0) (by rfl) ?first ?pass
  case first =>
    have b0 := (Boxed4.new w 102 (.int .i64 0) (.int .i64 0) (.int .i64 0) (.int .i64 0)).alloc (.cells #[.int .i64 0, .int .i64 0, .int .i64 0, .int .i64 0] 102)
    have b1 := Boxed4.new (w.alloc (.cells #[.int .i64 0, .int .i64 0, .int .i64 0, .int .i64 0] 102)) 102 (.int .i64 0) (.int .i64 0) (.int .i64 0) (.int .i64 0)
    rw [World.size_alloc] at b1
    have HB := Lib.hid (((Below.refl _ w).alloc (Nat.le_refl _) (.cells #[.int .i64 0, .int .i64 0, .int .i64 0, .int .i64 0] 102)).alloc (by simp) (.cells #[.int .i64 0, .int .i64 0, .int .i64 0, .int .i64 0] 102))
    have HB0 := Lib.hid b0; have HB1 := Lib.hid b1
    clear b0 b1
    go_wp2_with fail
    generalize ((w.alloc (.cells #[.int .i64 0, .int .i64 0, .int .i64 0, .int .i64 0] 102)).alloc (.cells #[.int .i64 0, .int .i64 0, .int .i64 0, .int .i64 0] 102)) = W2 at *
    refine (checkRoot_ok (h.below2 HB.out) _ HL.out).mono ?_
    rintro e w3 ⟨rfl, hB3⟩
    have HB3 : Hid (Below w.heap.size w w3) := HB.out.trans (hB3.mono HB.out.size)
    have HB03 := Lib.hid (HB0.out.below hB3 HB0.out.lt); have HB13 := Lib.hid (HB1.out.below hB3 HB1.out.lt)
    clear hB3
    go_wp2_with fail
    refine (pbelow_any _ _ _).mono ?_
    rintro e w' ⟨rfl, rfl⟩
    rw [HP.out]
    go_wp2_with fail
    refine (entries_any _ _ _).mono ?_
    rintro e w' ⟨rfl, rfl⟩
    have cm := ((Boxed.new w3 24 (.pointer (some ⟨p, 0, none⟩))).alloc (.cells #[.int .i64 k] 3)).cell
    have ct := (Boxed.new (w3.alloc (.cells #[.pointer (some ⟨p, 0, none⟩)] 24)) 3 (.int .i64 k)).cell
    rw [World.size_alloc] at ct
    have hB4 : Hid (Below w.heap.size w ((w3.alloc (.cells #[.pointer (some ⟨p, 0, none⟩)] 24)).alloc (.cells #[.int .i64 k] 3))) := (HB3.out.alloc HB3.out.size _).alloc (by have := HB3.out.size; simp; omega) _
    have HB04 := Lib.hid ((HB03.out.alloc (.cells #[.pointer (some ⟨p, 0, none⟩)] 24)).alloc (.cells #[.int .i64 k] 3))
    have HB14 := Lib.hid ((HB13.out.alloc (.cells #[.pointer (some ⟨p, 0, none⟩)] 24)).alloc (.cells #[.int .i64 k] 3))
    have hs4 : Hid (w3.heap.size + 1 < ((w3.alloc (.cells #[.pointer (some ⟨p, 0, none⟩)] 24)).alloc (.cells #[.int .i64 k] 3)).heap.size) := by unfold Hid; simp
    have CM := Lib.hid cm; have CT := Lib.hid ct
    clear cm ct
    generalize (w3.alloc (.cells #[.pointer (some ⟨p, 0, none⟩)] 24)).alloc (.cells #[.int .i64 k] 3) = w4 at *
    generalize w3.heap.size = s3 at *
    go_wp2_with fail
    refine (upper_any _ _ hp0 hp1 _).mono ?_
    rintro e w5 ⟨rfl, hB5⟩
    rw [HI.out]
    have CM5 := Lib.hid ((hB5.cell (p := ⟨s3, 0, none⟩) (by have := hs4.out; show s3 < _; omega)).trans CM.out)
    have CT5 := Lib.hid ((hB5.cell (p := ⟨s3 + 1, 0, none⟩) hs4.out).trans CT.out)
    have HB5 : Hid (Below w.heap.size w w5) := hB4.out.trans (hB5.mono hB4.out.size)
    have HB05 := Lib.hid (HB04.out.below hB5 HB04.out.lt); have HB15 := Lib.hid (HB14.out.below hB5 HB14.out.lt)
    clear hB5
    go_wp2_with fail
    refine (pfind_any (h.below2 HB5.out) k i hk hr hi s3 (s3 + 1) CM5.out CT5.out).mono ?_
    rintro e w6 ⟨rfl, hB6⟩
    rw [HZ.out]
    have HB6 : Hid (Below w.heap.size w w6) := HB5.out.trans (hB6.mono HB5.out.size)
    have b06 := HB05.out.below hB6 HB05.out.lt
    have b16 := HB15.out.below hB6 HB15.out.lt
    have q0 := b16.c0; have q1 := b16.c1; have q2 := b16.fz 0; have q3 := b16.fz 1
    have HB06 := Lib.hid b06; have HB16 := Lib.hid b16
    clear hB6 b06 b16
    have hgl := h.g_lt
    go_wp2
    have bR7 := (HB06.out.setOther (c := w.heap.size + 1) (o := 0) (.int .i64 F) (by omega)).setOther (c := w.heap.size + 1) (o := 1) (.int .i64 t) (by omega)
    have bP7 := HB16.out.set01 (.int .i64 F) (.int .i64 t)
    have HB7 := Lib.hid ((HB6.out.setCell (p := ⟨w.heap.size + 1, 0, none⟩) (by simp) (.int .i64 F)).setCell (p := ⟨w.heap.size + 1, 1, none⟩) (by simp) (.int .i64 t))
    generalize (w6.setCell ⟨w.heap.size + 1, 0, none⟩ (.int .i64 F)).setCell ⟨w.heap.size + 1, 1, none⟩ (.int .i64 t) = w7 at *
    clear q0 q1 q2 q3
    have q0 := bP7.c0; have q1 := bP7.c1; have q2 := bP7.c2; have q3 := bP7.c3
    have f2 := bP7.fz 2; have f3 := bP7.fz 3
    have HR7 := Lib.hid bR7; have HP7 := Lib.hid bP7
    have HM7 := Lib.hid (h.below2 HB7.out)
    clear bR7 bP7
    go_region_held3 (fun w' => w'.cell? ⟨w.heap.size + 1, 1, none⟩ = some (.int .i64 t)) (first | exact q1 | exact s8 | exact s9 | exact s10 | exact (HP10.out.set23 _ _).c1 | go_keep) (first
      | (go_at_call 61; refine (entries_box (some ⟨p, 0, none⟩) t _).mono ?_; rintro e w8 ⟨Bm, Bt, rfl, cm8, ct8, hB8⟩; have HB8 : Hid (Below w.heap.size w w8) := HB7.out.trans ((drew_below hB8).mono HB7.out.size); have HR8 := Lib.hid (HR7.out.below (drew_below hB8) HR7.out.lt); have HP8 := Lib.hid (HP7.out.below (drew_below hB8) HP7.out.lt); have s8 := HP8.out.c1; have CM8 := Lib.hid cm8; have CT8 := Lib.hid ct8; clear hB8 cm8 ct8)
      | (go_at_call 87; refine (lower_any t page hp0 hp1 _).mono ?_; rintro e w9 ⟨rfl, hB9⟩; rw [HJ.out]; have HB9 : Hid (Below w.heap.size w w9) := HB8.out.trans (hB9.mono HB8.out.size); have HR9 := Lib.hid (HR8.out.below hB9 HR8.out.lt); have HP9 := Lib.hid (HP8.out.below hB9 HP8.out.lt); have s9 := HP9.out.c1; have CM9 := Lib.hid ((hB9.cell (p := ⟨Bm, 0, none⟩) (World.block_lt_of_cell? w8 _ CM8.out)).trans CM8.out); have CT9 := Lib.hid ((hB9.cell (p := ⟨Bt, 0, none⟩) (World.block_lt_of_cell? w8 _ CT8.out)).trans CT8.out); clear hB9)
      | (go_at_call 85; refine (pfind_any (h.below2 HB9.out) t j ht htr hj Bm Bt CM9.out CT9.out).mono ?_; rintro e w10 ⟨rfl, hB10⟩; have HB10 : Hid (Below w.heap.size w w10) := HB9.out.trans (hB10.mono HB9.out.size); have HR10 := Lib.hid (HR9.out.below hB10 HR9.out.lt); have HP10 := Lib.hid (HP9.out.below hB10 HP9.out.lt); have s10 := HP10.out.c1; have g2 := HP10.out.c2; have g3 := HP10.out.c3; have l2 := HP10.out.fz 2; have l3 := HP10.out.fz 3; clear hB10))
    have bR := (HR10.out.setOther (c := w.heap.size + 1) (o := 2) (.int .i64 (entP (B t) j).1) (by omega)).setOther (c := w.heap.size + 1) (o := 3) (.int .i64 (entP (B t) j).2) (by omega)
    have bP := HP10.out.set23 (.int .i64 (entP (B t) j).1) (.int .i64 (entP (B t) j).2)
    have HB11 := Lib.hid ((HB10.out.setCell (p := ⟨w.heap.size + 1, 2, none⟩) (by simp) (.int .i64 (entP (B t) j).1)).setCell (p := ⟨w.heap.size + 1, 3, none⟩) (by simp) (.int .i64 (entP (B t) j).2))
    generalize (w10.setCell ⟨w.heap.size + 1, 2, none⟩ (.int .i64 (entP (B t) j).1)).setCell ⟨w.heap.size + 1, 3, none⟩ (.int .i64 (entP (B t) j).2) = w11 at *
    have x0 := bP.c0; have x1 := bP.c1; have x2 := bP.c2; have x3 := bP.c3
    have y0 := bR.c0; have y1 := bR.c1; have y2 := bR.c2; have y3 := bR.c3
    have z0 := bR.fz 0; have z1 := bR.fz 1; have z2 := bR.fz 2; have z3 := bR.fz 3
    have HR11 := Lib.hid bR
    clear bR bP q0 q1 q2 q3 f2 f3 s8 s9 s10 g2 g3 l2 l3
    go_wp2
    go_step3
    go_wp2
    rw [exit_jump_ret]
    have bs := (HR11.out.set01 (.int .i64 F) (.int .i64 t)).set23 (.int .i64 (entP (B t) j).1) (.int .i64 (entP (B t) j).2)
    have s0 := bs.c0; have s1 := bs.c1; have s2 := bs.c2; have s3 := bs.c3
    refine bodyPost_ret (v := .tuple #[.agg #[.int .i64 F, .int .i64 t, .int .i64 (entP (B t) j).1, .int .i64 (entP (B t) j).2], .int .i64 0]) (by simp [results, Try.results64, go_sem, s0, s1, s2, s3]) rfl ⟨rfl, ?_⟩
    exact (((HB11.out.setCell (p := ⟨w.heap.size, 0, none⟩) (Nat.le_refl _) _).setCell (p := ⟨w.heap.size, 1, none⟩) (Nat.le_refl _) _).setCell (p := ⟨w.heap.size, 2, none⟩) (Nat.le_refl _) _).setCell (p := ⟨w.heap.size, 3, none⟩) (Nat.le_refl _) _
  case pass =>
    intro a w1 hf
    exact hf.elim
end
end Go.Proofs.Ytdkaaoboipphcaa
