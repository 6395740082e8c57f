/- Package ptable: put, addTable, walked. -/
import Derived.Test.YtdkaaoboipphcaaPtLeaf
import Derived.Deep.RegionHeld3
namespace Go.Proofs.Ytdkaaoboipphcaa
open Go.RowKit

theorem pack4 (w : World) (b cap : Nat) (a0 a1 a2 a3 : Int) (hb : b < w.heap.size) (c0 : w.cell? ⟨b, 0, none⟩ = some (.int .i64 a0)) (c1 : w.cell? ⟨b, 1, none⟩ = some (.int .i64 a1)) (c2 : w.cell? ⟨b, 2, none⟩ = some (.int .i64 a2)) (c3 : w.cell? ⟨b, 3, none⟩ = some (.int .i64 a3)) :
    Calls Try.prog 97 #[.slice (some ⟨b, 0, none⟩) 4 cap] w fun e w' => e = .returned (.string ⟨#[lowB a0, lowB a1, lowB a2, lowB a3]⟩) ∧ Below w.heap.size w w' := by
  have := pack_any w b cap [a0, a1, a2, a3] (by simp) (by simp) hb (fun j hj => by
    match j, hj with
    | 0, _ => exact c0
    | 1, _ => exact c1
    | 2, _ => exact c2
    | 3, _ => exact c3)
  exact this

theorem cell_allocL {W : World} {a : Addr} {v : Value} (o : Obj) (h : W.cell? a = some v) : (W.alloc o).cell? a = some v :=
  (World.cell?_of_block (w := W) (Below.heap_alloc W o a.block (World.block_lt_of_cell? W _ h))).trans h

theorem MemAt.drew {w : World} {p g n : Nat} {R : Nat → Int} {B : Nat → List UInt8} (h : MemAt w p g n R B) : MemAt w.drew p g n R B := h.keep rfl rfl

theorem drew_grown {w1 w2 : World} {r : Option Nat} (h : w1.drew.grownBy w2 r) : w1.grownBy w2 r := ⟨h.os, h.tape, h.output, h.size, h.block⟩
theorem drew_below {n : Nat} {w1 w2 : World} (h : Below n w1.drew w2) : Below n w1 w2 := ⟨h.os, h.tape, h.output, h.size, h.block⟩

theorem ret_int {k : IntKind} {a b : Int} (h : a = b) : Ending.returned (.int k a) = .returned (.int k b) := by rw [h]

/-- a block of two cells. -/
structure Boxed2 (w : World) (b : Nat) (t : TypeId) (u v : Value) : Prop where
  blk : w.heap[b]? = some (.cells #[u, v] t (0, 0))
theorem Boxed2.new (w : World) (t : TypeId) (u v : Value) : Boxed2 (w.alloc (.cells #[u, v] t)) w.heap.size t u v := ⟨heap_alloc_new _ _⟩
theorem Boxed2.lt {w : World} {b : Nat} {t : TypeId} {u v : Value} (h : Boxed2 w b t u v) : b < w.heap.size := (Array.getElem?_eq_some_iff.1 h.blk).1
theorem Boxed2.keep {w w' : World} {b : Nat} {t : TypeId} {u v : Value} (h : Boxed2 w b t u v) (e : w'.heap[b]? = w.heap[b]?) : Boxed2 w' b t u v := ⟨e.trans h.blk⟩
theorem Boxed2.alloc {w : World} {b : Nat} {t : TypeId} {u v : Value} (h : Boxed2 w b t u v) (o : Obj) : Boxed2 (w.alloc o) b t u v := h.keep (Below.heap_alloc w o b h.lt)
theorem Boxed2.grown {w w' : World} {b r : Nat} {t : TypeId} {u v : Value} (h : Boxed2 w b t u v) (hg : w.grownBy w' (some r)) (hne : b ≠ r) : Boxed2 w' b t u v := h.keep (hg.block b h.lt (fun e => hne (Option.some.inj e)))
theorem Boxed2.below {w w' : World} {b m : Nat} {t : TypeId} {u v : Value} (h : Boxed2 w b t u v) (hb : Below m w w') (hlt : b < m) : Boxed2 w' b t u v := h.keep (hb.block b hlt)
theorem Boxed2.c0 {w : World} {b : Nat} {t : TypeId} {u v : Value} (h : Boxed2 w b t u v) : w.cell? ⟨b, 0, none⟩ = some u := by simp [World.cell?, h.blk]
theorem Boxed2.c1 {w : World} {b : Nat} {t : TypeId} {u v : Value} (h : Boxed2 w b t u v) : w.cell? ⟨b, 1, none⟩ = some v := by simp [World.cell?, h.blk]
theorem Boxed2.f0 {w : World} {b : Nat} {t : TypeId} {u v : Value} (h : Boxed2 w b t u v) (o : Nat := 0) : w.frozen? ⟨b, o, none⟩ = false := by simp [World.frozen?, h.blk]
theorem Boxed2.f1 {w : World} {b : Nat} {t : TypeId} {u v : Value} (h : Boxed2 w b t u v) : w.frozen? ⟨b, 1, none⟩ = false := h.f0 1
theorem Boxed2.set {w : World} {b : Nat} {t : TypeId} {u v : Value} (h : Boxed2 w b t u v) (u' v' : Value) : Boxed2 ((w.setCell ⟨b, 0, none⟩ u').setCell ⟨b, 1, none⟩ v') b t u' v' := by
  have h1 := heap_setCell_same w b 0 _ _ u' h.blk
  have h2 := heap_setCell_same _ b 1 _ _ v' h1
  exact ⟨h2⟩

theorem MemAt.setOther {w : World} {p g n : Nat} {R : Nat → Int} {B : Nat → List UInt8} (h : MemAt w p g n R B) (b o : Nat) (v : Value) (h1 : p ≠ b) (h2 : g ≠ b) : MemAt (w.setCell ⟨b, o, none⟩ v) p g n R B :=
  h.keep (heap_setCell_other _ _ _ _ h1) (heap_setCell_other _ _ _ _ h2)
theorem grown_setNew {w w1 : World} {r : Option Nat} (h : w.grownBy w1 r) {b : Nat} (o : Nat) (v : Value) (hb : w.heap.size ≤ b) : w.grownBy (w1.setCell ⟨b, o, none⟩ v) r :=
  ⟨h.os, h.tape, h.output, by simpa [World.setCell] using h.size, fun k hk hne => (heap_setCell_other _ _ _ _ (show k ≠ b by omega)).trans (h.block k hk hne)⟩

section
variable {w : World} {p g n : Nat} {R : Nat → Int} {B : Nat → List UInt8}

theorem write_ent {k i : Nat} (hk : k < n) (hr : 0 < R k) (hi : i < 16) (e : Nat × Nat) :
    readE n R k ((i : Int) * 4) 4 = 0 ∧ writeB n R B k ((i : Int) * 4) (entBytes e) = updB B k (putBytes (B k) (4 * i) (entBytes e)) := by
  have hl : liveB n R k = true := by simp [liveB, hk, hr]
  have hs : spanB ((i : Int) * 4) 4 = true := by simp [spanB]; omega
  have hE : readE n R k ((i : Int) * 4) 4 = 0 := by simp [readE, hl, hs]
  refine ⟨hE, ?_⟩
  unfold writeB
  rw [entBytes_length]
  rw [show ((4 : Nat) : Int) = 4 from rfl, hE, if_pos rfl, show ((i : Int) * 4).toNat = 4 * i from by omega, Int.toNat_natCast]

set_option maxRecDepth 100000 in
set_option maxHeartbeats 1000000 in
theorem put_any (h : MemAt w p g n R B) (k i fl fr : Nat) (hk : k < n) (hr : 0 < R k) (hi : i < 16) :
    Calls Try.prog 90 #[.pointer (some ⟨p, 0, none⟩), .agg #[.int .i64 k, .int .i64 i], .agg #[.int .i64 fl, .int .i64 fr]] w fun e w' =>
      e = .returned (.int .i64 0) ∧ MemAt w' p g n R (updB B k (putBytes (B k) (4 * i) (entBytes (fl, fr)))) ∧ w.grownBy w' (some g) := by
  have hn := h.hn
  have h0 := (h.alloc (.cells #[.int .i64 k, .int .i64 i] 116)).alloc (.cells #[.int .i64 fl, .int .i64 fr] 100)
  have hgl := Lib.hid h.g_lt
  have H0 := Lib.hid h0; clear h0
  have HG0 : Hid (w.grownBy ((w.alloc (.cells #[.int .i64 k, .int .i64 i] 116)).alloc (.cells #[.int .i64 fl, .int .i64 fr] 100)) (some g)) := grown_trans (World.grownBy_alloc _ _ _) (World.grownBy_alloc _ _ _)
  have c0 : ((w.alloc (.cells #[.int .i64 k, .int .i64 i] 116)).alloc (.cells #[.int .i64 fl, .int .i64 fr] 100)).cell? ⟨w.heap.size, 0, none⟩ = some (.int .i64 k) := by simp
  have c1 : ((w.alloc (.cells #[.int .i64 k, .int .i64 i] 116)).alloc (.cells #[.int .i64 fl, .int .i64 fr] 100)).cell? ⟨w.heap.size, 1, none⟩ = some (.int .i64 i) := by simp
  have c2 : ((w.alloc (.cells #[.int .i64 k, .int .i64 i] 116)).alloc (.cells #[.int .i64 fl, .int .i64 fr] 100)).cell? ⟨w.heap.size + 1, 0, none⟩ = some (.int .i64 fl) := by simp
  have c3 : ((w.alloc (.cells #[.int .i64 k, .int .i64 i] 116)).alloc (.cells #[.int .i64 fl, .int .i64 fr] 100)).cell? ⟨w.heap.size + 1, 1, none⟩ = some (.int .i64 fr) := by simp
  go_enter Try.func90, Try.ntmps90
  go_wp2
  generalize (w.alloc (.cells #[.int .i64 k, .int .i64 i] 116)).alloc (.cells #[.int .i64 fl, .int .i64 fr] 100) = W0 at *
  have hng : Hid (w.heap.size ≠ g ∧ w.heap.size + 1 ≠ g) := by have := hgl.out; exact ⟨by omega, by omega⟩
  have HWR := Lib.hid (show IntKind.i64.wrap ((i : Int) * 4) = (i : Int) * 4 by rw [IntKind.wrap_i64]; omega)
  have HL : Hid ([lowB fl, lowB 0, lowB ((fr : Int) / 256), lowB fr] = entBytes (fl, fr)) := by
    unfold Hid entBytes
    rw [lowB_nat, lowB_nat, show (fr : Int) / 256 = ((fr / 256 : Nat) : Int) from by omega, lowB_nat]
    rfl
  have HSZ : Hid ((⟨#[lowB fl, lowB 0, lowB ((fr : Int) / 256), lowB fr]⟩ : ByteArray).size ≤ maxLen) := by show 4 ≤ maxLen; unfold maxLen; omega
  have hb0 : Hid (w.heap.size + 1 < W0.heap.size) := World.block_lt_of_cell? W0 _ c3
  go_region_held3 (fun w' => w'.cell? ⟨w.heap.size, 0, none⟩ = some (.int .i64 k) ∧ w'.cell? ⟨w.heap.size, 1, none⟩ = some (.int .i64 i) ∧ w'.cell? ⟨w.heap.size + 1, 0, none⟩ = some (.int .i64 fl) ∧ w'.cell? ⟨w.heap.size + 1, 1, none⟩ = some (.int .i64 fr)) (first | exact ⟨c0, c1, c2, c3⟩ | exact ⟨d0, d1, d2, d3⟩ | exact ⟨e0, e1, e2, e3⟩ | go_keep) (first
    | (go_at_call 97; refine (pack4 _ W0.heap.size 4 fl 0 ((fr : Int) / 256) fr (by simp) (by simp) (by simp) (by simp) (by simp)).mono ?_; rintro e w1 ⟨rfl, hB1⟩; have HM1 := Lib.hid ((H0.out.alloc _).drew.below hB1); have HS1 := hb0.out; have d0 := (hB1.cell (p := ⟨w.heap.size, 0, none⟩) (by simp; omega)).trans (cell_allocL _ c0); have d1 := (hB1.cell (p := ⟨w.heap.size, 1, none⟩) (by simp; omega)).trans (cell_allocL _ c1); have d2 := (hB1.cell (p := ⟨w.heap.size + 1, 0, none⟩) (by simp; omega)).trans (cell_allocL _ c2); have d3 := (hB1.cell (p := ⟨w.heap.size + 1, 1, none⟩) (by simp; omega)).trans (cell_allocL _ c3); have HB1 := Lib.hid hB1; clear hB1)
    | (go_at_call 63; rw [HWR.out]; refine (write_fn HM1.out k ((i : Int) * 4) _ HSZ.out).mono ?_; rintro e w2 ⟨rfl, hM2, hG2⟩; have e0 := hG2.cell d0 (by intro e; exact hng.out.1 (Option.some.inj e)); have e1 := hG2.cell d1 (by intro e; exact hng.out.1 (Option.some.inj e)); have e2 := hG2.cell d2 (by intro e; exact hng.out.2 (Option.some.inj e)); have e3 := hG2.cell d3 (by intro e; exact hng.out.2 (Option.some.inj e)); have HM2 := Lib.hid hM2; have HG2 := Lib.hid hG2; clear hM2 hG2))
  go_wp2
  go_ret
  obtain ⟨x1, x2⟩ := write_ent (B := B) hk hr hi (fl, fr)
  rw [← x2]
  refine ⟨ret_int ?_, ?_, ?_⟩
  · exact x1
  · have := HM2.out
    rw [HL.out] at this
    exact this
  · exact grown_trans HG0.out (grown_trans (grown_trans (World.grownBy_alloc _ _ _) (drew_grown (grown_of_below HB1.out _))) HG2.out)

/-- Alloc, where the first free frame is known. -/
theorem alloc_at (h : MemAt w p g n R B) {t : Nat} (ht : t < n) (h0 : R t = 0) (hj : ∀ j, j < t → 0 < R j) : Calls Try.prog 6 #[.pointer (some ⟨p, 0, none⟩)] w fun e W' =>
    e = .returned (.tuple #[.int .i64 t, .int .i64 0]) ∧ MemAt W' p g n (updR R t 1) (updB B t zeroPage) ∧ w.grownBy W' (some g) := by
  refine (alloc_fn h).mono ?_
  rintro e W' ⟨rfl, hM, hG⟩
  have hs := allocF_some ht h0 hj
  simp only [allocN, allocE, allocR, allocB, hs, Option.isSome_some, if_true, Option.getD_some] at hM ⊢
  exact ⟨trivial, hM, hG⟩
theorem alloc_full (h : MemAt w p g n R B) (hj : ∀ j, j < n → 0 < R j) : Calls Try.prog 6 #[.pointer (some ⟨p, 0, none⟩)] w fun e W' =>
    e = .returned (.tuple #[.int .i64 0, .int .i64 11]) ∧ MemAt W' p g n R B ∧ w.grownBy W' (some g) := by
  refine (alloc_fn h).mono ?_
  rintro e W' ⟨rfl, hM, hG⟩
  have hs := allocF_none hj
  simp only [allocN, allocE, allocR, allocB, hs, Option.isSome_none, Bool.false_eq_true, if_false, Option.getD_none] at hM ⊢
  exact ⟨rfl, hM, hG⟩

set_option maxRecDepth 100000 in
set_option maxHeartbeats 1000000 in
theorem addTable_full (h : MemAt w p g n R B) (k i : Nat) (hj : ∀ j, j < n → 0 < R j) :
    Calls Try.prog 89 #[.pointer (some ⟨p, 0, none⟩), .agg #[.int .i64 k, .int .i64 i]] w fun e w' =>
      e = .returned (.tuple #[.agg #[.int .i64 0, .int .i64 0], .int .i64 11]) ∧ MemAt w' p g n R B ∧ w.grownBy w' (some g) := by
  have HJ := Lib.hid hj; clear hj
  have hgl := h.g_lt
  have H0 := Lib.hid ((h.alloc (.cells #[.int .i64 k, .int .i64 i] 116)).alloc (.cells #[.int .i64 0, .int .i64 0] 100))
  have HG0 : Hid (w.grownBy ((w.alloc (.cells #[.int .i64 k, .int .i64 i] 116)).alloc (.cells #[.int .i64 0, .int .i64 0] 100)) (some g)) := grown_trans (World.grownBy_alloc _ _ _) (World.grownBy_alloc _ _ _)
  have bE := Boxed2.new (w.alloc (.cells #[.int .i64 k, .int .i64 i] 116)) 100 (.int .i64 0) (.int .i64 0)
  rw [World.size_alloc] at bE
  go_enter Try.func89, Try.ntmps89
  go_wp2_with fail
  refine (alloc_full H0.out HJ.out).mono ?_
  rintro e w1 ⟨rfl, hM1, hG1⟩
  have bE1 := bE.grown hG1 (by omega)
  have e0 := bE1.c0; have e1 := bE1.c1; have e2 := bE1.f0; have e3 := bE1.f1
  have BE1 := Lib.hid bE1
  have HM1 := Lib.hid hM1
  have HG1 := Lib.hid hG1
  clear hM1 hG1 bE bE1
  go_wp2
  have bs := BE1.out.set (.int .i64 0) (.int .i64 0)
  have s0 := bs.c0
  have s1 := bs.c1
  have hpl := h.p_lt
  exact bodyPost_ret (v := .tuple #[.agg #[.int .i64 0, .int .i64 0], .int .i64 11]) (by simp [results, Try.results89, go_sem, s0, s1]) rfl
    ⟨rfl, (HM1.out.setOther _ _ _ (by omega) (by omega)).setOther _ _ _ (by omega) (by omega), grown_setNew (grown_setNew (grown_trans HG0.out HG1.out) _ _ (by omega)) _ _ (by omega)⟩

set_option maxRecDepth 100000 in
set_option maxHeartbeats 1000000 in
theorem addTable_ok (h : MemAt w p g n R B) (k i : Nat) (hk : k < n) (hr : 0 < R k) (hi : i < 16) {t : Nat} (ht : t < n) (ht0 : R t = 0) (hj : ∀ j, j < t → 0 < R j) :
    Calls Try.prog 89 #[.pointer (some ⟨p, 0, none⟩), .agg #[.int .i64 k, .int .i64 i]] w fun e w' =>
      e = .returned (.tuple #[.agg #[.int .i64 1, .int .i64 t], .int .i64 0]) ∧ MemAt w' p g n (updR R t 1) (updB (updB B t zeroPage) k (putBytes (B k) (4 * i) (entBytes (1, t)))) ∧ w.grownBy w' (some g) := by
  have HJ := Lib.hid hj; clear hj
  have HT0 := Lib.hid ht0
  have htk : t ≠ k := fun e => by subst e; omega
  clear ht0
  have HRK : Hid (0 < updR R t 1 k) := by unfold Hid; rw [updR_other _ _ (Ne.symm htk)]; exact hr
  have HBK : Hid (updB B t zeroPage k = B k) := updB_other _ _ (Ne.symm htk)
  clear htk
  have hgl := h.g_lt
  have hpl := h.p_lt
  have H0 := Lib.hid ((h.alloc (.cells #[.int .i64 k, .int .i64 i] 116)).alloc (.cells #[.int .i64 0, .int .i64 0] 100))
  have HG0 : Hid (w.grownBy ((w.alloc (.cells #[.int .i64 k, .int .i64 i] 116)).alloc (.cells #[.int .i64 0, .int .i64 0] 100)) (some g)) := grown_trans (World.grownBy_alloc _ _ _) (World.grownBy_alloc _ _ _)
  have bP := (Boxed2.new w 116 (.int .i64 k) (.int .i64 i)).alloc (.cells #[.int .i64 0, .int .i64 0] 100)
  have bE := Boxed2.new (w.alloc (.cells #[.int .i64 k, .int .i64 i] 116)) 100 (.int .i64 0) (.int .i64 0)
  rw [World.size_alloc] at bE
  go_enter Try.func89, Try.ntmps89
  go_wp2_with fail
  refine (alloc_at H0.out ht HT0.out HJ.out).mono ?_
  rintro e w1 ⟨rfl, hM1, hG1⟩
  have bE1 := bE.grown hG1 (by omega)
  have bP1 := bP.grown hG1 (by omega)
  have HM1 := Lib.hid hM1
  have HG1 := Lib.hid hG1
  clear hM1 hG1 bE bP
  go_wp2
  have hs1 := bE1.lt
  have bE2 := bE1.alloc (.cells #[.int .i64 1, .int .i64 t] 100)
  have bP2 := bP1.alloc (.cells #[.int .i64 1, .int .i64 t] 100)
  have bT2 := Boxed2.new w1 100 (.int .i64 1) (.int .i64 t)
  have HM2 := Lib.hid (HM1.out.alloc (.cells #[.int .i64 1, .int .i64 t] 100))
  have HG2 := Lib.hid (World.grownBy_alloc w1 (.cells #[.int .i64 1, .int .i64 t] 100) (some g))
  generalize w1.alloc (.cells #[.int .i64 1, .int .i64 t] 100) = w2 at *
  have e0 := bE2.c0; have e1 := bE2.c1; have e2 := bE2.f0; have e3 := bE2.f1
  have p0 := bP2.c0; have p1 := bP2.c1
  have t0 := bT2.c0; have t1 := bT2.c1
  have BE2 := Lib.hid bE2; have BP2 := Lib.hid bP2; have BT2 := Lib.hid bT2
  clear bE1 bP1 bE2 bP2 bT2
  have n1 : w1.heap.size ≠ w.heap.size + 1 := by omega
  have n2 : w.heap.size + 1 ≠ w1.heap.size := by omega
  have hgw1 : Hid (w1.heap.size ≠ g ∧ w.heap.size ≠ g ∧ w.heap.size + 1 ≠ g) := ⟨by omega, by omega, by omega⟩
  go_region_held3 (fun w' => w'.cell? ⟨w.heap.size, 0, none⟩ = some (.int .i64 k) ∧ w'.cell? ⟨w.heap.size, 1, none⟩ = some (.int .i64 i) ∧ w'.cell? ⟨w1.heap.size, 0, none⟩ = some (.int .i64 1) ∧ w'.cell? ⟨w1.heap.size, 1, none⟩ = some (.int .i64 t)) (first | exact ⟨p0, p1, t0, t1⟩ | exact ⟨q0, q1, q2, q3⟩ | go_keep)
    ((go_at_call 90; refine (put_any HM2.out.drew k i 1 t hk HRK.out hi).mono ?_; rintro e w3 ⟨rfl, hM3, hG3⟩; have bE3 := BE2.out.grown (drew_grown hG3) hgw1.out.2.2; have q0 := hG3.cell p0 (by intro e; exact hgw1.out.2.1 (Option.some.inj e)); have q1 := hG3.cell p1 (by intro e; exact hgw1.out.2.1 (Option.some.inj e)); have q2 := hG3.cell t0 (by intro e; exact hgw1.out.1 (Option.some.inj e)); have q3 := hG3.cell t1 (by intro e; exact hgw1.out.1 (Option.some.inj e)); have s0 := bE3.c0; have s1 := bE3.c1; have s2 := bE3.f0; have s3 := bE3.f1; have BE3 := Lib.hid bE3; have HM3 := Lib.hid hM3; have HG3 := Lib.hid hG3; clear bE3 hM3 hG3))
  go_wp2
  have bs := BE3.out.set (.int .i64 1) (.int .i64 t)
  have s0 := bs.c0
  have s1 := bs.c1
  have hM := HM3.out
  rw [HBK.out] at hM
  exact bodyPost_ret (v := .tuple #[.agg #[.int .i64 1, .int .i64 t], .int .i64 0]) (by simp [results, Try.results89, go_sem, s0, s1]) rfl
    ⟨rfl, (hM.setOther _ _ _ (by omega) (by omega)).setOther _ _ _ (by omega) (by omega), grown_setNew (grown_setNew (grown_trans (grown_trans HG0.out HG1.out) (grown_trans HG2.out (drew_grown HG3.out))) _ _ (by omega)) _ _ (by omega)⟩

end
end Go.Proofs.Ytdkaaoboipphcaa
