/- Package ptable: find, isEmpty, walked. -/
import Derived.Test.YtdkaaoboipphcaaPtIter
namespace Go.Proofs.Ytdkaaoboipphcaa
open Go.RowKit Go.Shelf

attribute [local go_sem] Oper.semAt_some

theorem Boxed2.setOther {w : World} {b c o : Nat} {t : TypeId} {u v : Value} (h : Boxed2 w b t u v) (_ : Unit) (x : Value) (hne : b ≠ c) : Boxed2 (w.setCell ⟨c, o, none⟩ x) b t u v := h.keep (heap_setCell_other _ _ _ _ hne)

theorem heap_set_other {W : World} {D b o : Nat} {v : Value} (h : D ≠ b) : (W.setCell ⟨b, o, none⟩ v).heap[D]? = W.heap[D]? := heap_setCell_other _ _ _ _ h
theorem below_put {m D : Nat} {w w1 : World} {o : Obj} (h : Below m w w1) (hD : m ≤ D) : Below m w (w1.putObj D o) :=
  ⟨h.os, h.tape, h.output, by rw [World.putObj_size]; exact h.size, fun k hk => (World.putObj_heap_other (by omega)).trans (h.block k hk)⟩

section
variable {w : World} {p g n : Nat} {R : Nat → Int} {B : Nat → List UInt8}

set_option maxRecDepth 100000 in
set_option maxHeartbeats 1000000 in
theorem find_in (h : MemAt w p g n R B) (k i : Nat) (hk : k < n) (hr : 0 < R k) (hi : i < 16) (Bm Bt : Nat) (cm : w.cell? ⟨Bm, 0, none⟩ = some (.pointer (some ⟨p, 0, none⟩))) (ct : w.cell? ⟨Bt, 0, none⟩ = some (.int .i64 k)) :
    CallsIn Fence.wide 6 Try.prog 85 #[.func (.func 81) #[] #[.pointer (some ⟨Bm, 0, none⟩), .pointer (some ⟨Bt, 0, none⟩)], .agg #[.int .i64 k, .int .i64 i]] w fun e W' =>
      e = .returned (.agg #[.int .i64 (entP (B k) i).1, .int .i64 (entP (B k) i).2]) ∧ Below w.heap.size w W' := by
  have hBm : Bm < w.heap.size := World.block_lt_of_cell? w _ cm
  have hBt : Bt < w.heap.size := World.block_lt_of_cell? w _ ct
  refine callsIn_of_wp_marks Try.func85 rfl trivial ?_ rfl
  simp only [Try.ntmps85, List.size_toArray, List.length_cons, List.length_nil, Nat.reduceAdd, Nat.reduceSub, Array.replicate_succ, Array.replicate_zero, List.push_toArray, List.append_toArray, List.nil_append, List.cons_append]
  have hgl := h.g_lt
  have hpl := h.p_lt
  gi_wp2
  refine wpIn_scope' ?_
  gi_wp2
  refine wpIn_label ?_
  gi_wp2
  have bK := ((Boxed2.new w 116 (.int .i64 k) (.int .i64 i)).alloc (.cells #[.int .i64 0, .int .i64 0] 100)).alloc (.cells #[.int .i64 0, .int .i64 0] 100)
  have bR := (Boxed2.new (w.alloc (.cells #[.int .i64 k, .int .i64 i] 116)) 100 (.int .i64 0) (.int .i64 0)).alloc (.cells #[.int .i64 0, .int .i64 0] 100)
  have bF := Boxed2.new ((w.alloc (.cells #[.int .i64 k, .int .i64 i] 116)).alloc (.cells #[.int .i64 0, .int .i64 0] 100)) 100 (.int .i64 0) (.int .i64 0)
  simp only [World.size_alloc] at bR bF
  have hB0 : Below w.heap.size w (((w.alloc (.cells #[.int .i64 k, .int .i64 i] 116)).alloc (.cells #[.int .i64 0, .int .i64 0] 100)).alloc (.cells #[.int .i64 0, .int .i64 0] 100)) := (((Below.refl _ w).alloc (Nat.le_refl _) _).alloc (by simp) _).alloc (by simp; omega) _
  have hsz : (((w.alloc (.cells #[.int .i64 k, .int .i64 i] 116)).alloc (.cells #[.int .i64 0, .int .i64 0] 100)).alloc (.cells #[.int .i64 0, .int .i64 0] 100)).heap.size = w.heap.size + 3 := by simp
  generalize ((w.alloc (.cells #[.int .i64 k, .int .i64 i] 116)).alloc (.cells #[.int .i64 0, .int .i64 0] 100)).alloc (.cells #[.int .i64 0, .int .i64 0] 100) = W0 at *
  refine wpIn_rangeFunc_ownH (F := Fence.wide) (n := 6) rfl (by omega) (gf := 81) (lb := #[.pointer (some ⟨Bm, 0, none⟩), .pointer (some ⟨Bt, 0, none⟩)]) rfl trivial (enters_of Try.func81 (by kernel_rfl) rfl)
    (entries_stops 5 (by omega) Bm Bt k hk hr W0 (h.below hB0) ((hB0.cell (p := ⟨Bm, 0, none⟩) hBm).trans cm) ((hB0.cell (p := ⟨Bt, 0, none⟩) hBt).trans ct)) KpOne.trans (KpOne.put (by omega)) (Below.refl _ _) (fun _ => rfl)
    (fun pre W => ((∀ x ∈ pre, x.1 ≠ i) ∧ Boxed2 W w.heap.size 116 (.int .i64 k) (.int .i64 i) ∧ Boxed2 W (w.heap.size + 1) 100 (.int .i64 0) (.int .i64 0) ∧ Boxed2 W (w.heap.size + 1 + 1) 100 (.int .i64 0) (.int .i64 0)) ∧ Below w.heap.size w W)
    (fun c _ W => (c = .exit 0 ∧ Boxed2 W (w.heap.size + 1) 100 (.int .i64 0) (.int .i64 0) ∧ Boxed2 W (w.heap.size + 1 + 1) 100 (.int .i64 (entP (B k) i).1) (.int .i64 (entP (B k) i).2)) ∧ Below w.heap.size w W)
    (OwnFrom.and (Own.from (fun s X Y row hs hg hr => ⟨hs.1, hs.2.1.kept hg hr, hs.2.2.1.kept hg hr, hs.2.2.2.kept hg hr⟩) _) (ownFrom_below (Nat.le_refl _) (by omega)))
    (fun c => OwnFrom.and (Own.from (fun s X Y row hs hg hr => ⟨hs.1, hs.2.1.kept hg hr, hs.2.2.kept hg hr⟩) _) (ownFrom_below (Nat.le_refl _) (by omega)))
    ⟨⟨by simp, bK, bR, bF⟩, hB0⟩
    (fun x a' W => ∃ B1 B2, w.heap.size + 1 + 1 < B1 ∧ w.heap.size + 1 + 1 < B2 ∧ Boxed2 W B1 116 (.int .i64 k) (.int .i64 x.1) ∧ Boxed2 W B2 100 (.int .i64 (entP (B k) x.1).1) (.int .i64 (entP (B k) x.1).2) ∧
      a' = { tmps := #[(.func (.func 81) #[] #[.pointer (some ⟨Bm, 0, none⟩), .pointer (some ⟨Bt, 0, none⟩)]), .agg #[.int .i64 k, .int .i64 i], undef, .pointer (some ⟨w.heap.size, 0, none⟩), .pointer (some ⟨w.heap.size + 1, 0, none⟩), .pointer (some ⟨w.heap.size + 1 + 1, 0, none⟩), .pointer (some ⟨B1, 0, none⟩), .pointer (some ⟨B2, 0, none⟩), (.func (.func 81) #[] #[.pointer (some ⟨Bm, 0, none⟩), .pointer (some ⟨Bt, 0, none⟩)]), .agg #[.int .i64 k, .int .i64 x.1], .agg #[.int .i64 (entP (B k) x.1).1, .int .i64 (entP (B k) x.1).2], undef, undef, undef, undef, undef], defers := [] })
    (fun x a' _ X Y row hs hg hr => by obtain ⟨B1, B2, h1, h2, h3, h4, h5⟩ := hs; exact ⟨B1, B2, h1, h2, h3.kept hg (fun r e => (hr r e).2), h4.kept hg (fun r e => (hr r e).2), h5⟩)
    ?assign ?body ?done ?stop
  case assign =>
    rintro l pre x W K ⟨⟨hx, bK1, bR1, bF1⟩, hB1⟩ hK
    unfold entVals
    gi_wp2
    have hlF := bF1.lt
    have hsW := hB1.size
    have bN := Boxed2.new (W.alloc (.cells #[.int .i64 k, .int .i64 x.1] 116)) 100 (.int .i64 (entP (B k) x.1).1) (.int .i64 (entP (B k) x.1).2)
    rw [World.size_alloc] at bN
    exact hK _ _ (((KeepsOthers.alloc _ _).trans (KeepsOthers.alloc _ _)).from _) ((KpOne.alloc (by omega) _).trans (KpOne.alloc (by simp; omega) _)) ⟨⟨hx, (bK1.alloc _).alloc _, (bR1.alloc _).alloc _, (bF1.alloc _).alloc _⟩, (hB1.alloc hsW _).alloc (by simp; omega) _⟩ ⟨W.heap.size, W.heap.size + 1, hlF, by omega, (Boxed2.new W _ _ _).alloc _, bN, rfl⟩
  case body =>
    rintro l pre x a' W hl _ ⟨⟨hx, bK1, bR1, bF1⟩, hB1⟩ ⟨B1, B2, h1, h2, bX, bV, rfl⟩ hlt
    have HX := Lib.hid hx
    have k0 := bK1.c0; have k1 := bK1.c1
    have x0 := bX.c0; have x1 := bX.c1
    have v0 := bV.c0; have v1 := bV.c1
    have f0 := bF1.c0; have f1 := bF1.c1; have f2 := bF1.f0; have f3 := bF1.f1
    have BF := Lib.hid bF1; have BK := Lib.hid bK1; have BR := Lib.hid bR1
    have HB1 := Lib.hid hB1
    clear hx bK1 bR1 bF1 hB1 bX bV
    by_cases hxi : x.1 = i
    · have hb : ((x.1 : Int) == (i : Int)) = true := by simp only [beq_iff_eq]; omega
      have HXI := Lib.hid hxi; clear hxi
      gi_wp2
      refine ⟨((KeepsOthers.setCell _ _ _).trans (KeepsOthers.setCell _ _ _)).from _, ⟨rfl, (BR.out.setOther () _ (by omega)).setOther () _ (by omega), ?_⟩, (HB1.out.setCell (p := ⟨w.heap.size + 1 + 1, 0, none⟩) (by simp; omega) _).setCell (p := ⟨w.heap.size + 1 + 1, 1, none⟩) (by simp; omega) _⟩
      rw [HXI.out]
      exact BF.out.set _ _
    · have hb : ((x.1 : Int) == (i : Int)) = false := by rw [beq_eq_false_iff_ne]; omega
      have HXI := Lib.hid hxi; clear hxi
      gi_wp2
      exact ⟨KeepsFrom.refl _ _, KpOne.refl _ _, ⟨fun y hy => (List.mem_append.1 hy).elim (HX.out y) (fun e => by simp at e; subst e; exact HXI.out), BK.out, BR.out, BF.out⟩, HB1.out⟩
  case done =>
    rintro D zs W hD hzs ⟨⟨hx, bK1, bR1, bF1⟩, hB1⟩ hK
    have HZ : Hid (entP (B k) i = (0, 0)) := by
      refine Classical.byContradiction (fun c : ¬ (entP (B k) i = (0, 0)) => ?_)
      have : i ∈ zs.map Subtype.val := by rw [hzs]; unfold entsTo; exact List.mem_filter.2 ⟨List.mem_range.2 hi, by simpa using c⟩
      obtain ⟨y, hy, e⟩ := List.mem_map.1 this
      exact hx y hy e
    clear hx hzs
    have f0 := bF1.c0; have f1 := bF1.c1
    have r0 := bR1.c0; have r1 := bR1.c1; have r2 := bR1.f0; have r3 := bR1.f1
    have BR := Lib.hid bR1
    clear bF1 bK1 bR1
    gi_wp2
    rw [Exit.noGoto_ret]
    refine ⟨by simp, .inl ⟨_, _, rfl, run_takeDeferred ((heap_set_other (by omega)).trans ((heap_set_other (by omega)).trans hK)), ?_⟩⟩
    have bs := (BR.out.set (.int .i64 0) (.int .i64 0)).keep (w' := ((W.setCell ⟨w.heap.size + 1, 0, none⟩ (.int .i64 0)).setCell ⟨w.heap.size + 1, 1, none⟩ (.int .i64 0)).putObj D (.deferred none)) (World.putObj_heap_other (by omega))
    have s0 := bs.c0; have s1 := bs.c1
    refine ⟨.agg #[.int .i64 0, .int .i64 0], by simp [results, Try.results85, go_sem, s0, s1], by rw [HZ.out]; rfl, ?_⟩
    exact below_put ((hB1.setCell (p := ⟨w.heap.size + 1, 0, none⟩) (by simp) _).setCell (p := ⟨w.heap.size + 1, 1, none⟩) (by simp) _) (by omega)
  case stop =>
    rintro D c pre W hD _ ⟨⟨rfl, bR1, bF1⟩, hB1⟩ hK
    have f0 := bF1.c0; have f1 := bF1.c1
    have r0 := bR1.c0; have r1 := bR1.c1; have r2 := bR1.f0; have r3 := bR1.f1
    have BR := Lib.hid bR1
    clear bF1 bR1
    gi_wp2
    rw [Exit.noGoto_ret]
    refine ⟨by simp, .inl ⟨_, _, rfl, run_takeDeferred ((heap_set_other (by omega)).trans ((heap_set_other (by omega)).trans hK)), ?_⟩⟩
    have bs := (BR.out.set (.int .i64 (entP (B k) i).1) (.int .i64 (entP (B k) i).2)).keep (w' := ((W.setCell ⟨w.heap.size + 1, 0, none⟩ (.int .i64 (entP (B k) i).1)).setCell ⟨w.heap.size + 1, 1, none⟩ (.int .i64 (entP (B k) i).2)).putObj D (.deferred none)) (World.putObj_heap_other (by omega))
    have s0 := bs.c0; have s1 := bs.c1
    refine ⟨.agg #[.int .i64 (entP (B k) i).1, .int .i64 (entP (B k) i).2], by simp [results, Try.results85, go_sem, s0, s1], rfl, ?_⟩
    exact below_put ((hB1.setCell (p := ⟨w.heap.size + 1, 0, none⟩) (by simp) _).setCell (p := ⟨w.heap.size + 1, 1, none⟩) (by simp) _) (by omega)

theorem pfind_any (h : MemAt w p g n R B) (k i : Nat) (hk : k < n) (hr : 0 < R k) (hi : i < 16) (Bm Bt : Nat) (cm : w.cell? ⟨Bm, 0, none⟩ = some (.pointer (some ⟨p, 0, none⟩))) (ct : w.cell? ⟨Bt, 0, none⟩ = some (.int .i64 k)) :
    Calls Try.prog 85 #[.func (.func 81) #[] #[.pointer (some ⟨Bm, 0, none⟩), .pointer (some ⟨Bt, 0, none⟩)], .agg #[.int .i64 k, .int .i64 i]] w fun e W' =>
      e = .returned (.agg #[.int .i64 (entP (B k) i).1, .int .i64 (entP (B k) i).2]) ∧ Below w.heap.size w W' := callsIn_wide.1 (find_in h k i hk hr hi Bm Bt cm ct)

theorem entries_any (a : Option Addr) (k : Int) (w : World) :
    Calls Try.prog 61 #[.pointer a, .int .i64 k] w fun e w' => e = .returned (.func (.func 81) #[] #[.pointer (some ⟨w.heap.size, 0, none⟩), .pointer (some ⟨w.heap.size + 1, 0, none⟩)]) ∧ (w.alloc (.cells #[.pointer a] 24)).alloc (.cells #[.int .i64 k] 3) = w' :=
  (callsIn_wide.1 (entries_in 6 a k w)).mono fun _ _ ⟨h1, h2⟩ => ⟨h1, h2.symm⟩

set_option maxRecDepth 100000 in
set_option maxHeartbeats 1000000 in
theorem isEmpty_in (h : MemAt w p g n R B) (k : Nat) (hk : k < n) (hr : 0 < R k) :
    CallsIn Fence.wide 6 Try.prog 91 #[.pointer (some ⟨p, 0, none⟩), .int .i64 k] w fun e W' =>
      e = .returned (.bool (decide (entsTo (B k) 16 = []))) ∧ Below w.heap.size w W' := by
  have hgl := h.g_lt
  have hpl := h.p_lt
  refine callsIn_of_wp_marks Try.func91 rfl trivial ?_ rfl
  simp only [Try.ntmps91, List.size_toArray, List.length_cons, List.length_nil, Nat.reduceAdd, Nat.reduceSub, Array.replicate_succ, Array.replicate_zero, List.push_toArray, List.append_toArray, List.nil_append, List.cons_append]
  gi_wp2_with (refine ⟨trivial, ?_⟩; gi_at_call 61; refine (entries_in _ _ _ _).mono ?_; rintro e w' ⟨rfl, rfl⟩)
  have bR := ((Boxed.new w 4 (.bool false)).alloc (.cells #[.pointer (some ⟨p, 0, none⟩)] 24)).alloc (.cells #[.int .i64 k] 3)
  have bM := (Boxed.new (w.alloc (.cells #[.bool false] 4)) 24 (.pointer (some ⟨p, 0, none⟩))).alloc (.cells #[.int .i64 k] 3)
  have bT := Boxed.new ((w.alloc (.cells #[.bool false] 4)).alloc (.cells #[.pointer (some ⟨p, 0, none⟩)] 24)) 3 (.int .i64 k)
  simp only [World.size_alloc] at bM bT
  have hB0 : Below w.heap.size w (((w.alloc (.cells #[.bool false] 4)).alloc (.cells #[.pointer (some ⟨p, 0, none⟩)] 24)).alloc (.cells #[.int .i64 k] 3)) := (((Below.refl _ w).alloc (Nat.le_refl _) _).alloc (by simp) _).alloc (by simp; omega) _
  have hsz : (((w.alloc (.cells #[.bool false] 4)).alloc (.cells #[.pointer (some ⟨p, 0, none⟩)] 24)).alloc (.cells #[.int .i64 k] 3)).heap.size = w.heap.size + 3 := by simp
  generalize (((w.alloc (.cells #[.bool false] 4)).alloc (.cells #[.pointer (some ⟨p, 0, none⟩)] 24)).alloc (.cells #[.int .i64 k] 3)) = W0 at *
  refine wpIn_rangeFunc_ownG (F := Fence.wide) (n := 6) rfl (by omega) (gf := 81) (lb := #[.pointer (some ⟨w.heap.size + 1, 0, none⟩), .pointer (some ⟨w.heap.size + 1 + 1, 0, none⟩)]) rfl trivial (enters_of Try.func81 (by kernel_rfl) rfl)
    (entries_stops 5 (by omega) (w.heap.size + 1) (w.heap.size + 1 + 1) k hk hr W0 (h.below hB0) bM.cell bT.cell) KpOne.trans (KpOne.put (by omega)) (Below.refl _ _) (fun _ => rfl)
    (fun pre W => (pre = [] ∧ Boxed W w.heap.size 4 (.bool false)) ∧ Below w.heap.size w W)
    (fun c _ W => (c = .ret ∧ Nonempty (Ent (B k)) ∧ Boxed W w.heap.size 4 (.bool false)) ∧ Below w.heap.size w W)
    (OwnFrom.and (OwnFrom.and (ownFrom_pure _ _) (Own.from (boxed_own _ _ _) _)) (ownFrom_below (Nat.le_refl _) (by omega)))
    (fun c => OwnFrom.and (OwnFrom.and (ownFrom_pure _ _) (OwnFrom.and (ownFrom_pure _ _) (Own.from (boxed_own _ _ _) _))) (ownFrom_below (Nat.le_refl _) (by omega)))
    ⟨⟨rfl, bR⟩, hB0⟩
    (fun x => { tmps := #[.pointer (some ⟨p, 0, none⟩), .int .i64 k, undef, undef, .pointer (some ⟨w.heap.size, 0, none⟩), .pointer (some ⟨p, 0, none⟩), .int .i64 k, (.func (.func 81) #[] #[.pointer (some ⟨w.heap.size + 1, 0, none⟩), .pointer (some ⟨w.heap.size + 1 + 1, 0, none⟩)]), .agg #[.int .i64 k, .int .i64 x.1], .agg #[.int .i64 (entP (B k) x.1).1, .int .i64 (entP (B k) x.1).2]], defers := [] }) ?assign ?body ?done ?stop
  case assign =>
    intro l x W K hK
    unfold entVals
    gi_wp2
    simpa using hK
  case body =>
    rintro l pre x W ⟨⟨rfl, bR1⟩, hB1⟩ _
    have r0 := bR1.cell; have r1 := bR1.frozen
    have BR := Lib.hid bR1
    clear bR1
    gi_wp2
    exact ⟨(KeepsOthers.setCell _ _ _).from _, ⟨rfl, ⟨x⟩, BR.out.set _⟩, hB1.setCell (p := ⟨w.heap.size, 0, none⟩) (Nat.le_refl _) _⟩
  case done =>
    rintro D zs W hD hzs ⟨⟨rfl, bR1⟩, hB1⟩ hK
    have HZ : Hid (decide (entsTo (B k) 16 = []) = true) := by unfold Hid; rw [← hzs]; rfl
    clear hzs
    have r0 := bR1.cell; have r1 := bR1.frozen
    have BR := Lib.hid bR1
    clear bR1
    gi_wp2
    refine ⟨by simp, .inl ⟨_, _, rfl, run_takeDeferred ((heap_set_other (by omega)).trans hK), ?_⟩⟩
    have s0 := (BR.out.set (.bool true)).cell
    have s1 : ((W.setCell ⟨w.heap.size, 0, none⟩ (.bool true)).putObj D (.deferred none)).cell? ⟨w.heap.size, 0, none⟩ = some (.bool true) := (World.cell?_of_block (World.putObj_heap_other (by show w.heap.size ≠ D; omega))).trans s0
    refine ⟨.bool true, by simp [results, Try.results91, go_sem, s1], by rw [HZ.out], ?_⟩
    exact below_put (hB1.setCell (p := ⟨w.heap.size, 0, none⟩) (Nat.le_refl _) _) (by omega)
  case stop =>
    rintro D c pre W hD _ ⟨⟨rfl, ⟨x⟩, bR1⟩, hB1⟩ hK
    have HZ : Hid (decide (entsTo (B k) 16 = []) = false) := by
      unfold Hid
      rw [decide_eq_false_iff_not]
      intro e
      have : x.1 ∈ entsTo (B k) 16 := by unfold entsTo; exact List.mem_filter.2 ⟨List.mem_range.2 x.2.1, by simpa using x.2.2⟩
      rw [e] at this
      cases this
    have r0 := bR1.cell
    have BR := Lib.hid bR1
    clear bR1
    gi_wp2
    refine ⟨by simp, .inl ⟨_, _, rfl, run_takeDeferred hK, ?_⟩⟩
    have s1 : (W.putObj D (.deferred none)).cell? ⟨w.heap.size, 0, none⟩ = some (.bool false) := (World.cell?_of_block (World.putObj_heap_other (by show w.heap.size ≠ D; omega))).trans BR.out.cell
    refine ⟨.bool false, by simp [results, Try.results91, go_sem, s1], by rw [HZ.out], ?_⟩
    exact below_put hB1 (by omega)

theorem isEmpty_any (h : MemAt w p g n R B) (k : Nat) (hk : k < n) (hr : 0 < R k) :
    Calls Try.prog 91 #[.pointer (some ⟨p, 0, none⟩), .int .i64 k] w fun e W' =>
      e = .returned (.bool (decide (entsTo (B k) 16 = []))) ∧ Below w.heap.size w W' := callsIn_wide.1 (isEmpty_in h k hk hr)

end
end Go.Proofs.Ytdkaaoboipphcaa
