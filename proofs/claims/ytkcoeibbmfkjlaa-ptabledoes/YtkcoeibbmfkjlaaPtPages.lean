/- Package ptable: Pages, walked. -/
import Derived.Test.YtkcoeibbmfkjlaaPtDrop
import Derived.Maps.OwnIn
namespace Go.Proofs.Ytkcoeibbmfkjlaa
open Go.RowKit Go.Shelf

attribute [local go_sem] Oper.semAt_some

theorem Try.infoInt2 : (Try.prog.info? 3).map (fun i => (i.zero, i.size, i.bytes)) = some (some (.int .i64 0), 1, 8) := by kernel_rfl

set_option maxRecDepth 100000 in
set_option maxHeartbeats 400000 in
theorem pages_nil (k : Int) (w : World) : Calls Try.prog 20 #[.pointer none, .int .i64 k] w fun e w' => e = .returned (.tuple #[.slice none 0 0, .int .i64 1]) ∧ Below w.heap.size w w' := by
  go_enter Try.func20, Try.ntmps20
  go_wp2_with fail
  refine (checkRoot_nil _ _).mono ?_
  rintro e w' ⟨rfl, rfl⟩
  go_wp2
  go_ret2
  exact ⟨rfl, (Below.refl _ _).alloc (Nat.le_refl _) _⟩

section
variable {w : World} {p g n : Nat} {R : Nat → Int} {B : Nat → List UInt8} {root : Nat} {T E : Nat → Nat × Nat}

set_option maxRecDepth 100000 in
set_option maxHeartbeats 400000 in
theorem pages_no (h : MemAt w p g n R B) (k : Int) (hl : liveB n R k = false) : Calls Try.prog 20 #[.pointer (some ⟨p, 0, none⟩), .int .i64 k] w fun e w' => e = .returned (.tuple #[.slice none 0 0, .int .i64 10]) ∧ Below w.heap.size w w' := by
  have HL := Lib.hid hl; clear hl
  have HB0 := Lib.hid ((Below.refl _ w).alloc (Nat.le_refl _) (.cells #[.pointer (some ⟨p, 0, none⟩)] 24))
  go_enter Try.func20, Try.ntmps20
  go_wp2_with fail
  generalize w.alloc (.cells #[.pointer (some ⟨p, 0, none⟩)] 24) = W1 at *
  refine (checkRoot_no (h.below2 HB0.out) _ HL.out).mono ?_
  rintro e w2 ⟨rfl, hB2⟩
  have HB2 : Hid (Below w.heap.size w w2) := HB0.out.trans (hB2.mono HB0.out.size)
  clear hB2
  go_wp2
  go_ret2
  exact ⟨rfl, HB2.out⟩

/-- the pages of a table, and of tables. -/
def pgOf (B : Nat → List UInt8) (root x : Nat) : List Nat := (entsTo (B (entP (B root) x).2) 16).map fun j => x * 16 + j
def pgL (B : Nat → List UInt8) (root : Nat) (l : List Nat) : List Nat := l.flatMap (pgOf B root)
theorem pgOf_len (B : Nat → List UInt8) (root x : Nat) : (pgOf B root x).length ≤ 16 := by unfold pgOf; rw [List.length_map]; exact entsTo_len _ _
theorem pgL_len (B : Nat → List UInt8) (root : Nat) : ∀ l : List Nat, (pgL B root l).length ≤ 16 * l.length
  | [] => by simp [pgL]
  | x :: l => by
    have h1 := pgL_len B root l
    have h2 := pgOf_len B root x
    unfold pgL at h1 ⊢
    rw [List.flatMap_cons, List.length_append, List.length_cons]
    omega
theorem pgL_snoc (B : Nat → List UInt8) (root : Nat) (l : List Nat) (x : Nat) : pgL B root (l ++ [x]) = pgL B root l ++ pgOf B root x := by
  unfold pgL; rw [List.flatMap_append]; simp
/-- .. and some of one more. -/
def pgX (B : Nat → List UInt8) (root : Nat) (l : List Nat) (x : Nat) (m : List Nat) : List Nat := pgL B root l ++ m.map fun j => x * 16 + j
theorem pgX_nil (B : Nat → List UInt8) (root : Nat) (l : List Nat) (x : Nat) : pgX B root l x (List.map Subtype.val ([] : List (Ent (B (entP (B root) x).2)))) = pgL B root l := by simp [pgX]
theorem pgX_len (B : Nat → List UInt8) (root : Nat) (l : List Nat) (x : Nat) (m : List Nat) : (pgX B root l x m).length = (pgL B root l).length + m.length := by simp [pgX]
theorem pgX_snoc (B : Nat → List UInt8) (root : Nat) (l : List Nat) (x : Nat) (m : List Nat) (j : Nat) : pgX B root l x (m ++ [j]) = pgX B root l x m ++ [x * 16 + j] := by simp [pgX]
theorem pgX_all (B : Nat → List UInt8) (root : Nat) (l : List Nat) (x : Nat) : pgX B root l x (entsTo (B (entP (B root) x).2) 16) = pgL B root (l ++ [x]) := by rw [pgL_snoc]; rfl
def intV (q : Nat) : Value := .int .i64 (q : Int)

theorem Boxed2.not_row {W : World} {b : Nat} {t e : TypeId} {u v : Value} (h : Boxed2 W b t u v) (hte : t ≠ e) {base size k : Nat} {s : Value} {xs : List Value} (hr : W.ownsRow base e size s k xs) : some b ≠ s.ownBlock := by
  rcases hr.2 with ⟨rfl, _⟩ | ⟨g, cap, cur, rfl, _, hgb, _⟩
  · simp [Value.ownBlock]
  · intro e'
    obtain rfl : b = g := by simpa [Value.ownBlock] using e'
    have := h.blk.symm.trans hgb
    simp at this
    exact hte this.2

/-- a box behind an append to another one's slice. -/
theorem boxed_pass {W w1 : World} {b c : Nat} {t : TypeId} {u z : Value} {tmp : Obj} {v : Value} (h : Boxed W b t u) (hne : some b ≠ v.ownBlock) (hg : (W.alloc tmp).grownBy w1 v.ownBlock) (hc : b ≠ c) : Boxed (w1.setCell ⟨c, 0, none⟩ z) b t u :=
  ((h.alloc tmp).kept hg hne).other hc z
theorem Boxed2.pass {W w1 : World} {b c : Nat} {t : TypeId} {u u' z : Value} {tmp : Obj} {v : Value} (h : Boxed2 W b t u u') (hne : some b ≠ v.ownBlock) (hg : (W.alloc tmp).grownBy w1 v.ownBlock) (hc : b ≠ c) : Boxed2 (w1.setCell ⟨c, 0, none⟩ z) b t u u' :=
  ((h.alloc tmp).keep (hg.block b (h.alloc tmp).lt hne)).keep (heap_setCell_other _ _ _ _ hc)

set_option maxRecDepth 100000 in
set_option maxHeartbeats 2000000 in
theorem pages_in (h : MemAt w p g n R B) (r : Rep n R B root T E) :
    CallsIn Fence.wide 8 Try.prog 20 #[.pointer (some ⟨p, 0, none⟩), .int .i64 root] w fun e W' =>
      (∃ v, e = .returned (.tuple #[v, .int .i64 0]) ∧ W'.ownsRow w.heap.size 3 1 v (pgL B root (entsTo (B root) 16)).length ((pgL B root (entsTo (B root) 16)).map intV)) ∧ Below w.heap.size w W' := by
  have hrt := r.rt
  have hrl : 0 < R root := by rw [r.rR]; omega
  have HB0 := Lib.hid ((Below.refl _ w).alloc (Nat.le_refl _) (.cells #[.pointer (some ⟨p, 0, none⟩)] 24))
  have bM := Boxed.new w 24 (.pointer (some ⟨p, 0, none⟩))
  refine callsIn_of_wp_marks Try.func20 rfl trivial ?_ rfl
  simp only [Try.ntmps20, List.size_toArray, List.length_cons, List.length_nil, Nat.reduceAdd, Nat.reduceSub, Array.replicate_succ, Array.replicate_zero, List.push_toArray, List.append_toArray, List.nil_append, List.cons_append]
  gi_wp2_with fail
  generalize w.alloc (.cells #[.pointer (some ⟨p, 0, none⟩)] 24) = W1 at *
  refine ⟨trivial, callsIn_wide.2 ((checkRoot_ok (h.below2 HB0.out) _ r.live).mono ?_)⟩
  rintro e w2 ⟨rfl, hB2⟩
  have hB2' : Below w.heap.size w w2 := HB0.out.trans (hB2.mono HB0.out.size)
  have bM2 : Boxed w2 w.heap.size 24 (.pointer (some ⟨p, 0, none⟩)) := bM.kept (grown_of_below hB2 none) (by simp)
  have cM := bM2.cell
  have hs2 := bM2.lt
  clear hB2 bM HB0
  gi_wp2_with (refine ⟨trivial, ?_⟩; gi_at_call 46; refine (entries_in _ _ _ _).mono ?_; rintro e w' ⟨rfl, rfl⟩)
  have bM3 := ((bM2.alloc (.cells #[.slice none 0 0] 44)).alloc (.cells #[.pointer (some ⟨p, 0, none⟩)] 24)).alloc (.cells #[.int .i64 root] 3)
  have bL := ((Boxed.new w2 44 (.slice none 0 0)).alloc (.cells #[.pointer (some ⟨p, 0, none⟩)] 24)).alloc (.cells #[.int .i64 root] 3)
  have bE := (Boxed.new (w2.alloc (.cells #[.slice none 0 0] 44)) 24 (.pointer (some ⟨p, 0, none⟩))).alloc (.cells #[.int .i64 root] 3)
  have bT := Boxed.new ((w2.alloc (.cells #[.slice none 0 0] 44)).alloc (.cells #[.pointer (some ⟨p, 0, none⟩)] 24)) 3 (.int .i64 root)
  simp only [World.size_alloc] at bE bT
  have hB3 : Below w.heap.size w (((w2.alloc (.cells #[.slice none 0 0] 44)).alloc (.cells #[.pointer (some ⟨p, 0, none⟩)] 24)).alloc (.cells #[.int .i64 root] 3)) := ((hB2'.alloc hB2'.size _).alloc (by have := hB2'.size; simp; omega) _).alloc (by have := hB2'.size; simp; omega) _
  have hsz : (((w2.alloc (.cells #[.slice none 0 0] 44)).alloc (.cells #[.pointer (some ⟨p, 0, none⟩)] 24)).alloc (.cells #[.int .i64 root] 3)).heap.size = w2.heap.size + 3 := by simp
  generalize (((w2.alloc (.cells #[.slice none 0 0] 44)).alloc (.cells #[.pointer (some ⟨p, 0, none⟩)] 24)).alloc (.cells #[.int .i64 root] 3)) = W0 at *
  obtain ⟨i0, hi, hz0, hz1, hz2⟩ := info_parts Try.infoInt2
  have HI := Lib.hid hi; have HZ0 := Lib.hid hz0; have HZ1 := Lib.hid hz1; have HZ2 := Lib.hid hz2
  clear hi hz0 hz1 hz2
  refine wpIn_rangeFunc_ownH (F := Fence.wide) (n := 8) rfl (by omega) (gf := 61) (lb := #[.pointer (some ⟨w2.heap.size + 1, 0, none⟩), .pointer (some ⟨w2.heap.size + 1 + 1, 0, none⟩)]) rfl trivial (enters_of Try.func61 (by kernel_rfl) rfl)
    (entries_stops 7 (by omega) (w2.heap.size + 1) (w2.heap.size + 1 + 1) root hrt hrl W0 (h.below2 hB3) bE.cell bT.cell) KpOne.trans (KpOne.put (by omega)) (Below.refl _ _) (fun _ => rfl)
    (fun pre W => ((∃ v, Boxed W w2.heap.size 44 v ∧ W.ownsRow w.heap.size 3 1 v (pgL B root (pre.map Subtype.val)).length ((pgL B root (pre.map Subtype.val)).map intV) ∧ v.ownBlock ≠ some (w2.heap.size + 1 + 1)) ∧ Boxed W w.heap.size 24 (.pointer (some ⟨p, 0, none⟩)) ∧ Boxed W (w2.heap.size + 1 + 1) 3 (.int .i64 root)) ∧ Below w.heap.size w W)
    (fun _ _ _ => False)
    (OwnFrom.and (OwnFrom.and (Own.from (holdsRow_own w.heap.size w2.heap.size 44 3 1 (fun pre : List (Ent (B root)) => (pgL B root (pre.map Subtype.val)).length) (fun pre => (pgL B root (pre.map Subtype.val)).map intV) (fun _ v => v.ownBlock ≠ some (w2.heap.size + 1 + 1))) _) (OwnFrom.and (Own.from (boxed_own _ _ _) _) (Own.from (boxed_own _ _ _) _))) (ownFrom_below (Nat.le_refl _) (by omega)))
    (fun _ _ _ _ _ hs _ _ => hs)
    ⟨⟨⟨_, bL, World.ownsRow_nil _ _ _ _, by simp [Value.ownBlock]⟩, bM3, bT⟩, hB3⟩
    (fun x a' W => ∃ B1 B2, w2.heap.size + 1 + 1 < B1 ∧ w2.heap.size + 1 + 1 < B2 ∧ Boxed2 W B1 78 (.int .i64 root) (.int .i64 x.1) ∧ Boxed2 W B2 68 (.int .i64 (entP (B root) x.1).1) (.int .i64 (entP (B root) x.1).2) ∧
      a' = { tmps := #[.pointer (some ⟨p, 0, none⟩), .int .i64 root, .pointer (some ⟨w.heap.size, 0, none⟩), undef, .slice none 0 0, .int .i64 0, .int .i64 0, .pointer (some ⟨w2.heap.size, 0, none⟩), .pointer (some ⟨B1, 0, none⟩), .pointer (some ⟨B2, 0, none⟩), undef, .pointer (some ⟨p, 0, none⟩), .int .i64 root, .int .i64 0, .int .i64 0, .bool false, undef, .pointer (some ⟨p, 0, none⟩), .int .i64 root, (.func (.func 61) #[] #[.pointer (some ⟨w2.heap.size + 1, 0, none⟩), .pointer (some ⟨w2.heap.size + 1 + 1, 0, none⟩)]), .agg #[.int .i64 root, .int .i64 x.1], .agg #[.int .i64 (entP (B root) x.1).1, .int .i64 (entP (B root) x.1).2], undef, undef, undef, undef, undef, undef, undef, undef, undef, undef, undef, undef, undef, undef, undef, undef], defers := [] })
    (fun x a' _ X Y row hs hg hr => by obtain ⟨B1, B2, h1, h2, h3, h4, h5⟩ := hs; exact ⟨B1, B2, h1, h2, h3.kept hg (fun r e => (hr r e).2), h4.kept hg (fun r e => (hr r e).2), h5⟩)
    ?assign ?body ?done ?stop
  case assign =>
    rintro l pre x W K ⟨⟨⟨v, bL1, hrow, hv⟩, bM4, bT4⟩, hB4⟩ hK
    unfold entVals
    gi_wp2
    have hlT := bT4.lt
    have hsW := hB4.size
    have bN := Boxed2.new (W.alloc (.cells #[.int .i64 root, .int .i64 x.1] 78)) 68 (.int .i64 (entP (B root) x.1).1) (.int .i64 (entP (B root) x.1).2)
    rw [World.size_alloc] at bN
    exact hK _ _ (((KeepsOthers.alloc _ _).trans (KeepsOthers.alloc _ _)).from _) ((KpOne.alloc hlT _).trans (KpOne.alloc (by simp; omega) _)) ⟨⟨⟨v, (bL1.alloc _).alloc _, (hrow.alloc _).alloc _, hv⟩, (bM4.alloc _).alloc _, (bT4.alloc _).alloc _⟩, (hB4.alloc hsW _).alloc (by simp; omega) _⟩ ⟨W.heap.size, W.heap.size + 1, hlT, by omega, (Boxed2.new W _ _ _).alloc _, bN, rfl⟩
  case body =>
    rintro l pre x a' W hl ⟨rr, hrr⟩ ⟨⟨⟨v, bL1, hrow, hv⟩, bM4, bT4⟩, hB4⟩ ⟨B1, B2, h1, h2, bU, bV, rfl⟩ hlt
    have c0 := bM4.cell
    have v1 := bV.c1
    have hlT := bT4.lt
    have hsW := hB4.size
    have hTx : T x.1 ≠ (0, 0) := by rw [← r.pT x.2.1]; exact x.2.2
    have htn : (entP (B root) x.1).2 < n := by rw [r.pT x.2.1]; exact (r.tb _ x.2.1 hTx).2.1
    have htr : 0 < R (entP (B root) x.1).2 := by rw [r.pT x.2.1, (r.tb _ x.2.1 hTx).2.2.2.1]; omega
    have hlU := bU.lt
    have hrlt : l < W.heap.size := (Array.getElem?_eq_some_iff.1 hrr).1
    have hown := fun k e => (hrow.lt k e).2
    clear hTx
    gi_wp2_with (refine ⟨trivial, ?_⟩; gi_at_call 46; refine (CallsIn.inRound l (entries_in _ _ _ _)).mono ?_; rintro e w' ⟨rfl, rfl⟩)
    have bL2 := (bL1.alloc (.cells #[.pointer (some ⟨p, 0, none⟩)] 24)).alloc (.cells #[.int .i64 (entP (B root) x.1).2] 3)
    have bM5 := (bM4.alloc (.cells #[.pointer (some ⟨p, 0, none⟩)] 24)).alloc (.cells #[.int .i64 (entP (B root) x.1).2] 3)
    have bT5 := (bT4.alloc (.cells #[.pointer (some ⟨p, 0, none⟩)] 24)).alloc (.cells #[.int .i64 (entP (B root) x.1).2] 3)
    have bU5 := (bU.alloc (.cells #[.pointer (some ⟨p, 0, none⟩)] 24)).alloc (.cells #[.int .i64 (entP (B root) x.1).2] 3)
    have hrow5 := (hrow.alloc (.cells #[.pointer (some ⟨p, 0, none⟩)] 24)).alloc (.cells #[.int .i64 (entP (B root) x.1).2] 3)
    have bE5 := (Boxed.new W 24 (.pointer (some ⟨p, 0, none⟩))).alloc (.cells #[.int .i64 (entP (B root) x.1).2] 3)
    have bI5 := Boxed.new (W.alloc (.cells #[.pointer (some ⟨p, 0, none⟩)] 24)) 3 (.int .i64 (entP (B root) x.1).2)
    rw [World.size_alloc] at bI5
    have hB5 : Below w.heap.size W ((W.alloc (.cells #[.pointer (some ⟨p, 0, none⟩)] 24)).alloc (.cells #[.int .i64 (entP (B root) x.1).2] 3)) := ((Below.refl _ W).alloc hsW _).alloc (by simp; omega) _
    have hK5 : KeepsFrom W0.heap.size W ((W.alloc (.cells #[.pointer (some ⟨p, 0, none⟩)] 24)).alloc (.cells #[.int .i64 (entP (B root) x.1).2] 3)) := ((KeepsOthers.alloc _ _).trans (KeepsOthers.alloc _ _)).from _
    have hr5 : ((W.alloc (.cells #[.pointer (some ⟨p, 0, none⟩)] 24)).alloc (.cells #[.int .i64 (entP (B root) x.1).2] 3)).heap[l]? = some (.loop rr) := (Below.heap_alloc _ _ l (by simp; omega)).trans ((Below.heap_alloc W _ l hrlt).trans hrr)
    have hsz5 : ((W.alloc (.cells #[.pointer (some ⟨p, 0, none⟩)] 24)).alloc (.cells #[.int .i64 (entP (B root) x.1).2] 3)).heap.size = W.heap.size + 2 := by simp
    have hv5 : v.ownBlock ≠ some (W.heap.size + 1) := fun e => by have := hown _ e; omega
    have hpl := pgL_len B root (pre.map Subtype.val)
    rw [List.length_map] at hpl
    generalize ((W.alloc (.cells #[.pointer (some ⟨p, 0, none⟩)] 24)).alloc (.cells #[.int .i64 (entP (B root) x.1).2] 3)) = V0 at *
    refine wpIn_rangeFunc_ownN (F := Fence.wide.inRound l) (n := 8 - 1 - 1) (l₀ := l) (r₀ := rr) rfl hr5 (by omega) (gf := 61) (lb := #[.pointer (some ⟨W.heap.size, 0, none⟩), .pointer (some ⟨W.heap.size + 1, 0, none⟩)]) rfl trivial (enters_of Try.func61 (by kernel_rfl) rfl)
      ((entries_stops 5 (by omega) W.heap.size (W.heap.size + 1) (entP (B root) x.1).2 htn htr V0 (h.below2 (hB4.trans hB5)) bE5.cell bI5.cell).inRound l) KpOne.trans (KpOne.put (by omega)) (Below.refl _ _) (fun _ => rfl)
      (fun pre' W' => ((∃ v, Boxed W' w2.heap.size 44 v ∧ W'.ownsRow w.heap.size 3 1 v (pgX B root (pre.map Subtype.val) x.1 (pre'.map Subtype.val)).length ((pgX B root (pre.map Subtype.val) x.1 (pre'.map Subtype.val)).map intV) ∧ (v.ownBlock ≠ some (w2.heap.size + 1 + 1) ∧ v.ownBlock ≠ some (W.heap.size + 1))) ∧ (Boxed2 W' B1 78 (.int .i64 root) (.int .i64 x.1) ∧ Boxed W' w.heap.size 24 (.pointer (some ⟨p, 0, none⟩))) ∧ Boxed W' (w2.heap.size + 1 + 1) 3 (.int .i64 root) ∧ Boxed W' (W.heap.size + 1) 3 (.int .i64 (entP (B root) x.1).2)) ∧ (Below w.heap.size W W' ∧ KeepsFrom W0.heap.size W W'))
      (fun _ _ _ => False)
      (OwnFrom.and (OwnFrom.and (Own.from (holdsRow_own w.heap.size w2.heap.size 44 3 1 (fun pre' : List (Ent (B (entP (B root) x.1).2)) => (pgX B root (pre.map Subtype.val) x.1 (pre'.map Subtype.val)).length) (fun pre' => (pgX B root (pre.map Subtype.val) x.1 (pre'.map Subtype.val)).map intV) (fun _ v => v.ownBlock ≠ some (w2.heap.size + 1 + 1) ∧ v.ownBlock ≠ some (W.heap.size + 1))) _) (OwnFrom.and (OwnFrom.and (Own.from (fun s X Y row hs hg hr => Boxed2.kept hs hg hr) _) (Own.from (boxed_own _ _ _) _)) (OwnFrom.and (Own.from (boxed_own _ _ _) _) (Own.from (boxed_own _ _ _) _)))) (OwnFrom.and (ownFrom_below hsW (by omega)) (ownFrom_keepsFrom (by omega))))
      (fun _ _ _ _ _ hs _ _ => hs)
      ⟨⟨⟨v, bL2, by rw [pgX_nil]; exact hrow5, hv, hv5⟩, ⟨bU5, bM5⟩, bT5, bI5⟩, hB5, hK5⟩
      (fun y a'' W' => ∃ B3, W.heap.size + 1 < B3 ∧ Boxed2 W' B3 78 (.int .i64 (entP (B root) x.1).2) (.int .i64 y.1) ∧
        a'' = { tmps := #[.pointer (some ⟨p, 0, none⟩), .int .i64 root, .pointer (some ⟨w.heap.size, 0, none⟩), undef, .slice none 0 0, .int .i64 0, .int .i64 0, .pointer (some ⟨w2.heap.size, 0, none⟩), .pointer (some ⟨B1, 0, none⟩), .pointer (some ⟨B2, 0, none⟩), .pointer (some ⟨B3, 0, none⟩), .pointer (some ⟨p, 0, none⟩), .int .i64 root, .int .i64 0, .int .i64 0, .bool false, undef, .pointer (some ⟨p, 0, none⟩), .int .i64 root, (.func (.func 61) #[] #[.pointer (some ⟨w2.heap.size + 1, 0, none⟩), .pointer (some ⟨w2.heap.size + 1 + 1, 0, none⟩)]), .agg #[.int .i64 root, .int .i64 x.1], .agg #[.int .i64 (entP (B root) x.1).1, .int .i64 (entP (B root) x.1).2], .pointer (some ⟨p, 0, none⟩), .pointer (some ⟨B2, 1, none⟩), .int .i64 (entP (B root) x.1).2, (.func (.func 61) #[] #[.pointer (some ⟨W.heap.size, 0, none⟩), .pointer (some ⟨W.heap.size + 1, 0, none⟩)]), .agg #[.int .i64 (entP (B root) x.1).2, .int .i64 y.1], .agg #[.int .i64 (entP (B (entP (B root) x.1).2) y.1).1, .int .i64 (entP (B (entP (B root) x.1).2) y.1).2], undef, undef, undef, undef, undef, undef, undef, undef, undef, undef], defers := [] })
      (fun y a' _ X Y row hs hg hr => by obtain ⟨B3, h1, h3, h5⟩ := hs; exact ⟨B3, h1, h3.kept hg (fun r e => (hr r e).2), h5⟩)
      ?assign2 ?body2 ?done2 ?stop2
    case assign2 =>
      rintro l2 pre' y W' K ⟨⟨⟨v', bL6, hrow6, hv6⟩, ⟨bU6, bM6⟩, bT6, bI6⟩, hB6, hK6⟩ hK
      unfold entVals
      gi_wp2
      have hlI := bI6.lt
      exact hK _ _ ((KeepsOthers.alloc _ _).from _) (KpOne.alloc hlI _) ⟨⟨⟨v', bL6.alloc _, hrow6.alloc _, hv6⟩, ⟨bU6.alloc _, bM6.alloc _⟩, bT6.alloc _, bI6.alloc _⟩, hB6.alloc (by have := hB6.size; omega) _, hK6.trans ((KeepsOthers.alloc _ _).from _)⟩ ⟨W'.heap.size, hlI, Boxed2.new W' _ _ _, rfl⟩
    case body2 =>
      rintro l2 pre' y a'' W' _ _ ⟨⟨⟨v', bL6, hrow6, hv6⟩, ⟨bU6, bM6⟩, bT6, bI6⟩, hB6, hK6⟩ ⟨B3, h3, bY, rfl⟩ hlt2
      have k0 := bL6.cell
      have k1 := bU6.c1
      have k2 := bY.c1
      have hlI := bI6.lt
      have hlT6 := bT6.lt
      have hsW6 := hB6.size
      have hx16 := x.2.1
      have hy16 := y.2.1
      have hlenx : (pgX B root (pre.map Subtype.val) x.1 (pre'.map Subtype.val)).length ≤ 300 := by
        rw [pgX_len, List.length_map]; omega
      have hbl := hrow6.lt
      gi_wp2_with (gi_at_builtin; refine wpListIn_append_own_at _ rfl _ _ 44 rfl w.heap.size 3 i0 (.int .i64 0) 1 8 Try.underlying44 HI.out HZ0.out HZ1.out HZ2.out rfl (by decide) _ _ _ rfl (hrow6.alloc _) ⟨W'.heap.size, 0, none⟩ 1 1 [.int .i64 ((x.1 : Int) * 16 + y.1)] rfl rfl (cell_one_new _ _ _) (by simp [Value.oneCell']) (by unfold maxLen; omega) (by omega) (by simp; omega) ?_; intro v7 w7 hown7 hgrow7 _ hat7; obtain ⟨g7, cap7, rfl⟩ := ownsRow_succ hown7; obtain ⟨hv71, hv72, hr7, hk7, hb7⟩ := bL6.appended (by decide) hrow6 (by omega) (by omega) hown7 hgrow7; have hc7 := hv71.cell; have hf7 := hv71.frozen; have nU := bU6.not_row (e := 3) (by decide) hrow6; have nM := bM6.not_row (e := 3) (by decide) hrow6; have HO := Lib.hid hr7; have HA := Lib.hid hat7; have HG := Lib.hid hgrow7; clear hr7 hat7 hgrow7 hown7)
      refine ⟨hk7.from _, Eq.trans (boxed_pass bI6 (fun e => hv6.2 e.symm) HG.out (by omega)) (Eq.symm bI6), ⟨⟨⟨_, hv72, ?_, ?_, ?_⟩, ⟨bU6.pass nU HG.out (by omega), boxed_pass bM6 nM HG.out (by omega)⟩, boxed_pass bT6 (fun e => hv6.1 e.symm) HG.out (by omega), boxed_pass bI6 (fun e => hv6.2 e.symm) HG.out (by omega)⟩, hB6.trans hb7, hK6.trans (hk7.from _)⟩⟩
      · rw [List.map_append, List.map_cons, List.map_nil, pgX_snoc, List.length_append, List.map_append]
        have e1 : intV (x.1 * 16 + y.1) = .int .i64 ((x.1 : Int) * 16 + y.1) := by unfold intV; congr 1
        rw [List.map_cons, List.map_nil, e1]
        exact HO.out
      · rcases HA.out with e | e
        · rw [e]; exact hv6.1
        · rw [e]; intro c; have := Option.some.inj c; simp at this; omega
      · rcases HA.out with e | e
        · rw [e]; exact hv6.2
        · rw [e]; intro c; have := Option.some.inj c; simp at this; omega
    case done2 =>
      rintro ys' W' hys ⟨⟨⟨v', bL6, hrow6, hv6⟩, ⟨bU6, bM6⟩, bT6, bI6⟩, hB6, hK6⟩
      rw [hys, pgX_all] at hrow6
      have HR6 := Lib.hid hrow6
      clear hys hrow6
      gi_wp2
      refine ⟨hK6, Eq.trans bT6 (Eq.symm bT4), ⟨⟨v', bL6, ?_, hv6.1⟩, bM6, bT6⟩, hB4.trans hB6⟩
      rw [List.map_append]
      exact HR6.out
    case stop2 =>
      rintro c pre' W' _ h
      exact h.elim
  case done =>
    rintro D zs W hD hzs ⟨⟨⟨v, bL1, hrow, hv⟩, bM4, bT4⟩, hB4⟩ hK
    have c0 := bL1.cell
    rw [hzs] at hrow
    have HR := Lib.hid hrow
    clear hzs hrow
    gi_wp2
    refine ⟨by simp, .inl ⟨_, _, rfl, run_takeDeferred hK, ?_⟩⟩
    exact ⟨_, results_tmp2 rfl _ _ _, ⟨v, rfl, ownsRow_putObj HR.out _ hK rfl⟩, below_put hB4 (by omega)⟩
  case stop =>
    rintro D c pre W _ _ h _
    exact h.elim

theorem pages_raw (h : MemAt w p g n R B) (r : Rep n R B root T E) :
    Calls Try.prog 20 #[.pointer (some ⟨p, 0, none⟩), .int .i64 root] w fun e W' =>
      (∃ v, e = .returned (.tuple #[v, .int .i64 0]) ∧ W'.ownsRow w.heap.size 3 1 v (pgL B root (entsTo (B root) 16)).length ((pgL B root (entsTo (B root) 16)).map intV)) ∧ Below w.heap.size w W' := callsIn_wide.1 (pages_in h r)

end
end Go.Proofs.Ytkcoeibbmfkjlaa
