/- Package proc: zombieOf, walked. -/
import Derived.Test.YtonllnbincgdpaaProcThose
import Derived.BigRegionIn
namespace Go.Proofs.Ytonllnbincgdpaa
open Go.RowKit Go.Shelf Go.Maps

attribute [local go_sem] Oper.semAt_some

abbrev z8 : Array Value := #[.int .i64 0, .int .i64 0, .int .i64 0, .int .i64 0, .int .i64 0, .string ⟨#[]⟩, .int .i64 0, .bool false]
/-- eight stores into one block. -/
abbrev set8 (w : World) (b : Nat) (y0 y1 y2 y3 y4 y5 y6 y7 : Value) : World := (((((((w.setCell ⟨b, 0, none⟩ y0).setCell ⟨b, 1, none⟩ y1).setCell ⟨b, 2, none⟩ y2).setCell ⟨b, 3, none⟩ y3).setCell ⟨b, 4, none⟩ y4).setCell ⟨b, 5, none⟩ y5).setCell ⟨b, 6, none⟩ y6).setCell ⟨b, 7, none⟩ y7
theorem BoxA.set8 {w : World} {b : Nat} {t : TypeId} {x0 x1 x2 x3 x4 x5 x6 x7 : Value} (h : BoxA w b t #[x0, x1, x2, x3, x4, x5, x6, x7]) (y0 y1 y2 y3 y4 y5 y6 y7 : Value) : BoxA (set8 w b y0 y1 y2 y3 y4 y5 y6 y7) b t #[y0, y1, y2, y3, y4, y5, y6, y7] := by
  have h0 : BoxA _ b t #[y0, x1, x2, x3, x4, x5, x6, x7] := h.set 0 y0
  have h1 : BoxA _ b t #[y0, y1, x2, x3, x4, x5, x6, x7] := h0.set 1 y1
  have h2 : BoxA _ b t #[y0, y1, y2, x3, x4, x5, x6, x7] := h1.set 2 y2
  have h3 : BoxA _ b t #[y0, y1, y2, y3, x4, x5, x6, x7] := h2.set 3 y3
  have h4 : BoxA _ b t #[y0, y1, y2, y3, y4, x5, x6, x7] := h3.set 4 y4
  have h5 : BoxA _ b t #[y0, y1, y2, y3, y4, y5, x6, x7] := h4.set 5 y5
  have h6 : BoxA _ b t #[y0, y1, y2, y3, y4, y5, y6, x7] := h5.set 6 y6
  have h7 : BoxA _ b t #[y0, y1, y2, y3, y4, y5, y6, y7] := h6.set 7 y7
  exact h7
theorem drew_heap (w : World) (k : Nat) : w.drew.heap[k]? = w.heap[k]? := rfl
theorem BoxA.drew {w : World} {b : Nat} {t : TypeId} {xs : Array Value} (h : BoxA w b t xs) : BoxA w.drew b t xs := ⟨h.blk⟩
theorem BoxA.putObj {w : World} {b D : Nat} {t : TypeId} {xs : Array Value} (h : BoxA w b t xs) (hne : b ≠ D) (o : Obj) : BoxA (w.putObj D o) b t xs := h.keep (World.putObj_heap_other hne)
theorem set8_other {w : World} {b k : Nat} (h : k ≠ b) (y0 y1 y2 y3 y4 y5 y6 y7 : Value) : (set8 w b y0 y1 y2 y3 y4 y5 y6 y7).heap[k]? = w.heap[k]? := by
  exact (heap_setCell_other _ _ _ _ h).trans ((heap_setCell_other _ _ _ _ h).trans ((heap_setCell_other _ _ _ _ h).trans ((heap_setCell_other _ _ _ _ h).trans ((heap_setCell_other _ _ _ _ h).trans ((heap_setCell_other _ _ _ _ h).trans ((heap_setCell_other _ _ _ _ h).trans (heap_setCell_other _ _ _ _ h)))))))
theorem below_set8 {w w' : World} {b n : Nat} (h : Below n w w') (hb : n ≤ b) (y0 y1 y2 y3 y4 y5 y6 y7 : Value) : Below n w (set8 w' b y0 y1 y2 y3 y4 y5 y6 y7) :=
  (((((((h.setCell (p := ⟨b, 0, none⟩) hb y0).setCell (p := ⟨b, 1, none⟩) hb y1).setCell (p := ⟨b, 2, none⟩) hb y2).setCell (p := ⟨b, 3, none⟩) hb y3).setCell (p := ⟨b, 4, none⟩) hb y4).setCell (p := ⟨b, 5, none⟩) hb y5).setCell (p := ⟨b, 6, none⟩) hb y6).setCell (p := ⟨b, 7, none⟩) hb y7
theorem keeps_set8 {w w' : World} {b : Nat} (h : KeepsOthers w w') (y0 y1 y2 y3 y4 y5 y6 y7 : Value) : KeepsOthers w (set8 w' b y0 y1 y2 y3 y4 y5 y6 y7) :=
  (((((((h.trans (KeepsOthers.setCell _ _ _)).trans (KeepsOthers.setCell _ _ _)).trans (KeepsOthers.setCell _ _ _)).trans (KeepsOthers.setCell _ _ _)).trans (KeepsOthers.setCell _ _ _)).trans (KeepsOthers.setCell _ _ _)).trans (KeepsOthers.setCell _ _ _)).trans (KeepsOthers.setCell _ _ _)

/-- zombieOf's error behind some processes none of which is the one that is reaped. -/
def zomQ (k : Int) (L : List PV) : Int := if L.any (fun q => q.par == k) then 63 else 62
def isZ (k : Int) (q : PV) : Bool := q.par == k && q.st == 3
theorem zomO_none {L : List PV} {k : Int} (h : ∀ q ∈ L, isZ k q = false) : zomO L k = none := by
  unfold zomO
  rw [List.find?_eq_none]
  intro q hq
  have := h q hq
  unfold isZ at this
  simp [this]
theorem zomO_some {L pre : List PV} {x : PV} {k : Int} (h : ∀ q ∈ pre, isZ k q = false) (hx : isZ k x = true) (hp : pre ++ [x] <+: L) : zomO L k = some x := by
  obtain ⟨r, rfl⟩ := hp
  unfold zomO
  rw [List.find?_append, List.find?_append]
  have h1 := zomO_none h
  unfold zomO at h1
  unfold isZ at hx
  rw [h1]
  simp [hx]
theorem zomE_none {L : List PV} {k : Int} (h : zomO L k = none) : zomE L k = zomQ k L := by unfold zomE zomQ; rw [h]
theorem zomE_some {L : List PV} {k : Int} {x : PV} (h : zomO L k = some x) : zomE L k = 0 := by unfold zomE; rw [h]
theorem zomQ_yes {L : List PV} {x : PV} {k : Int} (h : x.par = k) : zomQ k (L ++ [x]) = 63 := by unfold zomQ; rw [List.any_append]; simp [h]
theorem zomQ_no {L : List PV} {x : PV} {k : Int} (h : x.par ≠ k) : zomQ k (L ++ [x]) = zomQ k L := by unfold zomQ; rw [List.any_append]; simp [h]

section
variable {w : World} {p m : Nat} {L : List PV} {g : Int}

set_option maxRecDepth 100000 in
set_option maxHeartbeats 2000000 in
theorem zombie_in (hW : TabAt w p m L g) (k : Int) :
    CallsIn Fence.wide 8 Try.prog 36 #[.pointer (some ⟨p, 0, none⟩), .int .i64 k] w fun e W' =>
      e = .returned (.tuple #[((zomO L k).getD PV.zero).val, .int .i64 (zomE L k)]) ∧ Below w.heap.size w W' := by
  have hpl := hW.p_lt
  have hml := hW.m_lt
  refine callsIn_of_wp_marks Try.func36 rfl trivial ?_ rfl
  simp only [Try.ntmps36, List.size_toArray, List.length_cons, List.length_nil, Nat.reduceAdd, Nat.reduceSub, Array.replicate_succ, Array.replicate_zero, List.push_toArray, List.append_toArray, List.nil_append, List.cons_append]
  gi_wp2_with (refine ⟨trivial, ?_⟩; gi_at_call 49; refine (rising_in _ _ _).mono ?_; rintro e w' ⟨rfl, rfl⟩)
  refine wpIn_scope' ?_
  gi_wp2_with (refine ⟨trivial, ?_⟩; gi_at_call 49; refine (rising_in _ _ _).mono ?_; rintro e w' ⟨rfl, rfl⟩)
  refine wpIn_label ?_
  gi_wp2_with (refine ⟨trivial, ?_⟩; gi_at_call 49; refine (rising_in _ _ _).mono ?_; rintro e w' ⟨rfl, rfl⟩)
  have bK := ((((BoxA.new w 3 #[.int .i64 k]).alloc (.cells z8 39)).alloc (.cells z8 39)).alloc (.cells #[.int .i64 62] 40)).alloc (.cells #[.pointer (some ⟨p, 0, none⟩)] 24)
  have bR := (((BoxA.new (w.alloc (.cells #[.int .i64 k] 3)) 39 z8).alloc (.cells z8 39)).alloc (.cells #[.int .i64 62] 40)).alloc (.cells #[.pointer (some ⟨p, 0, none⟩)] 24)
  have bC := ((BoxA.new ((w.alloc (.cells #[.int .i64 k] 3)).alloc (.cells z8 39)) 39 z8).alloc (.cells #[.int .i64 62] 40)).alloc (.cells #[.pointer (some ⟨p, 0, none⟩)] 24)
  have bE := (BoxA.new (((w.alloc (.cells #[.int .i64 k] 3)).alloc (.cells z8 39)).alloc (.cells z8 39)) 40 #[.int .i64 62]).alloc (.cells #[.pointer (some ⟨p, 0, none⟩)] 24)
  have bT := BoxA.new ((((w.alloc (.cells #[.int .i64 k] 3)).alloc (.cells z8 39)).alloc (.cells z8 39)).alloc (.cells #[.int .i64 62] 40)) 24 #[.pointer (some ⟨p, 0, none⟩)]
  simp only [World.size_alloc] at bR bC bE bT
  have hB0 : Below w.heap.size w (((((w.alloc (.cells #[.int .i64 k] 3)).alloc (.cells z8 39)).alloc (.cells z8 39)).alloc (.cells #[.int .i64 62] 40)).alloc (.cells #[.pointer (some ⟨p, 0, none⟩)] 24)) := (((((Below.refl _ w).alloc (Nat.le_refl _) _).alloc (by simp) _).alloc (by simp; omega) _).alloc (by simp; omega) _).alloc (by simp; omega) _
  have hsz : (((((w.alloc (.cells #[.int .i64 k] 3)).alloc (.cells z8 39)).alloc (.cells z8 39)).alloc (.cells #[.int .i64 62] 40)).alloc (.cells #[.pointer (some ⟨p, 0, none⟩)] 24)).heap.size = w.heap.size + 5 := by simp
  change Code.wpIn _ _ _ _ _ _ (((((w.alloc (.cells #[.int .i64 k] 3)).alloc (.cells z8 39)).alloc (.cells z8 39)).alloc (.cells #[.int .i64 62] 40)).alloc (.cells #[.pointer (some ⟨p, 0, none⟩)] 24))
  generalize (((((w.alloc (.cells #[.int .i64 k] 3)).alloc (.cells z8 39)).alloc (.cells z8 39)).alloc (.cells #[.int .i64 62] 40)).alloc (.cells #[.pointer (some ⟨p, 0, none⟩)] 24)) = W0 at *
  refine wpIn_rangeFunc_ownH (F := Fence.wide) (n := 8) rfl (by omega) (gf := 52) (lb := #[.pointer (some ⟨w.heap.size + 1 + 1 + 1 + 1, 0, none⟩)]) rfl trivial (enters_of Try.func52 (by kernel_rfl) rfl)
    (rising_stops 7 (by omega) w.heap.size w.heap.size [w.heap.size + 1 + 1, w.heap.size + 1 + 1 + 1] (w.heap.size + 1 + 1 + 1 + 1) (hW.below' hB0) hpl hml (by omega) (by simp; omega) (by simp; omega) (by rw [rowOf_box bK]; rfl) bT) KpR.trans (KpR.put (by omega) (by omega)) (Below.refl _ _) (fun _ => rfl)
    (fun pre W => ((∀ q ∈ pre, isZ k q = false) ∧ BoxA W w.heap.size 3 #[.int .i64 k] ∧ BoxA W (w.heap.size + 1) 39 z8 ∧ BoxA W (w.heap.size + 1 + 1) 39 z8 ∧ BoxA W (w.heap.size + 1 + 1 + 1) 40 #[.int .i64 (zomQ k pre)]) ∧ Below w.heap.size w W)
    (fun c pre W => (c = .exit 0 ∧ ∃ x pre0, pre = pre0 ++ [x] ∧ (∀ q ∈ pre0, isZ k q = false) ∧ isZ k x = true ∧ BoxA W (w.heap.size + 1) 39 z8 ∧ BoxA W (w.heap.size + 1 + 1) 39 x.cells ∧ BoxA W (w.heap.size + 1 + 1 + 1) 40 #[.int .i64 0]) ∧ Below w.heap.size w W)
    (OwnFrom.and (Own.from (fun s X Y row hs hg hr => ⟨hs.1, hs.2.1.kept hg hr, hs.2.2.1.kept hg hr, hs.2.2.2.1.kept hg hr, hs.2.2.2.2.kept hg hr⟩) _) (ownFrom_below (Nat.le_refl _) (by omega)))
    (fun c => OwnFrom.and (Own.from (fun s X Y row hs hg hr => by obtain ⟨h0, x, pre0, h1, h2, h3, h4, h5, h6⟩ := hs; exact ⟨h0, x, pre0, h1, h2, h3, h4.kept hg hr, h5.kept hg hr, h6.kept hg hr⟩) _) (ownFrom_below (Nat.le_refl _) (by omega)))
    ⟨⟨by simp, bK, bR, bC, bE⟩, hB0⟩
    (fun x a' W => ∃ B1, w.heap.size + 1 + 1 + 1 < B1 ∧ BoxA W B1 39 x.cells ∧
      a' = { tmps := #[.pointer (some ⟨p, 0, none⟩), .int .i64 k, undef, .pointer (some ⟨w.heap.size, 0, none⟩), .pointer (some ⟨w.heap.size + 1, 0, none⟩), .int .i64 0, .pointer (some ⟨w.heap.size + 1 + 1, 0, none⟩), .pointer (some ⟨w.heap.size + 1 + 1 + 1, 0, none⟩), .pointer (some ⟨B1, 0, none⟩), .agg z8, .pointer (some ⟨p, 0, none⟩), (.func (.func 52) #[] #[.pointer (some ⟨w.heap.size + 1 + 1 + 1 + 1, 0, none⟩)]), x.val, undef, undef, undef, undef, undef, undef, undef, undef, undef, undef, undef, undef], defers := [] })
    (fun x a' _ X Y row hs hg hr => by obtain ⟨B1, h1, h3, h5⟩ := hs; exact ⟨B1, h1, h3.kept hg (fun r e => (hr r e).2), h5⟩)
    ?assign ?body ?done ?stop
  case assign =>
    rintro l pre x W K ⟨⟨hx, bK1, bR1, bC1, bE1⟩, hB1⟩ hK
    unfold pvVals
    obtain ⟨a0, a1, a2, a3, a4, a5, a6, a7⟩ := x
    unfold PV.val PV.cells at *
    dsimp only at *
    gi_wp2
    have hlE := bE1.lt
    have hlK := bK1.lt
    have hsW := hB1.size
    exact hK _ _ ((KeepsOthers.alloc _ _).from _) (KpR.of_below hsW hlK ((Below.refl _ _).alloc (Nat.le_refl _) _)) ⟨⟨hx, bK1.alloc _, bR1.alloc _, bC1.alloc _, bE1.alloc _⟩, hB1.alloc hsW _⟩ ⟨W.heap.size, hlE, BoxA.new W _ _, rfl⟩
  case body =>
    rintro l pre x a' W hl _ ⟨⟨hx, bK1, bR1, bC1, bE1⟩, hB1⟩ ⟨B1, h1, bX, rfl⟩ hlt
    obtain ⟨q, hq⟩ : ∃ q, q = x := ⟨_, rfl⟩
    have HX := Lib.hid hx
    have hlK := bK1.lt
    have hsW := hB1.size
    obtain ⟨a0, a1, a2, a3, a4, a5, a6, a7⟩ := x
    unfold PV.val PV.cells at *
    dsimp only at *
    have k0 := bK1.at 0 (v := .int .i64 k) rfl
    have x0 := bX.at 0 rfl; have x1 := bX.at 1 (v := .int .i64 a1) rfl; have x2 := bX.at 2 (v := .int .i64 a2) rfl; have x3 := bX.at 3 rfl; have x4 := bX.at 4 rfl; have x5 := bX.at 5 rfl; have x6 := bX.at 6 rfl; have x7 := bX.at 7 rfl
    have c0 := bC1.at 0 rfl; have c1 := bC1.at 1 rfl; have c2 := bC1.at 2 rfl; have c3 := bC1.at 3 rfl; have c4 := bC1.at 4 rfl; have c5 := bC1.at 5 rfl; have c6 := bC1.at 6 rfl; have c7 := bC1.at 7 rfl
    have e0 := bE1.at 0 (v := .int .i64 (zomQ k pre)) rfl
    have f0 := bC1.f 0; have f1 := bC1.f 1; have f2 := bC1.f 2; have f3 := bC1.f 3; have f4 := bC1.f 4; have f5 := bC1.f 5; have f6 := bC1.f 6; have f7 := bC1.f 7
    have g0 := bE1.f 0
    have BK := Lib.hid bK1; have BR := Lib.hid bR1; have BC := Lib.hid bC1; have BE := Lib.hid bE1; have HB1 := Lib.hid hB1
    clear hx bK1 bR1 bC1 bE1 hB1 bX
    by_cases hpar : a1 = k
    · subst hpar
      by_cases hst : a2 = 3
      · subst hst
        gi_wp2
        have hz : isZ a1 q = true := by rw [hq]; simp [isZ]
        refine ⟨((keeps_set8 (KeepsOthers.refl _) _ _ _ _ _ _ _ _).trans (KeepsOthers.setCell _ _ _)).from _, ⟨rfl, q, pre, by rw [hq], HX.out, hz, (BR.out.keep (set8_other (by omega) _ _ _ _ _ _ _ _)).setOther _ _ (by omega), ?_, (BE.out.keep (set8_other (by omega) _ _ _ _ _ _ _ _)).set 0 _⟩, (below_set8 HB1.out (by omega) _ _ _ _ _ _ _ _).setCell (p := ⟨w.heap.size + 1 + 1 + 1, 0, none⟩) (by simp; omega) _⟩
        rw [hq]
        exact (BC.out.set8 _ _ _ _ _ _ _ _).setOther _ _ (by omega)
      · have hb : (a2 == 3) = false := by simpa using hst
        have HST := Lib.hid hst; clear hst
        gi_wp2
        have hz : isZ a1 q = false := by rw [hq]; simp [isZ, hb]
        refine ⟨(KeepsOthers.setCell _ _ _).from _, (KpR.refl W).set _ (by simp) (by omega) (by omega), ⟨fun y hy => (List.mem_append.1 hy).elim (HX.out y) (fun e => by simp at e; rw [e, ← hq]; exact hz), BK.out.setOther _ _ (by omega), BR.out.setOther _ _ (by omega), BC.out.setOther _ _ (by omega), ?_⟩, HB1.out.setCell (p := ⟨w.heap.size + 1 + 1 + 1, 0, none⟩) (by simp; omega) _⟩
        rw [zomQ_yes (x := ⟨a0, a1, a2, a3, a4, a5, a6, a7⟩) (k := a1) rfl]
        exact BE.out.set 0 _
    · have hb : (a1 == k) = false := by simpa using hpar
      have HPAR := Lib.hid hpar; clear hpar
      gi_wp2
      have hz : isZ k q = false := by rw [hq]; simp [isZ, hb]
      refine ⟨KeepsFrom.refl _ _, KpR.refl _, ⟨fun y hy => (List.mem_append.1 hy).elim (HX.out y) (fun e => by simp at e; rw [e, ← hq]; exact hz), BK.out, BR.out, BC.out, ?_⟩, HB1.out⟩
      rw [zomQ_no HPAR.out]
      exact BE.out
  case done =>
    rintro D zs W hD hzs ⟨⟨hx, bK1, bR1, bC1, bE1⟩, hB1⟩ hK
    rw [hzs] at hx bE1
    have HZ := Lib.hid (zomO_none hx)
    have HQ := Lib.hid (zomE_none HZ.out)
    clear hx hzs
    have c0 := bC1.at 0 rfl; have c1 := bC1.at 1 rfl; have c2 := bC1.at 2 rfl; have c3 := bC1.at 3 rfl; have c4 := bC1.at 4 rfl; have c5 := bC1.at 5 rfl; have c6 := bC1.at 6 rfl; have c7 := bC1.at 7 rfl
    have r0 := bR1.at 0 rfl; have r1 := bR1.at 1 rfl; have r2 := bR1.at 2 rfl; have r3 := bR1.at 3 rfl; have r4 := bR1.at 4 rfl; have r5 := bR1.at 5 rfl; have r6 := bR1.at 6 rfl; have r7 := bR1.at 7 rfl
    have f0 := bR1.f 0; have f1 := bR1.f 1; have f2 := bR1.f 2; have f3 := bR1.f 3; have f4 := bR1.f 4; have f5 := bR1.f 5; have f6 := bR1.f 6; have f7 := bR1.f 7
    have e0 := bE1.at 0 (v := .int .i64 (zomQ k L)) rfl
    have BR := Lib.hid bR1
    clear bC1 bR1 bE1 bK1
    gi_wp2_with fail
    gi_region
    gi_wp2
    rw [Exit.noGoto_ret]
    have bs := ((BR.out.set8 (.int .i64 0) (.int .i64 0) (.int .i64 0) (.int .i64 0) (.int .i64 0) (.string ⟨#[]⟩) (.int .i64 0) (.bool false)).drew).putObj (D := D) (by omega) (.deferred none)
    refine ⟨by simp, .inl ⟨_, _, rfl, run_takeDeferred ((drew_heap _ _).trans ((set8_other (by omega) (.int .i64 0) (.int .i64 0) (.int .i64 0) (.int .i64 0) (.int .i64 0) (.string ⟨#[]⟩) (.int .i64 0) (.bool false)).trans hK)), ?_⟩⟩
    have s0 := bs.at 0 rfl; have s1 := bs.at 1 rfl; have s2 := bs.at 2 rfl; have s3 := bs.at 3 rfl; have s4 := bs.at 4 rfl; have s5 := bs.at 5 rfl; have s6 := bs.at 6 rfl; have s7 := bs.at 7 rfl
    refine ⟨.tuple #[.agg z8, .int .i64 (zomQ k L)], by simp [results, Try.results36, go_sem, s0, s1, s2, s3, s4, s5, s6, s7], ?_, ?_⟩
    · rw [HZ.out, HQ.out]; rfl
    · exact below_put6 (below_drew6 (below_set8 hB1 (by omega) _ _ _ _ _ _ _ _)) (by omega)
  case stop =>
    rintro D c pre W hD hp ⟨⟨rfl, x, pre0, rfl, h1, h2, bR1, bC1, bE1⟩, hB1⟩ hK
    have HZ := Lib.hid (zomO_some h1 h2 hp)
    have HQ := Lib.hid (zomE_some HZ.out)
    clear h1 h2 hp
    obtain ⟨q, hq⟩ : ∃ q, q = x := ⟨_, rfl⟩
    rw [← hq] at HZ
    obtain ⟨a0, a1, a2, a3, a4, a5, a6, a7⟩ := x
    unfold PV.cells at bC1
    dsimp only at bC1
    have c0 := bC1.at 0 rfl; have c1 := bC1.at 1 rfl; have c2 := bC1.at 2 rfl; have c3 := bC1.at 3 rfl; have c4 := bC1.at 4 rfl; have c5 := bC1.at 5 rfl; have c6 := bC1.at 6 rfl; have c7 := bC1.at 7 rfl
    have r0 := bR1.at 0 rfl; have r1 := bR1.at 1 rfl; have r2 := bR1.at 2 rfl; have r3 := bR1.at 3 rfl; have r4 := bR1.at 4 rfl; have r5 := bR1.at 5 rfl; have r6 := bR1.at 6 rfl; have r7 := bR1.at 7 rfl
    have f0 := bR1.f 0; have f1 := bR1.f 1; have f2 := bR1.f 2; have f3 := bR1.f 3; have f4 := bR1.f 4; have f5 := bR1.f 5; have f6 := bR1.f 6; have f7 := bR1.f 7
    have e0 := bE1.at 0 (v := .int .i64 0) rfl
    have BR := Lib.hid bR1
    clear bC1 bR1 bE1
    gi_wp2_with fail
    gi_region
    gi_wp2
    rw [Exit.noGoto_ret]
    have bs := ((BR.out.set8 (.int .i64 a0) (.int .i64 a1) (.int .i64 a2) (.int .i64 a3) (.int .i64 a4) (.string a5) (.int .i64 a6) (.bool a7)).drew).putObj (D := D) (by omega) (.deferred none)
    refine ⟨by simp, .inl ⟨_, _, rfl, run_takeDeferred ((drew_heap _ _).trans ((set8_other (by omega) (.int .i64 a0) (.int .i64 a1) (.int .i64 a2) (.int .i64 a3) (.int .i64 a4) (.string a5) (.int .i64 a6) (.bool a7)).trans hK)), ?_⟩⟩
    have s0 := bs.at 0 rfl; have s1 := bs.at 1 rfl; have s2 := bs.at 2 rfl; have s3 := bs.at 3 rfl; have s4 := bs.at 4 rfl; have s5 := bs.at 5 rfl; have s6 := bs.at 6 rfl; have s7 := bs.at 7 rfl
    refine ⟨.tuple #[.agg #[.int .i64 a0, .int .i64 a1, .int .i64 a2, .int .i64 a3, .int .i64 a4, .string a5, .int .i64 a6, .bool a7], .int .i64 (0)], by simp [results, Try.results36, go_sem, s0, s1, s2, s3, s4, s5, s6, s7], ?_, ?_⟩
    · rw [HZ.out, HQ.out, hq]; rfl
    · exact below_put6 (below_drew6 (below_set8 hB1 (by omega) _ _ _ _ _ _ _ _)) (by omega)

theorem zombie_any (hW : TabAt w p m L g) (k : Int) :
    Calls Try.prog 36 #[.pointer (some ⟨p, 0, none⟩), .int .i64 k] w fun e W' =>
      e = .returned (.tuple #[((zomO L k).getD PV.zero).val, .int .i64 (zomE L k)]) ∧ Below w.heap.size w W' := callsIn_wide.1 (zombie_in hW k)
end
end Go.Proofs.Ytonllnbincgdpaa
