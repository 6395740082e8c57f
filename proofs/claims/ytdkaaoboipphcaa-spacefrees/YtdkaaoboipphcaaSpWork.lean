/- Package space: a space at work, as it lies in the world; mapPage, addPage, sharePage, addRoot, where they can be done, walked. -/
import Derived.Test.YtdkaaoboipphcaaSpPure
import Derived.Deep.AppendLies
import Derived.Deep.RegionHeld3
import Derived.OwnWalk
namespace Go.Proofs.Ytdkaaoboipphcaa
open Go.RowKit

/-- Block pw holds a space at work: over the memory in block p, its root r, text, data, heap, attachments vA; its undoings are k, us, in a row younger than it. -/
structure WorkAt (w : World) (pw p : Nat) (r t d h : Int) (vA vU : Value) (k : Nat) (us : List Value) : Prop where
  blk : w.heap[pw]? = some (.cells #[.pointer (some ⟨p, 0, none⟩), .int .i64 r, .int .i64 t, .int .i64 d, .int .i64 h, vA, vU] 77 (0, 0))
  own : w.ownsRow (pw + 1) 1 1 vU k us

/-- what turns while a space is worked on: the frames in block g, the work in block pw, rows of undoings. -/
structure Wk (g pw : Nat) (w w' : World) : Prop where
  os : w'.os = w.os
  tape : w'.tape = w.tape
  output : w'.output = w.output
  size : w.heap.size ≤ w'.heap.size
  low : ∀ k, k < pw → k ≠ g → w'.heap[k]? = w.heap[k]?
  block : ∀ k, k < w.heap.size → k ≠ g → k ≠ pw → (∀ C f, w.heap[k]? ≠ some (.cells C 1 f)) → w'.heap[k]? = w.heap[k]?

theorem Wk.refl (g pw : Nat) (w : World) : Wk g pw w w := ⟨rfl, rfl, rfl, Nat.le_refl _, fun _ _ _ => rfl, fun _ _ _ _ _ => rfl⟩
theorem Wk.trans {g pw : Nat} {a b c : World} (h : Wk g pw a b) (k : Wk g pw b c) : Wk g pw a c :=
  ⟨k.os.trans h.os, k.tape.trans h.tape, k.output.trans h.output, Nat.le_trans h.size k.size, fun j h1 h2 => (k.low j h1 h2).trans (h.low j h1 h2),
    fun j h1 h2 h3 h4 => (k.block j (Nat.lt_of_lt_of_le h1 h.size) h2 h3 (fun C f => by rw [h.block j h1 h2 h3 h4]; exact h4 C f)).trans (h.block j h1 h2 h3 h4)⟩
theorem Wk.of_grown {g pw : Nat} {a b : World} (h : a.grownBy b (some g)) (hpw : pw ≤ a.heap.size) : Wk g pw a b :=
  ⟨h.os, h.tape, h.output, h.size, fun j h1 h2 => h.block j (by omega) (fun e => h2 (Option.some.inj e)), fun j h1 h2 _ _ => h.block j h1 (fun e => h2 (Option.some.inj e))⟩
theorem Wk.of_below {g pw : Nat} {a b : World} (h : Below a.heap.size a b) (hpw : pw ≤ a.heap.size) : Wk g pw a b := .of_grown (grown_of_below h _) hpw
theorem Wk.setNew {g pw : Nat} {a b : World} (h : Wk g pw a b) (hpw : pw ≤ a.heap.size) {c : Nat} (o : Nat) (v : Value) (hc : a.heap.size ≤ c) : Wk g pw a (b.setCell ⟨c, o, none⟩ v) :=
  ⟨h.os, h.tape, h.output, by simpa [World.setCell] using h.size, fun j h1 h2 => (heap_setCell_other _ _ _ _ (show j ≠ c by omega)).trans (h.low j h1 h2), fun j h1 h2 h3 h4 => (heap_setCell_other _ _ _ _ (show j ≠ c by omega)).trans (h.block j h1 h2 h3 h4)⟩
theorem Wk.setWork {g pw : Nat} {a b : World} (h : Wk g pw a b) (o : Nat) (v : Value) : Wk g pw a (b.setCell ⟨pw, o, none⟩ v) :=
  ⟨h.os, h.tape, h.output, by simpa [World.setCell] using h.size, fun j h1 h2 => (heap_setCell_other _ _ _ _ (show j ≠ pw by omega)).trans (h.low j h1 h2), fun j h1 h2 h3 h4 => (heap_setCell_other _ _ _ _ h3).trans (h.block j h1 h2 h3 h4)⟩
theorem Wk.drewL {g pw : Nat} {a b : World} (h : Wk g pw a.drew b) : Wk g pw a b := ⟨h.os, h.tape, h.output, h.size, h.low, h.block⟩
theorem Wk.drewR {g pw : Nat} {a b : World} (h : Wk g pw a b) : Wk g pw a b.drew := ⟨h.os, h.tape, h.output, h.size, h.low, h.block⟩
theorem Wk.alloc {g pw : Nat} {a b : World} (h : Wk g pw a b) (hpw : pw ≤ a.heap.size) (o : Obj) : Wk g pw a (b.alloc o) :=
  h.trans (.of_grown (World.grownBy_alloc _ _ _) (Nat.le_trans hpw h.size))
theorem Wk.boxed {g pw b : Nat} {x y : World} {t : TypeId} {v : Value} (h : Wk g pw x y) (hb : Boxed x b t v) (h1 : b ≠ g) (h2 : b ≠ pw) (ht : t ≠ 1) : y.heap[b]? = x.heap[b]? :=
  h.block b hb.lt h1 h2 (fun C f e => by have hb' : x.heap[b]? = some (.cells #[v] t) := hb; rw [hb'] at e; simp at e; exact ht e.2.1)

section
variable {w w' : World} {pw p g n : Nat} {r t d h : Int} {vA vU : Value} {k : Nat} {us : List Value}

theorem WorkAt.lt (hw : WorkAt w pw p r t d h vA vU k us) : pw < w.heap.size := (Array.getElem?_eq_some_iff.1 hw.blk).1
theorem WorkAt.cMem (hw : WorkAt w pw p r t d h vA vU k us) : w.cell? ⟨pw, 0, none⟩ = some (.pointer (some ⟨p, 0, none⟩)) := by simp [World.cell?, hw.blk]
theorem WorkAt.cRoot (hw : WorkAt w pw p r t d h vA vU k us) : w.cell? ⟨pw, 1, none⟩ = some (.int .i64 r) := by simp [World.cell?, hw.blk]
theorem WorkAt.cText (hw : WorkAt w pw p r t d h vA vU k us) : w.cell? ⟨pw, 2, none⟩ = some (.int .i64 t) := by simp [World.cell?, hw.blk]
theorem WorkAt.cData (hw : WorkAt w pw p r t d h vA vU k us) : w.cell? ⟨pw, 3, none⟩ = some (.int .i64 d) := by simp [World.cell?, hw.blk]
theorem WorkAt.cHeap (hw : WorkAt w pw p r t d h vA vU k us) : w.cell? ⟨pw, 4, none⟩ = some (.int .i64 h) := by simp [World.cell?, hw.blk]
theorem WorkAt.cAtts (hw : WorkAt w pw p r t d h vA vU k us) : w.cell? ⟨pw, 5, none⟩ = some vA := by simp [World.cell?, hw.blk]
theorem WorkAt.cUndo (hw : WorkAt w pw p r t d h vA vU k us) : w.cell? ⟨pw, 6, none⟩ = some vU := by simp [World.cell?, hw.blk]
theorem WorkAt.fz (hw : WorkAt w pw p r t d h vA vU k us) (o : Nat) : w.frozen? ⟨pw, o, none⟩ = false := by simp [World.frozen?, hw.blk]
theorem WorkAt.row_ge (hw : WorkAt w pw p r t d h vA vU k us) : ∀ j, vU.ownBlock = some j → pw + 1 ≤ j := fun j hj => (hw.own.lt j hj).1
theorem WorkAt.grown (hw : WorkAt w pw p r t d h vA vU k us) (hg : w.grownBy w' (some g)) (hgp : g < pw) : WorkAt w' pw p r t d h vA vU k us := by
  refine ⟨(hg.block pw hw.lt (fun e => by have := Option.some.inj e; omega)).trans hw.blk, hw.own.kept hg ?_⟩
  right
  intro e
  have := hw.row_ge g e
  omega
theorem WorkAt.below (hw : WorkAt w pw p r t d h vA vU k us) (hb : Below w.heap.size w w') : WorkAt w' pw p r t d h vA vU k us := by
  refine ⟨(hb.block pw hw.lt).trans hw.blk, hw.own.kept (grown_of_below hb none) ?_⟩
  cases e : vU.ownBlock with
  | none => exact .inl rfl
  | some j => exact .inr (by simp)
theorem WorkAt.alloc (hw : WorkAt w pw p r t d h vA vU k us) (o : Obj) : WorkAt (w.alloc o) pw p r t d h vA vU k us := hw.below ((Below.refl _ _).alloc (Nat.le_refl _) _)
theorem WorkAt.drew (hw : WorkAt w pw p r t d h vA vU k us) : WorkAt w.drew pw p r t d h vA vU k us := ⟨hw.blk, hw.own.drew⟩
theorem WorkAt.root (hw : WorkAt w pw p r t d h vA vU k us) (r' : Int) : WorkAt (w.setCell ⟨pw, 1, none⟩ (.int .i64 r')) pw p r' t d h vA vU k us :=
  ⟨by rw [heap_setCell_same _ _ _ _ _ _ hw.blk]; rfl, ownsRow_setCell_below hw.own (Nat.lt_succ_self _) _⟩
theorem WorkAt.atts (hw : WorkAt w pw p r t d h vA vU k us) (v' : Value) : WorkAt (w.setCell ⟨pw, 5, none⟩ v') pw p r t d h v' vU k us :=
  ⟨by rw [heap_setCell_same _ _ _ _ _ _ hw.blk]; rfl, ownsRow_setCell_below hw.own (Nat.lt_succ_self _) _⟩

/-- one undoing more. -/
theorem WorkAt.step {w1 : World} {v' : Value} {us' : List Value} {k' : Nat} (hw : WorkAt w pw p r t d h vA vU k us) (hown : w1.ownsRow (pw + 1) 1 1 v' k' us') (hgrow : w.grownBy w1 vU.ownBlock) :
    (w1.cell? ⟨pw, 6, none⟩ = some vU ∧ w1.frozen? ⟨pw, 6, none⟩ = false) ∧ WorkAt (w1.setCell ⟨pw, 6, none⟩ v') pw p r t d h vA v' k' us' ∧ Wk g pw w (w1.setCell ⟨pw, 6, none⟩ v') := by
  have hlt := hw.lt
  have hq1 := (hgrow.block pw hlt (fun e => by have := hw.row_ge pw e.symm; omega)).trans hw.blk
  refine ⟨by simp [World.cell?, World.frozen?, hq1], ⟨by rw [heap_setCell_same _ _ _ _ _ _ hq1]; rfl, ownsRow_setCell_below hown (Nat.lt_succ_self _) _⟩, ?_⟩
  refine Wk.setWork ⟨hgrow.os, hgrow.tape, hgrow.output, hgrow.size, fun j h1 h2 => hgrow.block j (by omega) (fun e => by have := hw.row_ge j e.symm; omega), fun j h1 h2 h3 h4 => hgrow.block j h1 (fun e => ?_)⟩ _ _
  rcases hw.own.2 with ⟨rfl, _⟩ | ⟨gg, cap, cur, rfl, _, hg, _⟩
  · simp [Value.ownBlock] at e
  · simp [Value.ownBlock] at e
    subst e
    exact h4 _ _ hg

theorem undo_end {W w3 : World} {S : PtS} {v' : Value} {us' : List Value} {k' : Nat} (hm : S.at W p g n) (hw : WorkAt W pw p r t d h vA vU k us) (hgp : g < pw) (hpp : p < pw) (o : Obj)
    (hown : w3.ownsRow (pw + 1) 1 1 v' k' us') (hgr : (W.alloc o).drew.grownBy w3 vU.ownBlock) :
    S.at (w3.setCell ⟨pw, 6, none⟩ v') p g n ∧ WorkAt (w3.setCell ⟨pw, 6, none⟩ v') pw p r t d h vA v' k' us' ∧ Wk g pw W (w3.setCell ⟨pw, 6, none⟩ v') := by
  have hw1 := (hw.alloc o).drew
  have hm1 := MemAt.drew (MemAt.alloc hm o)
  obtain ⟨_, a2, a3⟩ := hw1.step (g := g) hown hgr
  have hlow : ∀ j, j < pw → w3.heap[j]? = (W.alloc o).drew.heap[j]? := fun j hj => hgr.block j (by have := hw1.lt; omega) (fun e => by have := hw.row_ge j e.symm; omega)
  refine ⟨MemAt.setOther (MemAt.keep hm1 (hlow p hpp) (hlow g hgp)) _ _ _ (by omega) (by omega), a2, ?_⟩
  exact ((Wk.refl g pw W).alloc (Nat.le_of_lt hw.lt) o).trans a3.drewL
theorem Wk.box {g pw b : Nat} {x y : World} {t : TypeId} {v : Value} (h : Wk g pw x y) (hb : Boxed x b t v) (h1 : b ≠ g) (h2 : b ≠ pw) (ht : t ≠ 1) : Boxed y b t v := (h.boxed hb h1 h2 ht).trans hb

end

section
variable {P : Program} {md : Region.Mode} {ops : Array Oper} {Q : Exit → Act → World → Prop} {S : World → Prop}
/-- an operation is taken first, its place in the frame written out. -/
theorem takeH (i : Nat) (v : Value) (d : Option Nat) {fuel : Nat} {listed : Array Bool} {a : Act} {w : World} (hd : (ops[i]?).map Oper.dst = some d)
    (hs : Region.noSelect ops = true) (hf : Region.free md ops listed i = true) (hr : (Region.ready md ops listed).contains i = true)
    (hQ : ∀ c a w, Q (.panic c) (a.put d v) w → Q (.panic c) a w) (hw : ∀ oi, ops[i]? = some oi → Region.wanted oi (yielded ops a.tmps) = true)
    (hy : ∀ oi, ops[i]? = some oi → ∀ w, S w → (execOp a.eval oi).run P w = .ok (.value v) w) (hS : S w)
    (h : wpAnyH P md ops Q S fuel (listed.setIfInBounds i true) (a.put d v) w) : wpAnyH P md ops Q S (fuel + 1) listed a w := by
  cases e : ops[i]? with
  | none => rw [e] at hd; cases hd
  | some oi =>
    rw [e] at hd
    obtain rfl : oi.dst = d := by simpa using hd
    exact wpAnyH_take e hs hf hr hQ (.inl ⟨hw oi e, hy oi e⟩) hS h
end

theorem Try.infoFunc : (Try.prog.info? 1).map (fun i => (i.zero, i.size, i.bytes)) = some (some .nilFunc, 1, 8) := by kernel_rfl

section
variable {w : World} {pw p g n root : Nat} {S : PtS} {t d h : Int} {vA vU : Value} {k : Nat} {us : List Value}

set_option maxRecDepth 100000 in
set_option maxHeartbeats 4000000 in
theorem mapPage_ok (hm : S.at w p g n) (hw : WorkAt w pw p root t d h vA vU k us) (hgp : g < pw) (hpp : p < pw) (hok : S.ok n root) (hk : k ≤ 100000) (page frame flags : Nat) (hfl : flags < 8) (he : (mapS n root S page frame flags).1 = 0) :
    Calls Try.prog 55 #[.pointer (some ⟨pw, 0, none⟩), .int .i64 page, .int .i64 frame, .int .i64 flags] w fun e w' => e = .returned (.int .i64 0) ∧
      (mapS n root S page frame flags).2.at w' p g n ∧ (∃ vU' u, WorkAt w' pw p root t d h vA vU' (k + 1) (us ++ [u])) ∧ Wk g pw w w' := by
  obtain ⟨i0, hi, hz0, hz1, hz2⟩ := info_parts Try.infoFunc
  have HI := Lib.hid hi; have HZ0 := Lib.hid hz0; have HZ1 := Lib.hid hz1; have HZ2 := Lib.hid hz2
  clear hi hz0 hz1 hz2
  have HOK := Lib.hid hok; have HE := Lib.hid he; have HFL := Lib.hid hfl; have HK := Lib.hid hk; have HPW := Lib.hid (show g < pw ∧ p < pw ∧ pw < w.heap.size from ⟨hgp, hpp, hw.lt⟩)
  have na : vU.ownBlock ≠ some w.heap.size := fun e => by have := (hw.own.lt _ e).2; omega
  have nb : vU.ownBlock ≠ some pw := fun e => by have := hw.row_ge _ e; omega
  have NA := Lib.hid na; have NB := Lib.hid nb
  clear hok he hfl na nb
  have w1 := (hw.alloc (.cells #[.pointer (some ⟨pw, 0, none⟩)] 57)).alloc (.cells #[.int .i64 page] 3)
  have HM1 : Hid (S.at ((w.alloc (.cells #[.pointer (some ⟨pw, 0, none⟩)] 57)).alloc (.cells #[.int .i64 page] 3)) p g n) := (MemAt.alloc hm _).alloc _
  have HG1 : Hid (Wk g pw w ((w.alloc (.cells #[.pointer (some ⟨pw, 0, none⟩)] 57)).alloc (.cells #[.int .i64 page] 3))) := ((Wk.refl g pw w).alloc (Nat.le_of_lt hw.lt) _).alloc (Nat.le_of_lt hw.lt) _
  have bW := (Boxed.new w 57 (.pointer (some ⟨pw, 0, none⟩))).alloc (.cells #[.int .i64 page] 3)
  have bP := Boxed.new (w.alloc (.cells #[.pointer (some ⟨pw, 0, none⟩)] 57)) 3 (.int .i64 page)
  rw [World.size_alloc] at bP
  clear hm hw
  go_enter Try.func55, Try.ntmps55
  go_wp2_with fail
  generalize (w.alloc (.cells #[.pointer (some ⟨pw, 0, none⟩)] 57)).alloc (.cells #[.int .i64 page] 3) = W1 at *
  have c0 := bW.cell; have c1 := bP.cell; have c2 := w1.cMem; have c3 := w1.cRoot
  have HW1 := Lib.hid w1; have HBW := Lib.hid bW; have HBP := Lib.hid bP
  have hng : Hid (w.heap.size ≠ g ∧ w.heap.size + 1 ≠ g ∧ pw ≠ g) := by have := HPW.out; exact ⟨by omega, by omega, by omega⟩
  clear w1 bW bP
  go_region_held3 (fun w' => w'.cell? ⟨w.heap.size, 0, none⟩ = some (.pointer (some ⟨pw, 0, none⟩)) ∧ w'.cell? ⟨w.heap.size + 1, 0, none⟩ = some (.int .i64 page) ∧ w'.cell? ⟨pw, 0, none⟩ = some (.pointer (some ⟨p, 0, none⟩)) ∧ w'.cell? ⟨pw, 1, none⟩ = some (.int .i64 root)) (first | exact ⟨c0, c1, c2, c3⟩ | exact ⟨d0, d1, d2, d3⟩ | go_keep)
    ((go_at_call 68; refine (map_rep (MemAt.drew HM1.out) HOK.out page frame flags (by omega) (by have := HFL.out; omega)).mono ?_; rintro e w2 ⟨rfl, hM2, hG2⟩; have d0 := hG2.cell c0 (by intro e; exact hng.out.1 (Option.some.inj e)); have d1 := hG2.cell c1 (by intro e; exact hng.out.2.1 (Option.some.inj e)); have d2 := hG2.cell c2 (by intro e; exact hng.out.2.2 (Option.some.inj e)); have d3 := hG2.cell c3 (by intro e; exact hng.out.2.2 (Option.some.inj e)); have HM2 := Lib.hid hM2; have HG2 := Lib.hid (drew_grown hG2); clear hM2 hG2))
  rw [HE.out]
  have w2' := HW1.out.grown HG2.out HPW.out.1
  have HW2 := Lib.hid w2'
  have u2 := w2'.cUndo; have f2 := w2'.fz 6
  have HGW := Lib.hid (HG1.out.trans (Wk.of_grown (pw := pw) HG2.out (Nat.le_of_lt HW1.out.lt)))
  have HBL : Hid (w.heap.size < w2.heap.size ∧ pw < w2.heap.size) := ⟨World.block_lt_of_cell? w2 _ d0, World.block_lt_of_cell? w2 _ u2⟩
  clear w2' c0 c1 c2 c3 d1 d3 HM1 HG1
  go_wp2_with fail
  have a0 := cell_allocL (.cells #[.func (.func 69) #[] #[.pointer (some ⟨w.heap.size, 0, none⟩), .pointer (some ⟨w.heap.size + 1, 0, none⟩)]] 1) d0
  have a1 := cell_allocL (.cells #[.func (.func 69) #[] #[.pointer (some ⟨w.heap.size, 0, none⟩), .pointer (some ⟨w.heap.size + 1, 0, none⟩)]] 1) u2
  refine wp_region_held_drew (S := (fun w' => w'.cell? ⟨w.heap.size, 0, none⟩ = some (.pointer (some ⟨pw, 0, none⟩)))) (by kernel_rfl) d0 (fun hHeld => ?_)
  change wpAnyH _ _ _ _ _ 11 (Array.replicate 11 false) _ _
  refine takeH 0 (.pointer (some ⟨pw, 0, none⟩)) (some 26) rfl (by kernel_rfl) (by kernel_rfl) (by kernel_rfl) (fun _ _ _ h => h) (fun oi h => by obtain rfl := Option.some.inj h; rfl) (fun oi h W hS => by obtain rfl := Option.some.inj h; go_simp) hHeld ?_
  simp only [Act.put, List.setIfInBounds_toArray, List.set_cons_zero, List.set_cons_succ]
  refine takeH 1 (.pointer (some ⟨pw, 0, none⟩)) (some 27) rfl (by kernel_rfl) (by kernel_rfl) (by kernel_rfl) (fun _ _ _ h => h) (fun oi h => by obtain rfl := Option.some.inj h; rfl) (fun oi h W hS => by obtain rfl := Option.some.inj h; go_simp) hHeld ?_
  simp only [Act.put, List.setIfInBounds_toArray, List.set_cons_zero, List.set_cons_succ]
  refine takeH 2 (.pointer (some ⟨pw, 0, none⟩)) (some 28) rfl (by kernel_rfl) (by kernel_rfl) (by kernel_rfl) (fun _ _ _ h => h) (fun oi h => by obtain rfl := Option.some.inj h; rfl) (fun oi h W hS => by obtain rfl := Option.some.inj h; go_simp) hHeld ?_
  simp only [Act.put, List.setIfInBounds_toArray, List.set_cons_zero, List.set_cons_succ]
  refine takeH 3 (.pointer (some ⟨pw, 6, none⟩)) (some 29) rfl (by kernel_rfl) (by kernel_rfl) (by kernel_rfl) (fun _ _ _ h => h) (fun oi h => by obtain rfl := Option.some.inj h; rfl) (fun oi h W hS => by obtain rfl := Option.some.inj h; go_simp) hHeld ?_
  simp only [Act.put, List.setIfInBounds_toArray, List.set_cons_zero, List.set_cons_succ]
  refine takeH 5 (.func (.func 69) #[] #[.pointer (some ⟨w.heap.size, 0, none⟩), .pointer (some ⟨w.heap.size + 1, 0, none⟩)]) (some 31) rfl (by kernel_rfl) (by kernel_rfl) (by kernel_rfl) (fun _ _ _ h => h) (fun oi h => by obtain rfl := Option.some.inj h; rfl) (fun oi h W hS => by obtain rfl := Option.some.inj h; go_simp) hHeld ?_
  simp only [Act.put, List.setIfInBounds_toArray, List.set_cons_zero, List.set_cons_succ]
  refine wpAnyH_ready (rs := [4, 6]) (by kernel_rfl) (by simp) ?_
  refine AllReadyH.cons (i := 4) rfl (fun K hK => ?_) (AllReadyH.cons (i := 6) rfl (fun K hK => ?_) AllReadyH.nil)
  · go_simp
    refine hK.out _ _ d0 (fun _ => ?_)
    clear hK K
    try simp only [Act.put, List.setIfInBounds_toArray, List.set_cons_zero, List.set_cons_succ]
    refine wpAnyH_ready (rs := [6]) (by kernel_rfl) (by simp) ?_
    refine AllReadyH.cons (i := 6) rfl (fun K hK => ?_) AllReadyH.nil
    go_simp
    refine hK.out _ _ a0 (fun _ => ?_)
    clear hK K
    try simp only [Act.put, List.setIfInBounds_toArray, List.set_cons_zero, List.set_cons_succ]
    refine wpAnyH_ready (rs := [7]) (by kernel_rfl) (by simp) ?_
    refine AllReadyH.cons (i := 7) rfl (fun K hK => ?_) AllReadyH.nil
    refine step_append_lies _ (by rfl) _ _ _ (by rfl) (pw + 1) 1 i0 _ 1 8 Try.underlying75 HI.out HZ0.out HZ1.out HZ2.out rfl (by omega) vU k us (by rfl) ((HW2.out.own.alloc _).drew) ⟨w2.heap.size, 0, none⟩ 1 1 [.func (.func 69) #[] #[.pointer (some ⟨w.heap.size, 0, none⟩), .pointer (some ⟨w.heap.size + 1, 0, none⟩)]] (by rfl) (by rfl) (World.news_of_block (cs := #[.func (.func 69) #[] #[.pointer (some ⟨w.heap.size, 0, none⟩), .pointer (some ⟨w.heap.size + 1, 0, none⟩)]]) (t := 1) (fr := (0, 0)) (heap_alloc_new w2 _)) (by simp [Value.oneCell']) (by omega) (by have := HK.out; unfold maxLen; omega) (by have := HK.out; omega) (by simp; have := HW2.out.lt; omega) (w2.heap.size + 1) (by simp) ?_
    intro gg cap w3 hown1 hgrow _ _
    have e0 := (hgrow.cell_far ⟨w.heap.size, 0, none⟩ (by have := HBL.out; simp; omega) (Ne.symm NA.out)).trans a0
    have e1 := (hgrow.cell_far ⟨pw, 6, none⟩ (by have := HBL.out; simp; omega) (Ne.symm NB.out)).trans a1
    have e2 := (hgrow.frozen_far ⟨pw, 6, none⟩ (by have := HBL.out; simp; omega) (Ne.symm NB.out)).trans ((World.frozen?_of_block (a := ⟨pw, 6, none⟩) (Below.heap_alloc w2 _ pw HBL.out.2)).trans f2)
    have HOWN := Lib.hid hown1; have HGR := Lib.hid hgrow
    clear hown1 hgrow
    refine hK.out _ _ e0 (fun hHeld => ?_)
    clear hK K
    change wpAnyH _ _ _ _ _ _ _ (Act.put _ (some 33) _) _
    simp only [Act.put, List.setIfInBounds_toArray, List.set_cons_zero, List.set_cons_succ]
    refine takeH 8 (.pointer (some ⟨pw, 0, none⟩)) (some 34) rfl (by kernel_rfl) (by kernel_rfl) (by kernel_rfl) (fun _ _ _ h => h) (fun oi h => by obtain rfl := Option.some.inj h; rfl) (fun oi h W hS => by obtain rfl := Option.some.inj h; go_simp) hHeld ?_
    simp only [Act.put, List.setIfInBounds_toArray, List.set_cons_zero, List.set_cons_succ]
    refine takeH 9 (.pointer (some ⟨pw, 6, none⟩)) (some 35) rfl (by kernel_rfl) (by kernel_rfl) (by kernel_rfl) (fun _ _ _ h => h) (fun oi h => by obtain rfl := Option.some.inj h; rfl) (fun oi h W hS => by obtain rfl := Option.some.inj h; go_simp) hHeld ?_
    simp only [Act.put, List.setIfInBounds_toArray, List.set_cons_zero, List.set_cons_succ]
    refine wpAnyH_ready (rs := [10]) (by kernel_rfl) (by simp) ?_
    refine AllReadyH.cons (i := 10) rfl (fun K hK => ?_) AllReadyH.nil
    go_simp
    refine hK.out _ _ ((World.cell?_setCell_other _ _ _ _ (by simp)).trans e0) (fun _ => ?_)
    clear hK K
    refine wpAnyH_done (by kernel_rfl) ?_ _
    go_wp2
    go_ret
    obtain ⟨x1, x2, x3⟩ := undo_end HM2.out HW2.out HPW.out.1 HPW.out.2.1 _ HOWN.out HGR.out
    exact ⟨rfl, x1, ⟨_, _, x2⟩, HGW.out.trans x3⟩
  · go_simp
    refine hK.out _ _ a0 (fun _ => ?_)
    clear hK K
    try simp only [Act.put, List.setIfInBounds_toArray, List.set_cons_zero, List.set_cons_succ]
    refine wpAnyH_ready (rs := [4]) (by kernel_rfl) (by simp) ?_
    refine AllReadyH.cons (i := 4) rfl (fun K hK => ?_) AllReadyH.nil
    go_simp
    refine hK.out _ _ a0 (fun _ => ?_)
    clear hK K
    try simp only [Act.put, List.setIfInBounds_toArray, List.set_cons_zero, List.set_cons_succ]
    refine wpAnyH_ready (rs := [7]) (by kernel_rfl) (by simp) ?_
    refine AllReadyH.cons (i := 7) rfl (fun K hK => ?_) AllReadyH.nil
    refine step_append_lies _ (by rfl) _ _ _ (by rfl) (pw + 1) 1 i0 _ 1 8 Try.underlying75 HI.out HZ0.out HZ1.out HZ2.out rfl (by omega) vU k us (by rfl) ((HW2.out.own.alloc _).drew) ⟨w2.heap.size, 0, none⟩ 1 1 [.func (.func 69) #[] #[.pointer (some ⟨w.heap.size, 0, none⟩), .pointer (some ⟨w.heap.size + 1, 0, none⟩)]] (by rfl) (by rfl) (World.news_of_block (cs := #[.func (.func 69) #[] #[.pointer (some ⟨w.heap.size, 0, none⟩), .pointer (some ⟨w.heap.size + 1, 0, none⟩)]]) (t := 1) (fr := (0, 0)) (heap_alloc_new w2 _)) (by simp [Value.oneCell']) (by omega) (by have := HK.out; unfold maxLen; omega) (by have := HK.out; omega) (by simp; have := HW2.out.lt; omega) (w2.heap.size + 1) (by simp) ?_
    intro gg cap w3 hown1 hgrow _ _
    have e0 := (hgrow.cell_far ⟨w.heap.size, 0, none⟩ (by have := HBL.out; simp; omega) (Ne.symm NA.out)).trans a0
    have e1 := (hgrow.cell_far ⟨pw, 6, none⟩ (by have := HBL.out; simp; omega) (Ne.symm NB.out)).trans a1
    have e2 := (hgrow.frozen_far ⟨pw, 6, none⟩ (by have := HBL.out; simp; omega) (Ne.symm NB.out)).trans ((World.frozen?_of_block (a := ⟨pw, 6, none⟩) (Below.heap_alloc w2 _ pw HBL.out.2)).trans f2)
    have HOWN := Lib.hid hown1; have HGR := Lib.hid hgrow
    clear hown1 hgrow
    refine hK.out _ _ e0 (fun hHeld => ?_)
    clear hK K
    change wpAnyH _ _ _ _ _ _ _ (Act.put _ (some 33) _) _
    simp only [Act.put, List.setIfInBounds_toArray, List.set_cons_zero, List.set_cons_succ]
    refine takeH 8 (.pointer (some ⟨pw, 0, none⟩)) (some 34) rfl (by kernel_rfl) (by kernel_rfl) (by kernel_rfl) (fun _ _ _ h => h) (fun oi h => by obtain rfl := Option.some.inj h; rfl) (fun oi h W hS => by obtain rfl := Option.some.inj h; go_simp) hHeld ?_
    simp only [Act.put, List.setIfInBounds_toArray, List.set_cons_zero, List.set_cons_succ]
    refine takeH 9 (.pointer (some ⟨pw, 6, none⟩)) (some 35) rfl (by kernel_rfl) (by kernel_rfl) (by kernel_rfl) (fun _ _ _ h => h) (fun oi h => by obtain rfl := Option.some.inj h; rfl) (fun oi h W hS => by obtain rfl := Option.some.inj h; go_simp) hHeld ?_
    simp only [Act.put, List.setIfInBounds_toArray, List.set_cons_zero, List.set_cons_succ]
    refine wpAnyH_ready (rs := [10]) (by kernel_rfl) (by simp) ?_
    refine AllReadyH.cons (i := 10) rfl (fun K hK => ?_) AllReadyH.nil
    go_simp
    refine hK.out _ _ ((World.cell?_setCell_other _ _ _ _ (by simp)).trans e0) (fun _ => ?_)
    clear hK K
    refine wpAnyH_done (by kernel_rfl) ?_ _
    go_wp2
    go_ret
    obtain ⟨x1, x2, x3⟩ := undo_end HM2.out HW2.out HPW.out.1 HPW.out.2.1 _ HOWN.out HGR.out
    exact ⟨rfl, x1, ⟨_, _, x2⟩, HGW.out.trans x3⟩

set_option maxRecDepth 100000 in
set_option maxHeartbeats 4000000 in
theorem mapPage_err (hm : S.at w p g n) (hw : WorkAt w pw p root t d h vA vU k us) (hgp : g < pw) (hpp : p < pw) (hok : S.ok n root) (page frame flags : Nat) (hfl : flags < 8) (he : (mapS n root S page frame flags).1 ≠ 0) :
    Calls Try.prog 55 #[.pointer (some ⟨pw, 0, none⟩), .int .i64 page, .int .i64 frame, .int .i64 flags] w fun e w' => e = .returned (.int .i64 (mapS n root S page frame flags).1) ∧
      (mapS n root S page frame flags).2.at w' p g n ∧ WorkAt w' pw p root t d h vA vU k us ∧ Wk g pw w w' := by
  have HOK := Lib.hid hok; have HFL := Lib.hid hfl; have HPW := Lib.hid (show g < pw ∧ p < pw ∧ pw < w.heap.size from ⟨hgp, hpp, hw.lt⟩)
  have HE1 : Hid (((mapS n root S page frame flags).1 != 0) = true) := by unfold Hid; simpa using he
  clear hok he hfl
  have w1 := (hw.alloc (.cells #[.pointer (some ⟨pw, 0, none⟩)] 57)).alloc (.cells #[.int .i64 page] 3)
  have HM1 : Hid (S.at ((w.alloc (.cells #[.pointer (some ⟨pw, 0, none⟩)] 57)).alloc (.cells #[.int .i64 page] 3)) p g n) := (MemAt.alloc hm _).alloc _
  have HG1 : Hid (Wk g pw w ((w.alloc (.cells #[.pointer (some ⟨pw, 0, none⟩)] 57)).alloc (.cells #[.int .i64 page] 3))) := ((Wk.refl g pw w).alloc (Nat.le_of_lt hw.lt) _).alloc (Nat.le_of_lt hw.lt) _
  have bW := (Boxed.new w 57 (.pointer (some ⟨pw, 0, none⟩))).alloc (.cells #[.int .i64 page] 3)
  have bP := Boxed.new (w.alloc (.cells #[.pointer (some ⟨pw, 0, none⟩)] 57)) 3 (.int .i64 page)
  rw [World.size_alloc] at bP
  clear hm hw
  go_enter Try.func55, Try.ntmps55
  go_wp2_with fail
  generalize (w.alloc (.cells #[.pointer (some ⟨pw, 0, none⟩)] 57)).alloc (.cells #[.int .i64 page] 3) = W1 at *
  have c0 := bW.cell; have c1 := bP.cell; have c2 := w1.cMem; have c3 := w1.cRoot
  have HW1 := Lib.hid w1; have HBW := Lib.hid bW; have HBP := Lib.hid bP
  have hng : Hid (w.heap.size ≠ g ∧ w.heap.size + 1 ≠ g ∧ pw ≠ g) := by have := HPW.out; exact ⟨by omega, by omega, by omega⟩
  clear w1 bW bP
  go_region_held3 (fun w' => w'.cell? ⟨w.heap.size, 0, none⟩ = some (.pointer (some ⟨pw, 0, none⟩)) ∧ w'.cell? ⟨w.heap.size + 1, 0, none⟩ = some (.int .i64 page) ∧ w'.cell? ⟨pw, 0, none⟩ = some (.pointer (some ⟨p, 0, none⟩)) ∧ w'.cell? ⟨pw, 1, none⟩ = some (.int .i64 root)) (first | exact ⟨c0, c1, c2, c3⟩ | exact ⟨d0, d1, d2, d3⟩ | go_keep)
    ((go_at_call 68; refine (map_rep (MemAt.drew HM1.out) HOK.out page frame flags (by omega) (by have := HFL.out; omega)).mono ?_; rintro e w2 ⟨rfl, hM2, hG2⟩; have d0 := hG2.cell c0 (by intro e; exact hng.out.1 (Option.some.inj e)); have d1 := hG2.cell c1 (by intro e; exact hng.out.2.1 (Option.some.inj e)); have d2 := hG2.cell c2 (by intro e; exact hng.out.2.2 (Option.some.inj e)); have d3 := hG2.cell c3 (by intro e; exact hng.out.2.2 (Option.some.inj e)); have HM2 := Lib.hid hM2; have HG2 := Lib.hid (drew_grown hG2); clear hM2 hG2))
  have HW2 := Lib.hid (HW1.out.grown HG2.out HPW.out.1)
  have HGW := Lib.hid (HG1.out.trans (Wk.of_grown (pw := pw) HG2.out (Nat.le_of_lt HW1.out.lt)))
  clear c0 c1 c2 c3 d0 d1 d2 d3 HM1 HG1
  have hE1 := HE1.out
  go_wp2
  go_ret
  exact ⟨rfl, HM2.out, HW2.out, HGW.out⟩

theorem mapPage_any (hm : S.at w p g n) (hw : WorkAt w pw p root t d h vA vU k us) (hgp : g < pw) (hpp : p < pw) (hok : S.ok n root) (hk : k ≤ 100000) (page frame flags : Nat) (hfl : flags < 8) :
    Calls Try.prog 55 #[.pointer (some ⟨pw, 0, none⟩), .int .i64 page, .int .i64 frame, .int .i64 flags] w fun e w' => e = .returned (.int .i64 (mapS n root S page frame flags).1) ∧
      (mapS n root S page frame flags).2.at w' p g n ∧ (∃ vU' k' us', k' ≤ k + 1 ∧ WorkAt w' pw p root t d h vA vU' k' us') ∧ Wk g pw w w' := by
  by_cases he : (mapS n root S page frame flags).1 = 0
  · refine (mapPage_ok hm hw hgp hpp hok hk page frame flags hfl he).mono ?_
    rintro e w' ⟨rfl, a, ⟨vU', u, b⟩, c⟩
    exact ⟨by rw [he], a, ⟨_, _, _, Nat.le_refl _, b⟩, c⟩
  · refine (mapPage_err hm hw hgp hpp hok page frame flags hfl he).mono ?_
    rintro e w' ⟨rfl, a, b, c⟩
    exact ⟨rfl, a, ⟨_, _, _, Nat.le_succ _, b⟩, c⟩

end
end Go.Proofs.Ytdkaaoboipphcaa
