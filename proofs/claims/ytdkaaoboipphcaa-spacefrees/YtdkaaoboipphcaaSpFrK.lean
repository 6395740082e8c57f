/- SpaceFrees: Attach as the law calls it, and what lies in the world behind it. -/
import Derived.Test.YtdkaaoboipphcaaSpFrI
namespace Go.Proofs.Ytdkaaoboipphcaa
open Go.RowKit Go.Shelf

/-- the memory, the space in its block, its attachments. -/
structure FrK (w W : World) (sb p g : Nat) (S : PtS) (va : Option Addr) (vl vc : Nat) (al : List AttV) : Prop where
  mem : S.at W p g 60
  atts : AttsAt W (.slice va vl vc) al
  blk : W.heap[sb]? = some (.cells #[.int .i64 4, .int .i64 1, .int .i64 0, .int .i64 0, .slice va vl vc] 32 (0, 0))
  bel : Below w.heap.size w W
section
variable {w W : World} {sb p g : Nat} {S : PtS} {va : Option Addr} {vl vc : Nat} {al : List AttV}
theorem FrK.below {W' : World} (h : FrK w W sb p g S va vl vc al) (hb : Below W.heap.size W W') : FrK w W' sb p g S va vl vc al :=
  ⟨MemAt.below2 h.mem hb, h.atts.below hb, (hb.block _ (Array.getElem?_eq_some_iff.1 h.blk).1).trans h.blk, h.bel.trans (hb.mono h.bel.size)⟩
theorem FrK.alloc (h : FrK w W sb p g S va vl vc al) (o : Obj) : FrK w (W.alloc o) sb p g S va vl vc al := h.below ((Below.refl _ _).alloc (Nat.le_refl _) _)
theorem FrK.drew (h : FrK w W sb p g S va vl vc al) : FrK w W.drew sb p g S va vl vc al := ⟨MemAt.drew h.mem, h.atts.drew, h.blk, ⟨h.bel.os, h.bel.tape, h.bel.output, h.bel.size, h.bel.block⟩⟩
theorem FrK.slt (h : FrK w W sb p g S va vl vc al) : sb < W.heap.size := (Array.getElem?_eq_some_iff.1 h.blk).1

/-- what Attach told, and what lies in the world behind it. -/
def FrC (W : World) (S S' : PtS) (page m : Nat) (va : Option Addr) (vl vc : Nat) (al : List AttV) (r t d h : Int) (ra : Option Addr) (rl rc : Nat) (x : Int) : Prop :=
  (x = 20 ∧ S' = S ∧ AttsAt W (.slice va vl vc) al ∧ ∃ i, i < m ∧ S.E (page + i) ≠ (0, 0)) ∨
  (x = 0 ∧ r = 4 ∧ t = 1 ∧ d = 0 ∧ h = 0 ∧ rl = al.length + 1 ∧ S' = attK 60 4 S page 7 (fun j => j) m ∧ (∀ i, i < m → S.E (page + i) = (0, 0)) ∧ ∃ (al' : List AttV) (y : AttV), y.1.val = page ∧ y.2.1.val = m ∧ al'.Perm (al ++ [y]) ∧ AttsAt W (.slice ra rl rc) al')

theorem AttsAt.block {va : Option Addr} (h : AttsAt W (.slice va vl vc) al) : ∀ x, va = some x → x.block < W.heap.size := by
  intro x hx
  rcases h with ⟨_, h2⟩ | ⟨h0, b, cap2, h1, h2, h4⟩
  · subst hx; cases h2
  · subst hx
    simp at h1
    rw [h1.1]; exact h2
theorem AttsAt.farA {va : Option Addr} (h : AttsAt W (.slice va vl vc) al) {c : Nat} (o : Nat) (v : Value) (hne : ∀ x, va = some x → x.block ≠ c) : AttsAt (W.setCell ⟨c, o, none⟩ v) (.slice va vl vc) al := by
  rcases h with h | ⟨h0, b, cap2, h1, h2, h4⟩
  · exact .inl h
  · have hva : va = some ⟨b, 0, none⟩ := by simp at h1; exact h1.1
    have hb := hne _ hva
    exact .inr ⟨h0, b, cap2, h1, by simpa [World.setCell] using h2, fun j hj i u hu => cell_far (h4 j hj i u hu) hb⟩

theorem attach_K {i : Nat} (h : FrK w W sb p g S va vl vc al) (hF : FrI i S al) (hi : i ≤ 6) (hs : sb ≠ g) (page m b : Nat) (h1 : 128 ≤ page) (h2 : page + m ≤ 240) (h3 : 1 ≤ m) (h4 : m ≤ 4) (hbg : b ≠ g) (hc : ∀ j, j < 4 → W.cell? ⟨b, j, none⟩ = some (.int .i64 (j : Int))) (hg : w.heap.size ≤ g) :
    Calls Try.prog 9 #[.pointer (some ⟨p, 0, none⟩), .agg #[.int .i64 4, .int .i64 1, .int .i64 0, .int .i64 0, .slice va vl vc], .int .i64 page, .slice (some ⟨b, 0, none⟩) m 4, .bool true] W fun e w' =>
      ∃ (r t d h : Int) (ra : Option Addr) (rl rc : Nat) (x : Int) (S' : PtS), e = .returned (.tuple #[.agg #[.int .i64 r, .int .i64 t, .int .i64 d, .int .i64 h, .slice ra rl rc], .int .i64 x]) ∧ S'.at w' p g 60 ∧ FrC w' S S' page m va vl vc al r t d h ra rl rc x ∧
        (x = 0 → ∀ y, ra = some y → W.heap.size ≤ y.block) ∧ W.grownBy w' (some g) ∧ Below w.heap.size w w' ∧ w'.heap[sb]? = some (.cells #[.int .i64 4, .int .i64 1, .int .i64 0, .int .i64 0, .slice va vl vc] 32 (0, 0)) := by
  have hu := hF.used; have hl := hF.len
  refine (attach_any h.mem hF.ok 1 0 0 (.slice va vl vc) al (by omega) h.atts page m true 7 rfl b 4 (fun j => j) hbg h1 h2 h3 (by omega) (fun j hj => hc j (by omega)) (fun j hj => ⟨(hF.kept j (by omega)).1, by have := (hF.kept j (by omega)).2; omega⟩) (by omega)).mono ?_
  rintro e w' (⟨rfl, hex, hB⟩ | ⟨gg, cap', rfl, hfree, hM, ⟨al', hp, hA⟩, hgg, hG⟩)
  · exact ⟨_, _, _, _, _, _, _, _, S, rfl, MemAt.below2 h.mem hB, .inl ⟨rfl, rfl, h.atts.below hB, hex⟩, fun e => (by cases e), grown_of_below hB _, h.bel.trans (hB.mono h.bel.size), (hB.block _ h.slt).trans h.blk⟩
  · exact ⟨_, _, _, _, _, _, _, _, _, rfl, hM, .inr ⟨rfl, rfl, rfl, rfl, rfl, rfl, rfl, hfree, al', (⟨page, by omega⟩, ⟨m, by omega⟩, true), rfl, rfl, hp, hA⟩, fun _ y e => (by cases e; exact hgg), hG, h.bel.trans (below_of_grown hG h.bel.size (fun j e => by cases e; exact hg)), (hG.block _ h.slt (fun e => hs (Option.some.inj e))).trans h.blk⟩

/-- behind the call, its answer in a block of its own. -/
structure FrT (w W : World) (sb tb p g : Nat) (S S' : PtS) (page m : Nat) (va : Option Addr) (vl vc : Nat) (al : List AttV) (r t d h : Int) (ra : Option Addr) (rl rc : Nat) (x : Int) : Prop where
  mem : S'.at W p g 60
  con : FrC W S S' page m va vl vc al r t d h ra rl rc x
  blk : W.heap[sb]? = some (.cells #[.int .i64 4, .int .i64 1, .int .i64 0, .int .i64 0, .slice va vl vc] 32 (0, 0))
  blkT : W.heap[tb]? = some (.cells #[.int .i64 r, .int .i64 t, .int .i64 d, .int .i64 h, .slice ra rl rc] 32 (0, 0))
  bel : Below w.heap.size w W
  ne : tb ≠ sb
  far : x = 0 → ∀ y, ra = some y → y.block ≠ sb

theorem frT_alloc {W w' : World} {S' : PtS} {page m : Nat} {r t d h : Int} {ra : Option Addr} {rl rc : Nat} {x : Int} (hK : FrK w W sb p g S va vl vc al) (hs : sb ≠ g) (hM : S'.at w' p g 60) (hC : FrC w' S S' page m va vl vc al r t d h ra rl rc x) (hr : x = 0 → ∀ y, ra = some y → W.heap.size ≤ y.block) (hG : W.grownBy w' (some g)) (hB : Below w.heap.size w w') :
    FrT w (w'.alloc (.cells #[.int .i64 r, .int .i64 t, .int .i64 d, .int .i64 h, .slice ra rl rc] 32)) sb w'.heap.size p g S S' page m va vl vc al r t d h ra rl rc x := by
  have hsl := hK.slt
  have hlt : sb < w'.heap.size := Nat.lt_of_lt_of_le hsl hG.size
  refine ⟨MemAt.alloc hM _, ?_, (Below.heap_alloc _ _ _ hlt).trans ((hG.block sb hsl (fun e => hs (Option.some.inj e))).trans hK.blk), heap_alloc_new _ _, hB.alloc hB.size _, by omega, fun e y hy => by have := hr e y hy; omega⟩
  rcases hC with ⟨c1, c2, c3, c4⟩ | ⟨c1, c2, c3, c4, c5, c6, c7, c8, al', y, c9, c10, c11, c12⟩
  · exact .inl ⟨c1, c2, c3.alloc _, c4⟩
  · exact .inr ⟨c1, c2, c3, c4, c5, c6, c7, c8, al', y, c9, c10, c11, c12.alloc _⟩

theorem frT_set {W w' : World} {S' : PtS} {page m tb : Nat} {r t d h : Int} {ra : Option Addr} {rl rc : Nat} {x : Int} (hK : FrK w W sb p g S va vl vc al) (hs : sb ≠ g) (hM : S'.at w' p g 60) (hC : FrC w' S S' page m va vl vc al r t d h ra rl rc x) (hr : x = 0 → ∀ y, ra = some y → W.heap.size ≤ y.block) (hG : W.grownBy w' (some g)) (hB : Below w.heap.size w w')
    (ht : W.heap[tb]? = some (.cells #[.int .i64 0, .int .i64 0, .int .i64 0, .int .i64 0, .slice none 0 0] 32 (0, 0))) (hts : sb < tb) (htg : g < tb) (htp : p < tb) (htw : w.heap.size ≤ tb) (hva : ∀ y, va = some y → y.block < tb) :
    FrT w (((((w'.setCell ⟨tb, 0, none⟩ (.int .i64 r)).setCell ⟨tb, 1, none⟩ (.int .i64 t)).setCell ⟨tb, 2, none⟩ (.int .i64 d)).setCell ⟨tb, 3, none⟩ (.int .i64 h)).setCell ⟨tb, 4, none⟩ (.slice ra rl rc)) sb tb p g S S' page m va vl vc al r t d h ra rl rc x := by
  have hsl := hK.slt
  have htl : tb < W.heap.size := (Array.getElem?_eq_some_iff.1 ht).1
  have ht' := (hG.block tb htl (fun e => by have := Option.some.inj e; omega)).trans ht
  have hne : sb ≠ tb := by omega
  refine ⟨?_, ?_, ?_, heap_setCell_same _ _ _ _ _ _ (heap_setCell_same _ _ _ _ _ _ (heap_setCell_same _ _ _ _ _ _ (heap_setCell_same _ _ _ _ _ _ (heap_setCell_same _ _ _ _ _ _ ht')))), ?_, by omega, fun e y hy => by have := hr e y hy; omega⟩
  · have hp : p ≠ tb := by omega
    have hg : g ≠ tb := by omega
    exact MemAt.setOther (MemAt.setOther (MemAt.setOther (MemAt.setOther (MemAt.setOther hM _ _ _ hp hg) _ _ _ hp hg) _ _ _ hp hg) _ _ _ hp hg) _ _ _ hp hg
  · rcases hC with ⟨c1, c2, c3, c4⟩ | ⟨c1, c2, c3, c4, c5, c6, c7, c8, al', y, c9, c10, c11, c12⟩
    · have hn : ∀ y, va = some y → y.block ≠ tb := fun y e => by have := hva y e; omega
      exact .inl ⟨c1, c2, ((((c3.farA _ _ hn).farA _ _ hn).farA _ _ hn).farA _ _ hn).farA _ _ hn, c4⟩
    · have hn : ∀ y, ra = some y → y.block ≠ tb := fun y e => by have := hr c1 y e; omega
      exact .inr ⟨c1, c2, c3, c4, c5, c6, c7, c8, al', y, c9, c10, c11, ((((c12.farA _ _ hn).farA _ _ hn).farA _ _ hn).farA _ _ hn).farA _ _ hn⟩
  · exact (heap_setCell_other _ _ _ _ hne).trans ((heap_setCell_other _ _ _ _ hne).trans ((heap_setCell_other _ _ _ _ hne).trans ((heap_setCell_other _ _ _ _ hne).trans ((heap_setCell_other _ _ _ _ hne).trans ((hG.block sb hsl (fun e => hs (Option.some.inj e))).trans hK.blk)))))
  · exact ((((hB.setCell (p := ⟨tb, 0, none⟩) htw _).setCell (p := ⟨tb, 1, none⟩) htw _).setCell (p := ⟨tb, 2, none⟩) htw _).setCell (p := ⟨tb, 3, none⟩) htw _).setCell (p := ⟨tb, 4, none⟩) htw _

/-- the answer becomes the space. -/
theorem FrT.put {tb page m : Nat} {S' : PtS} {r t d h : Int} {ra : Option Addr} {rl rc : Nat} (hT : FrT w W sb tb p g S S' page m va vl vc al r t d h ra rl rc 0) {al' : List AttV} (hA : AttsAt W (.slice ra rl rc) al') (hg : g < sb) (hp : p < sb) (hw : w.heap.size ≤ sb) :
    FrK w (((((W.setCell ⟨sb, 0, none⟩ (.int .i64 4)).setCell ⟨sb, 1, none⟩ (.int .i64 1)).setCell ⟨sb, 2, none⟩ (.int .i64 0)).setCell ⟨sb, 3, none⟩ (.int .i64 0)).setCell ⟨sb, 4, none⟩ (.slice ra rl rc)) sb p g S' ra rl rc al' := by
  have hn := hT.far rfl
  refine ⟨?_, ((((hA.farA _ _ hn).farA _ _ hn).farA _ _ hn).farA _ _ hn).farA _ _ hn, heap_setCell_same _ _ _ _ _ _ (heap_setCell_same _ _ _ _ _ _ (heap_setCell_same _ _ _ _ _ _ (heap_setCell_same _ _ _ _ _ _ (heap_setCell_same _ _ _ _ _ _ hT.blk)))), ?_⟩
  · have hp : p ≠ sb := by omega
    have hg : g ≠ sb := by omega
    exact MemAt.setOther (MemAt.setOther (MemAt.setOther (MemAt.setOther (MemAt.setOther hT.mem _ _ _ hp hg) _ _ _ hp hg) _ _ _ hp hg) _ _ _ hp hg) _ _ _ hp hg
  · exact ((((hT.bel.setCell (p := ⟨sb, 0, none⟩) hw _).setCell (p := ⟨sb, 1, none⟩) hw _).setCell (p := ⟨sb, 2, none⟩) hw _).setCell (p := ⟨sb, 3, none⟩) hw _).setCell (p := ⟨sb, 4, none⟩) hw _
theorem far5 {W : World} {b c o : Nat} {u x0 x1 x2 x3 x4 : Value} (h : W.cell? ⟨b, o, none⟩ = some u) (hne : b ≠ c) : (((((W.setCell ⟨c, 0, none⟩ x0).setCell ⟨c, 1, none⟩ x1).setCell ⟨c, 2, none⟩ x2).setCell ⟨c, 3, none⟩ x3).setCell ⟨c, 4, none⟩ x4).cell? ⟨b, o, none⟩ = some u :=
  cell_far (cell_far (cell_far (cell_far (cell_far h hne) hne) hne) hne) hne

theorem AttsAt.len {va : Option Addr} (h : AttsAt W (.slice va vl vc) al) : vl = al.length := by
  rcases h with ⟨rfl, h2⟩ | ⟨h0, b, cap2, h1, h2, h4⟩
  · simp at h2; exact h2.2.1
  · simp at h1; exact h1.2.1
theorem grown_keep {W w' : World} {g c : Nat} {o : Obj} (h : W.grownBy w' (some g)) (hc : W.heap[c]? = some o) (hn : c ≠ g) : w'.heap[c]? = some o := (h.block c (Array.getElem?_eq_some_iff.1 hc).1 (fun e => hn (Option.some.inj e))).trans hc
theorem alloc_one (W : World) (o1 : Obj) : (W.alloc o1).drew.heap[W.heap.size]? = some o1 := heap_alloc_new W o1
theorem alloc_lo (W : World) (o1 o2 : Obj) : ((W.alloc o1).alloc o2).drew.heap[W.heap.size]? = some o1 := (Below.heap_alloc _ _ _ (by simp)).trans (heap_alloc_new W o1)
theorem alloc_hi (W : World) (o1 o2 : Obj) : ((W.alloc o1).alloc o2).drew.heap[W.heap.size + 1]? = some o2 := by
  have := heap_alloc_new (W.alloc o1) o2
  rw [World.size_alloc] at this
  exact this

theorem given_int (m : Nat) (h1 : 1 ≤ m) (h2 : m ≤ 4) (w : World) : Calls Try.prog 10 #[.int .i64 ((m : Int) - 1)] w fun e w' => e = .returned (.slice (some ⟨w.heap.size, 0, none⟩) m 4) ∧ w' = w.alloc (.cells #[.int .i64 0, .int .i64 1, .int .i64 2, .int .i64 3] 3) := by
  have h := given_any (m - 1) (by omega) w
  rw [show ((m - 1 : Nat) : Int) = (m : Int) - 1 by omega, show 1 + (m - 1) = m by omega] at h
  exact h
theorem given_cells {W : World} {b : Nat} (h : W.heap[b]? = some (.cells #[.int .i64 0, .int .i64 1, .int .i64 2, .int .i64 3] 3 (0, 0))) : ∀ j, j < 4 → W.cell? ⟨b, j, none⟩ = some (.int .i64 (j : Int)) := by
  intro j hj
  rcases (by omega : j = 0 ∨ j = 1 ∨ j = 2 ∨ j = 3) with rfl | rfl | rfl | rfl <;> exact cell_of_heap h rfl

end
end Go.Proofs.Ytdkaaoboipphcaa
