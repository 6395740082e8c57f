/- General, over any program: a block of cells that the call itself has made; worlds that have only drawn. -/
import Derived.WalkKit
import Derived.WalkSpells
import Derived.WalkLawsBesides
import Derived.Laws.StructEq
import Derived.Laws.Rows
import Derived.Lib.Hide
import Derived.Below
import Derived.RangeFuncNested
import Derived.BigQuiet
import Derived.Deep.QuietTactic
import Derived.Deep.RegionHeld3
namespace Go.Proofs.Yteannfenkmejjaa
open Go.RowKit

/-- the block b holds the cells xs. -/
structure BoxA (w : World) (b : Nat) (t : TypeId) (xs : Array Value) : Prop where
  blk : w.heap[b]? = some (.cells xs t (0, 0))
section
variable {w w' : World} {b q m : Nat} {t : TypeId} {xs : Array Value}
theorem BoxA.new (w : World) (t : TypeId) (xs : Array Value) : BoxA (w.alloc (.cells xs t)) w.heap.size t xs := ⟨heap_alloc_new _ _⟩
theorem BoxA.lt (h : BoxA w b t xs) : b < w.heap.size := (Array.getElem?_eq_some_iff.1 h.blk).1
theorem BoxA.keep (h : BoxA w b t xs) (e : w'.heap[b]? = w.heap[b]?) : BoxA w' b t xs := ⟨e.trans h.blk⟩
theorem BoxA.alloc (h : BoxA w b t xs) (o : Obj) : BoxA (w.alloc o) b t xs := h.keep (Below.heap_alloc w o b h.lt)
theorem BoxA.below (h : BoxA w b t xs) (hb : Below m w w') (hlt : b < m) : BoxA w' b t xs := h.keep (hb.block b hlt)
theorem BoxA.below' (h : BoxA w b t xs) (hb : Below w.heap.size w w') : BoxA w' b t xs := h.keep (hb.block b h.lt)
theorem BoxA.at (h : BoxA w b t xs) (i : Nat) {v : Value} (hv : xs[i]? = some v) : w.cell? ⟨b, i, none⟩ = some v := by simp [World.cell?, h.blk, hv]
theorem BoxA.f (h : BoxA w b t xs) (i : Nat) : w.frozen? ⟨b, i, none⟩ = false := by simp [World.frozen?, h.blk]
theorem BoxA.set (h : BoxA w b t xs) (i : Nat) (v : Value) : BoxA (w.setCell ⟨b, i, none⟩ v) b t (xs.setIfInBounds i v) := ⟨heap_setCell_same w b i _ _ v h.blk⟩
theorem BoxA.setOther (h : BoxA w b t xs) (o : Nat) (v : Value) (hne : b ≠ q) : BoxA (w.setCell ⟨q, o, none⟩ v) b t xs := h.keep (heap_setCell_other _ _ _ _ hne)
theorem BoxA.kept {row : Option Nat} (h : BoxA w b t xs) (hg : w.grownBy w' row) (hrow : ∀ r, row = some r → ∃ o : Obj, w.heap[r]? = some o ∧ o.isCells = false) : BoxA w' b t xs :=
  h.keep (by
    refine hg.block b h.lt (fun e => ?_)
    obtain ⟨o, ho, hc⟩ := hrow b e.symm
    rw [h.blk] at ho; cases ho; cases hc)
end

theorem below_drewN' {m k : Nat} {w w1 : World} (h : Below m w w1) : Below m w (w1.drewN k) := ⟨h.os, h.tape, h.output, h.size, h.block⟩
theorem drew_below' {n : Nat} {w1 w2 : World} (h : Below n w1.drew w2) : Below n w1 w2 := ⟨h.os, h.tape, h.output, h.size, h.block⟩
theorem drewN_below {n k : Nat} {w1 w2 : World} (h : Below n (w1.drewN k) w2) : Below n w1 w2 := ⟨h.os, h.tape, h.output, h.size, h.block⟩

end Go.Proofs.Yteannfenkmejjaa
