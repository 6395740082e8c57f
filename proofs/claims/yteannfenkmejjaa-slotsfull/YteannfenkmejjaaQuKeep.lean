/- Layer 7: what a round of a range over a function keeps: what lay below n₀, and every block of cells. Where a part of a queue begins. -/
import Derived.Test.YteannfenkmejjaaIter
import Derived.Test.YteannfenkmejjaaBox
import Derived.RangeFuncBox
namespace Go.Proofs.Yteannfenkmejjaa
open Go.RowKit Go.Shelf

structure KpC (n₀ : Nat) (W W' : World) : Prop where
  below : Below n₀ W W'
  blk : ∀ (k : Nat) (o : Obj), W.heap[k]? = some o → o.isCells = true → W'.heap[k]? = W.heap[k]?
section
variable {n₀ : Nat}
theorem KpC.refl (W : World) : KpC n₀ W W := ⟨Below.refl _ _, fun _ _ _ _ => rfl⟩
theorem KpC.trans {A B C : World} (h : KpC n₀ A B) (k : KpC n₀ B C) : KpC n₀ A C :=
  ⟨h.below.trans k.below, fun j o hj hc => (k.blk j o ((h.blk j o hj hc).trans hj) hc).trans (h.blk j o hj hc)⟩
theorem KpC.put {w : World} (hn : n₀ ≤ w.heap.size) (W : World) (l : Nat) (o o' : Obj) (hl : w.heap.size ≤ l) (h : W.heap[l]? = some o) (h1 : o.isCells = false) (h2 : o.isWalk = false) : KpC n₀ W (W.putObj l o') :=
  ⟨belowK_b hn W l o o' hl h h1 h2, fun k o2 hk hc => World.putObj_heap_other (by rintro rfl; rw [h] at hk; cases hk; rw [h1] at hc; cases hc)⟩
theorem KpC.of_below {W W' : World} (hn : n₀ ≤ W.heap.size) (h : Below W.heap.size W W') : KpC n₀ W W' :=
  ⟨⟨h.os, h.tape, h.output, h.size, fun k hk => h.block k (by omega)⟩, fun k _ hk _ => h.block k (Array.getElem?_eq_some_iff.1 hk).1⟩
end

theorem grown_of_below7 {w w' : World} (h : Below w.heap.size w w') (row : Option Nat) : w.grownBy w' row := ⟨h.os, h.tape, h.output, h.size, fun k hk _ => h.block k hk⟩
theorem boxed_keep7 {A W : World} {b : Nat} {t : TypeId} {v : Value} {row : Option Nat} (h : Boxed A b t v) (hg : A.grownBy W row) (hr : ∀ r, row = some r → ∃ o : Obj, A.heap[r]? = some o ∧ o.isCells = false) : Boxed W b t v :=
  boxed_own b t (fun _ : Unit => v) () A W row h hg hr
theorem below_put7 {m D : Nat} {w w1 : World} {o : Obj} (h : Below m w w1) (hD : m ≤ D) : Below m w (w1.putObj D o) :=
  ⟨h.os, h.tape, h.output, by rw [World.putObj_size]; exact h.size, fun k hk => (World.putObj_heap_other (by omega)).trans (h.block k hk)⟩
theorem below_drew7 {n : Nat} {w w1 : World} (h : Below n w w1) : Below n w w1.drew := ⟨h.os, h.tape, h.output, h.size, h.block⟩

/-- where the k-th part begins, of a queue whose first part has as many as stand ahead of the array's end. -/
def stQ (f n k : Nat) : Nat := match k with | 0 => 0 | 1 => min (f + n) 64 - f | _ => n
theorem stQ_le {f n k : Nat} (hk : k < 2) : stQ f n (k + 1) ≤ n := by
  match k, hk with
  | 0, _ => show min (f + n) 64 - f ≤ n; omega
  | 1, _ => show n ≤ n; omega
end Go.Proofs.Yteannfenkmejjaa
