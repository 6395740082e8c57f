/- Layer 11: what a call turns. -/
import Derived.Test.YteannfenkmejjaaSlPure
import Derived.Test.YteannfenkmejjaaQuInts
namespace Go.Proofs.Yteannfenkmejjaa
open Go.RowKit
/-- what a call turns: blocks of S; S' are S's or new. -/
structure MvS (S S' : Nat → Prop) (w w' : World) : Prop where
  os : w'.os = w.os
  tape : w'.tape = w.tape
  output : w'.output = w.output
  size : w.heap.size ≤ w'.heap.size
  block : ∀ k, k < w.heap.size → ¬ S k → w'.heap[k]? = w.heap[k]?
  row : ∀ k, S' k → S k ∨ w.heap.size ≤ k
section
variable {W0 W W' : World} {S S' : Nat → Prop}
theorem MvS.below (hm : MvS S S' W W') (h2 : ∀ k, S k → W0.heap.size ≤ k) (h3 : Below W0.heap.size W0 W) : Below W0.heap.size W0 W' :=
  ⟨hm.os.trans h3.os, hm.tape.trans h3.tape, hm.output.trans h3.output, Nat.le_trans h3.size hm.size, fun k hk => (hm.block k (Nat.lt_of_lt_of_le hk h3.size) (fun c => by have := h2 k c; omega)).trans (h3.block k hk)⟩
theorem MvS.lo (hm : MvS S S' W W') (hS : ∀ k, S k → W0.heap.size ≤ k) (hB : Below W0.heap.size W0 W) : ∀ k, S' k → W0.heap.size ≤ k := fun k hk => by
  rcases hm.row k hk with c | c
  · exact hS k c
  · exact Nat.le_trans hB.size c
end
end Go.Proofs.Yteannfenkmejjaa
