/- A memory of the program and one of the document, side by side, of the same references and bytes: plain facts. -/
import Derived.Test.YtkcoeibbmfkjlaaRef1New
namespace Go.Proofs.Ytkcoeibbmfkjlaa
open Go.RowKit

/-- both memories hold the same. -/
structure Both (w : World) (p g q gb gr n : Nat) (R : Nat → Int) (B : Nat → List UInt8) : Prop where
  mem : MemAt w p g n R B
  ref : RefAt w q gb gr n R B

/-- w' is w with new blocks, and with writes to the frames' blocks alone. -/
structure Three (w w' : World) (g gb gr : Nat) : Prop where
  os : w'.os = w.os
  tape : w'.tape = w.tape
  output : w'.output = w.output
  size : w.heap.size ≤ w'.heap.size
  block : ∀ k, k < w.heap.size → k ≠ g → k ≠ gb → k ≠ gr → w'.heap[k]? = w.heap[k]?

section
variable {w w' : World} {p g q gb gr n : Nat} {R R' : Nat → Int} {B B' : Nat → List UInt8}

theorem Three.refl (w : World) (g gb gr : Nat) : Three w w g gb gr := ⟨rfl, rfl, rfl, Nat.le_refl _, fun _ _ _ _ _ => rfl⟩
theorem Three.trans {a b c : World} (h : Three a b g gb gr) (k : Three b c g gb gr) : Three a c g gb gr :=
  ⟨k.os.trans h.os, k.tape.trans h.tape, k.output.trans h.output, Nat.le_trans h.size k.size, fun i hi n1 n2 n3 => (k.block i (Nat.lt_of_lt_of_le hi h.size) n1 n2 n3).trans (h.block i hi n1 n2 n3)⟩
theorem Three.of_mem {a b : World} (gb gr : Nat) (h : a.grownBy b (some g)) : Three a b g gb gr :=
  ⟨h.os, h.tape, h.output, h.size, fun i hi n1 _ _ => h.block i hi (fun e => n1 (Option.some.inj e))⟩
theorem Three.of_two {a b : World} (g : Nat) (h : Two a b gb gr) : Three a b g gb gr :=
  ⟨h.os, h.tape, h.output, h.size, fun i hi _ n2 n3 => h.block i hi n2 n3⟩
theorem Three.of_below {a b : World} (g gb gr : Nat) (h : Below a.heap.size a b) : Three a b g gb gr :=
  ⟨h.os, h.tape, h.output, h.size, fun i hi _ _ _ => h.block i hi⟩
theorem Three.below {a b : World} {m : Nat} (h : Three a b g gb gr) (hm : m ≤ a.heap.size) (h1 : m ≤ g) (h2 : m ≤ gb) (h3 : m ≤ gr) : Below m a b :=
  ⟨h.os, h.tape, h.output, h.size, fun k hk => h.block k (by omega) (by omega) (by omega) (by omega)⟩
theorem Three.cell {a b : World} (h : Three a b g gb gr) {x o : Nat} {v : Value} (hc : a.cell? ⟨x, o, none⟩ = some v) (h1 : x ≠ g) (h2 : x ≠ gb) (h3 : x ≠ gr) : b.cell? ⟨x, o, none⟩ = some v :=
  (World.cell?_of_block (w := a) (h.block x (World.block_lt_of_cell? a _ hc) h1 h2 h3)).trans hc
theorem Three.drew {a b : World} (h : Three a b g gb gr) : Three a b.drew g gb gr := ⟨h.os, h.tape, h.output, h.size, h.block⟩

theorem Both.apart (h : Both w p g q gb gr n R B) : p ≠ gb ∧ p ≠ gr ∧ g ≠ q ∧ g ≠ gb ∧ g ≠ gr := by
  obtain ⟨C, eg, _⟩ := h.mem.hg
  obtain ⟨_, _, eq⟩ := h.ref.hq
  obtain ⟨_, eb, _⟩ := h.ref.hb
  obtain ⟨_, er, _⟩ := h.ref.hr
  have ep := h.mem.hp
  refine ⟨?_, ?_, ?_, ?_, ?_⟩ <;> rintro rfl
  · rw [ep] at eb; simp at eb
  · rw [ep] at er; simp at er
  · rw [eg] at eq; simp at eq
  · rw [eg] at eb; simp at eb
  · rw [eg] at er; simp at er

/-- the document's memory behind what the program's does. -/
theorem Both.refMem (h : Both w p g q gb gr n R B) (hg : w.grownBy w' (some g)) : RefAt w' q gb gr n R B := by
  obtain ⟨_, _, n3, n4, n5⟩ := h.apart
  exact h.ref.grownOther hg (fun e => n3 (Option.some.inj e).symm) (fun e => n4 (Option.some.inj e).symm) (fun e => n5 (Option.some.inj e).symm)
/-- the program's memory behind what the document's does. -/
theorem memTwo (hm : MemAt w p g n R B) (hr : RefAt w q gb gr n R' B') (ht : Two w w' gb gr) : MemAt w' p g n R B := by
  obtain ⟨C, eg, _⟩ := hm.hg
  obtain ⟨_, eb, _⟩ := hr.hb
  obtain ⟨_, er, _⟩ := hr.hr
  have ep := hm.hp
  refine hm.keep (ht.block p hm.p_lt ?_ ?_) (ht.block g hm.g_lt ?_ ?_) <;> rintro rfl
  · rw [ep] at eb; simp at eb
  · rw [ep] at er; simp at er
  · rw [eg] at eb; simp at eb
  · rw [eg] at er; simp at er
theorem Both.below (h : Both w p g q gb gr n R B) (hb : Below w.heap.size w w') : Both w' p g q gb gr n R B := ⟨h.mem.below hb, h.ref.below hb⟩
theorem Both.drew (h : Both w p g q gb gr n R B) : Both w.drew p g q gb gr n R B := ⟨h.mem.keep rfl rfl, h.ref.keep rfl rfl rfl⟩

end
end Go.Proofs.Ytkcoeibbmfkjlaa
