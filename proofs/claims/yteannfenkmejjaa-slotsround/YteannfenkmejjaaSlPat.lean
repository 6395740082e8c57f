/- General: what a call leaves where a few blocks have new cells and all else that was there is as it was. Layer 11: the first of some slots. -/
import Derived.Test.YteannfenkmejjaaSlMv
import Derived.Test.YteannfenkmejjaaQuKeep
namespace Go.Proofs.Yteannfenkmejjaa
open Go.RowKit

/-- the blocks of X hold what X says; all else that was there lies as it lay. -/
structure Pat (X : List (Nat × Obj)) (w w' : World) : Prop where
  os : w'.os = w.os
  tape : w'.tape = w.tape
  output : w'.output = w.output
  size : w.heap.size ≤ w'.heap.size
  block : ∀ k, k < w.heap.size → (∀ x ∈ X, x.1 ≠ k) → w'.heap[k]? = w.heap[k]?
  new : ∀ x ∈ X, w'.heap[x.1]? = some x.2
section
variable {X : List (Nat × Obj)} {w W W' : World}
theorem Pat.nil (h : Below w.heap.size w W) : Pat [] w W := ⟨h.os, h.tape, h.output, h.size, fun k hk _ => h.block k hk, fun x hx => by cases hx⟩
theorem Pat.below (h : Pat [] w W) : Below w.heap.size w W := ⟨h.os, h.tape, h.output, h.size, fun k hk => h.block k hk (fun x hx => by cases hx)⟩
theorem Pat.comp {n : Nat} (hb : Below n w W) (hn : w.heap.size ≤ n) (h : Pat X W W') : Pat X w W' :=
  ⟨h.os.trans hb.os, h.tape.trans hb.tape, h.output.trans hb.output, Nat.le_trans hb.size h.size, fun k hk hx => (h.block k (Nat.lt_of_lt_of_le hk hb.size) hx).trans (hb.block k (by omega)), h.new⟩
theorem Pat.after {n : Nat} (h : Pat X w W) (hw : w.heap.size ≤ n) (hX : ∀ x ∈ X, x.1 < n) (hb : Below n W W') : Pat X w W' :=
  ⟨hb.os.trans h.os, hb.tape.trans h.tape, hb.output.trans h.output, Nat.le_trans h.size hb.size, fun k hk hx => (hb.block k (by omega)).trans (h.block k hk hx), fun x hx => (hb.block _ (hX x hx)).trans (h.new x hx)⟩
theorem Pat.grown {row : Option Nat} (h : Pat X w W) (hX : ∀ x ∈ X, x.1 < w.heap.size) (hg : W.grownBy W' row) (hr : ∀ r, row = some r → w.heap.size ≤ r) : Pat X w W' :=
  ⟨hg.os.trans h.os, hg.tape.trans h.tape, hg.output.trans h.output, Nat.le_trans h.size hg.size,
    fun k hk hx => (hg.block k (Nat.lt_of_lt_of_le hk h.size) (fun e => by have := hr k e.symm; omega)).trans (h.block k hk hx),
    fun x hx => by
      have hl := hX x hx
      exact (hg.block x.1 (Nat.lt_of_lt_of_le hl h.size) (fun e => by have := hr _ e.symm; omega)).trans (h.new x hx)⟩
theorem Pat.drew (h : Pat X w W) : Pat X w W.drew := ⟨h.os, h.tape, h.output, h.size, h.block, h.new⟩
theorem Pat.setHi (h : Pat X w W) (hX : ∀ x ∈ X, x.1 < w.heap.size) {c : Nat} (hc : w.heap.size ≤ c) (o : Nat) (v : Value) : Pat X w (W.setCell ⟨c, o, none⟩ v) :=
  ⟨h.os, h.tape, h.output, by have := h.size; simpa using this, fun k hk hx => (heap_setCell_other _ _ _ _ (show k ≠ c by omega)).trans (h.block k hk hx),
    fun x hx => (heap_setCell_other _ _ _ _ (show x.1 ≠ c by have := hX x hx; omega)).trans (h.new x hx)⟩
theorem Pat.putHi (h : Pat X w W) (hX : ∀ x ∈ X, x.1 < w.heap.size) {c : Nat} (hc : w.heap.size ≤ c) (o : Obj) : Pat X w (W.putObj c o) :=
  ⟨h.os, h.tape, h.output, by rw [World.putObj_size]; exact h.size, fun k hk hx => (World.putObj_heap_other (show k ≠ c by omega)).trans (h.block k hk hx),
    fun x hx => (World.putObj_heap_other (show x.1 ≠ c by have := hX x hx; omega)).trans (h.new x hx)⟩
theorem Pat.from {B : Nat} (h : Pat X W W') (hX : ∀ x ∈ X, x.1 < B) : KeepsFrom B W W' :=
  ⟨h.size, fun k o hk ho _ => (h.block k (Array.getElem?_eq_some_iff.1 ho).1 (fun x hx e => by have := hX x hx; omega)).trans ho⟩
theorem Pat.mvS {S S' : Nat → Prop} (h : Pat X w W) (hX : ∀ x ∈ X, S x.1 ∨ w.heap.size ≤ x.1) (hS : ∀ k, S' k → S k ∨ w.heap.size ≤ k) : MvS S S' w W :=
  ⟨h.os, h.tape, h.output, h.size, fun k hk hn => h.block k hk (fun x hx e => by rcases hX x hx with c | c; exact hn (e ▸ c); omega), hS⟩
end

theorem Pat.mv {X : List (Nat × Obj)} {w W W' : World} {p : Nat} (hb : Below w.heap.size w W) (h : Pat X W W') (hX : ∀ x ∈ X, x.1 = p ∨ w.heap.size ≤ x.1) : MvS (fun k => k = p) (fun k => k = p) w W' :=
  ⟨h.os.trans hb.os, h.tape.trans hb.tape, h.output.trans hb.output, Nat.le_trans hb.size h.size,
    fun k hk hn => (h.block k (Nat.lt_of_lt_of_le hk hb.size) (fun x hx e => by rcases hX x hx with c | c; exact hn (e.symm.trans c); omega)).trans (hb.block k hk), fun k hk => .inl hk⟩
theorem Pat.lo {X : List (Nat × Obj)} {w W W' : World} (hb : Below w.heap.size w W) (h : Pat X W W') (hX : ∀ x ∈ X, w.heap.size ≤ x.1) : Below w.heap.size w W' :=
  ⟨h.os.trans hb.os, h.tape.trans hb.tape, h.output.trans hb.output, Nat.le_trans hb.size h.size,
    fun k hk => (h.block k (Nat.lt_of_lt_of_le hk hb.size) (fun x hx e => by have := hX x hx; omega)).trans (hb.block k hk)⟩

/-- of what was there, blocks of S alone have turned. -/
structure Tou (S : List Nat) (w w' : World) : Prop where
  os : w'.os = w.os
  tape : w'.tape = w.tape
  output : w'.output = w.output
  size : w.heap.size ≤ w'.heap.size
  block : ∀ k, k < w.heap.size → k ∉ S → w'.heap[k]? = w.heap[k]?
theorem Tou.refl (S : List Nat) (w : World) : Tou S w w := ⟨rfl, rfl, rfl, Nat.le_refl _, fun _ _ _ => rfl⟩
theorem Tou.set {S : List Nat} {w W : World} (h : Tou S w W) {c : Nat} (hc : c ∈ S) (o : Nat) (v : Value) : Tou S w (W.setCell ⟨c, o, none⟩ v) :=
  ⟨h.os, h.tape, h.output, by have := h.size; simpa using this, fun k hk hn => (heap_setCell_other _ _ _ _ (fun e : k = c => hn (e ▸ hc))).trans (h.block k hk hn)⟩
theorem Tou.drew {S : List Nat} {w W : World} (h : Tou S w W) : Tou S w W.drew := ⟨h.os, h.tape, h.output, h.size, h.block⟩
theorem Tou.pat {S : List Nat} {X : List (Nat × Obj)} {w W : World} (h : Tou S w W) (hS : ∀ k ∈ S, ∃ x ∈ X, x.1 = k) (hX : ∀ x ∈ X, W.heap[x.1]? = some x.2) : Pat X w W :=
  ⟨h.os, h.tape, h.output, h.size, fun k hk hn => h.block k hk (fun c => by obtain ⟨x, hx, e⟩ := hS k c; exact hn x hx e), hX⟩

/-- the slots that were gone through, up to the one at which it was stopped. -/
theorem find_stop {sel t : Nat → Bool} {k j : Nat} {A : List Nat} (hk : k ≤ 8) (h : A ++ [j] = (List.range k).filter sel) (hA : ∀ a ∈ A, t a = false) (hj : t j = true) : (List.range 8).find? (fun i => sel i && t i) = some j := by
  have h1 : ∀ l : List Nat, l.find? (fun i => sel i && t i) = (l.filter sel).find? t := by
    intro l
    induction l with
    | nil => rfl
    | cons a l ih =>
      rw [List.find?_cons, List.filter_cons]
      cases hs : sel a with
      | false => simp
      | true =>
        rw [if_pos rfl, List.find?_cons]
        cases ht : t a with
        | false => simp
        | true => rfl
  obtain ⟨m, hm⟩ : ∃ m, 8 = k + m := ⟨8 - k, by omega⟩
  rw [h1, hm, List.range_add, List.filter_append, ← h, List.append_assoc, List.find?_append, List.find?_eq_none.2 (fun a ha => by rw [hA a ha]; simp)]
  simp [hj]
theorem find_done {sel t : Nat → Bool} {A : List Nat} (h : A = (List.range 8).filter sel) (hA : ∀ a ∈ A, t a = false) : (List.range 8).find? (fun i => sel i && t i) = none := by
  refine List.find?_eq_none.2 fun i hi => ?_
  cases hs : sel i with
  | false => simp
  | true =>
    have := hA i (by rw [h]; exact List.mem_filter.2 ⟨hi, hs⟩)
    simp [this]
/-- what a round that goes on keeps. -/
structure Kp4 (p a b x : Nat) (W W' : World) : Prop where
  p : W'.heap[p]? = W.heap[p]?
  a : W'.heap[a]? = W.heap[a]?
  b : W'.heap[b]? = W.heap[b]?
  x : W'.heap[x]? = W.heap[x]?
section
variable {p a b x : Nat} {A B C : World}
theorem Kp4.refl (p a b x : Nat) (W : World) : Kp4 p a b x W W := ⟨rfl, rfl, rfl, rfl⟩
theorem Kp4.trans (h : Kp4 p a b x A B) (k : Kp4 p a b x B C) : Kp4 p a b x A C := ⟨k.p.trans h.p, k.a.trans h.a, k.b.trans h.b, k.x.trans h.x⟩
theorem Kp4.of_below {n : Nat} (h : Below n A B) (hp : p < n) (ha : a < n) (hb : b < n) (hx : x < n) : Kp4 p a b x A B := ⟨h.block p hp, h.block a ha, h.block b hb, h.block x hx⟩
theorem Kp4.lt {k : Nat} (h : B.heap[k]? = A.heap[k]?) (hk : k < A.heap.size) : k < B.heap.size := by
  rw [Array.getElem?_eq_getElem hk] at h
  exact (Array.getElem?_eq_some_iff.1 h).1
theorem Kp4.put (W : World) (l : Nat) (o : Obj) (hp : p < l) (ha : a < l) (hb : b < l) (hx : x < l) : Kp4 p a b x W (W.putObj l o) :=
  ⟨World.putObj_heap_other (by omega), World.putObj_heap_other (by omega), World.putObj_heap_other (by omega), World.putObj_heap_other (by omega)⟩
end
def useE (b : Bool) : Option Nat → Int
  | some _ => 0
  | none => if b then 100 else 101
def useX (X : Nat → List (Nat × Obj)) : Option Nat → List (Nat × Obj)
  | some i => X i
  | none => []

end Go.Proofs.Yteannfenkmejjaa
