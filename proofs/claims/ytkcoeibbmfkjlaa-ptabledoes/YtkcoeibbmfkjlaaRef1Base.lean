/- The document's own memory (package taffrailref01), as it lies in the world: plain facts, no walk. -/
import Derived.Test.YtkcoeibbmfkjlaaFramesMach
namespace Go.Proofs.Ytkcoeibbmfkjlaa
open Go.RowKit

/-- a text of these bytes. -/
def tx (l : List UInt8) : ByteArray := ⟨l.toArray⟩
theorem tx_size (l : List UInt8) : (tx l).size = l.length := by show l.toArray.size = _; simp
theorem tx_toList (l : List UInt8) : (tx l).data.toList = l := by simp [tx]
theorem tx_of (s : ByteArray) : tx s.data.toList = s := by simp [tx]

/-- The block q holds a ref's Mem of n frames: bytes in block gb, references in block gr. -/
structure RefAt (w : World) (q gb gr n : Nat) (R : Nat → Int) (B : Nat → List UInt8) : Prop where
  hq : ∃ cb cr, w.heap[q]? = some (.cells #[.slice (some ⟨gb, 0, none⟩) n cb, .slice (some ⟨gr, 0, none⟩) n cr] 64 (0, 0))
  hb : ∃ C : Array Value, w.heap[gb]? = some (.cells C 9 (0, 0)) ∧ ∀ k, k < n → C[k]? = some (.string (tx (B k)))
  hr : ∃ C : Array Value, w.heap[gr]? = some (.cells C 3 (0, 0)) ∧ ∀ k, k < n → C[k]? = some (.int .i64 (R k))
  hR : ∀ k, k < n → 0 ≤ R k ∧ R k ≤ 1000
  hB : ∀ k, k < n → (B k).length = 64
  hn : n ≤ 256
  h1 : 1 ≤ n

section
variable {w w' : World} {q gb gr n : Nat} {R : Nat → Int} {B : Nat → List UInt8}

theorem RefAt.q_lt (h : RefAt w q gb gr n R B) : q < w.heap.size := by obtain ⟨_, _, e⟩ := h.hq; exact (Array.getElem?_eq_some_iff.1 e).1
theorem RefAt.gb_lt (h : RefAt w q gb gr n R B) : gb < w.heap.size := by obtain ⟨_, e, _⟩ := h.hb; exact (Array.getElem?_eq_some_iff.1 e).1
theorem RefAt.gr_lt (h : RefAt w q gb gr n R B) : gr < w.heap.size := by obtain ⟨_, e, _⟩ := h.hr; exact (Array.getElem?_eq_some_iff.1 e).1
theorem RefAt.q_ne_b (h : RefAt w q gb gr n R B) : q ≠ gb := by
  rintro rfl
  obtain ⟨_, _, e⟩ := h.hq
  obtain ⟨_, e2, _⟩ := h.hb
  rw [e] at e2
  simp at e2
theorem RefAt.q_ne_r (h : RefAt w q gb gr n R B) : q ≠ gr := by
  rintro rfl
  obtain ⟨_, _, e⟩ := h.hq
  obtain ⟨_, e2, _⟩ := h.hr
  rw [e] at e2
  simp at e2
theorem RefAt.b_ne_r (h : RefAt w q gb gr n R B) : gb ≠ gr := by
  rintro rfl
  obtain ⟨_, e, _⟩ := h.hb
  obtain ⟨_, e2, _⟩ := h.hr
  rw [e] at e2
  simp at e2

theorem RefAt.cellB (h : RefAt w q gb gr n R B) : ∃ cb, w.cell? ⟨q, 0, none⟩ = some (.slice (some ⟨gb, 0, none⟩) n cb) := by
  obtain ⟨cb, cr, e⟩ := h.hq
  exact ⟨cb, by simp [World.cell?, e]⟩
theorem RefAt.cellR (h : RefAt w q gb gr n R B) : ∃ cr, w.cell? ⟨q, 1, none⟩ = some (.slice (some ⟨gr, 0, none⟩) n cr) := by
  obtain ⟨cb, cr, e⟩ := h.hq
  exact ⟨cr, by simp [World.cell?, e]⟩
theorem RefAt.text (h : RefAt w q gb gr n R B) {k : Nat} (hk : k < n) : w.cell? ⟨gb, k, none⟩ = some (.string (tx (B k))) := by
  obtain ⟨C, e, hc⟩ := h.hb
  simp [World.cell?, e, hc k hk]
theorem RefAt.refs (h : RefAt w q gb gr n R B) {k : Nat} (hk : k < n) : w.cell? ⟨gr, k, none⟩ = some (.int .i64 (R k)) := by
  obtain ⟨C, e, hc⟩ := h.hr
  simp [World.cell?, e, hc k hk]
theorem RefAt.frozenB (h : RefAt w q gb gr n R B) (o : Nat) : w.frozen? ⟨gb, o, none⟩ = false := by
  obtain ⟨C, e, _⟩ := h.hb
  simp [World.frozen?, e]
theorem RefAt.frozenR (h : RefAt w q gb gr n R B) (o : Nat) : w.frozen? ⟨gr, o, none⟩ = false := by
  obtain ⟨C, e, _⟩ := h.hr
  simp [World.frozen?, e]

theorem RefAt.keep (h : RefAt w q gb gr n R B) (h1 : w'.heap[q]? = w.heap[q]?) (h2 : w'.heap[gb]? = w.heap[gb]?) (h3 : w'.heap[gr]? = w.heap[gr]?) : RefAt w' q gb gr n R B :=
  ⟨by rw [h1]; exact h.hq, by rw [h2]; exact h.hb, by rw [h3]; exact h.hr, h.hR, h.hB, h.hn, h.h1⟩
theorem RefAt.below (h : RefAt w q gb gr n R B) (hb : Below w.heap.size w w') : RefAt w' q gb gr n R B :=
  h.keep (hb.block q h.q_lt) (hb.block gb h.gb_lt) (hb.block gr h.gr_lt)
theorem RefAt.alloc (h : RefAt w q gb gr n R B) (o : Obj) : RefAt (w.alloc o) q gb gr n R B := h.below ((Below.refl _ _).alloc (Nat.le_refl _) _)
theorem RefAt.grownOther (h : RefAt w q gb gr n R B) {r : Option Nat} (hg : w.grownBy w' r) (e1 : some q ≠ r) (e2 : some gb ≠ r) (e3 : some gr ≠ r) : RefAt w' q gb gr n R B :=
  h.keep (hg.block q h.q_lt e1) (hg.block gb h.gb_lt e2) (hg.block gr h.gr_lt e3)

theorem RefAt.setR (h : RefAt w q gb gr n R B) {k : Nat} (hk : k < n) {r : Int} (h0 : 0 ≤ r) (hr : r ≤ 1000) :
    RefAt (w.setCell ⟨gr, k, none⟩ (.int .i64 r)) q gb gr n (updR R k r) B := by
  have n1 := h.q_ne_r
  have n2 := h.b_ne_r
  obtain ⟨C, e, hc⟩ := h.hr
  refine ⟨by rw [heap_setCell_other _ _ _ _ n1]; exact h.hq, by rw [heap_setCell_other _ _ _ _ n2]; exact h.hb, ⟨_, heap_setCell_same _ _ _ _ _ _ e, ?_⟩, ?_, h.hB, h.hn, h.h1⟩
  · intro i hi
    rw [Array.getElem?_setIfInBounds]
    have hkC : k < C.size := (Array.getElem?_eq_some_iff.1 (hc k hk)).1
    by_cases e : i = k
    · subst e; simp [hkC]
    · rw [if_neg (by omega), updR_other _ _ e]; exact hc i hi
  · intro i hi
    by_cases e : i = k
    · subst e; simp [h0, hr]
    · rw [updR_other _ _ e]; exact h.hR i hi

theorem RefAt.setB (h : RefAt w q gb gr n R B) {k : Nat} (hk : k < n) {l : List UInt8} (hl : l.length = 64) :
    RefAt (w.setCell ⟨gb, k, none⟩ (.string (tx l))) q gb gr n R (updB B k l) := by
  have n1 := h.q_ne_b
  have n2 := h.b_ne_r
  obtain ⟨C, e, hc⟩ := h.hb
  refine ⟨by rw [heap_setCell_other _ _ _ _ n1]; exact h.hq, ⟨_, heap_setCell_same _ _ _ _ _ _ e, ?_⟩, by rw [heap_setCell_other _ _ _ _ (fun e => n2 e.symm)]; exact h.hr, h.hR, ?_, h.hn, h.h1⟩
  · intro i hi
    rw [Array.getElem?_setIfInBounds]
    have hkC : k < C.size := (Array.getElem?_eq_some_iff.1 (hc k hk)).1
    by_cases e : i = k
    · subst e; simp [hkC]
    · rw [if_neg (by omega), updB_other _ _ e]; exact hc i hi
  · intro i hi
    by_cases e : i = k
    · subst e; simp [hl]
    · rw [updB_other _ _ e]; exact h.hB i hi

end

/-- w' is w with new blocks, and with writes to two blocks alone. -/
structure Two (w w' : World) (x y : Nat) : Prop where
  os : w'.os = w.os
  tape : w'.tape = w.tape
  output : w'.output = w.output
  size : w.heap.size ≤ w'.heap.size
  block : ∀ k, k < w.heap.size → k ≠ x → k ≠ y → w'.heap[k]? = w.heap[k]?
theorem Two.refl (w : World) (x y : Nat) : Two w w x y := ⟨rfl, rfl, rfl, Nat.le_refl _, fun _ _ _ _ => rfl⟩
theorem Two.trans {a b c : World} {x y : Nat} (h : Two a b x y) (k : Two b c x y) : Two a c x y :=
  ⟨k.os.trans h.os, k.tape.trans h.tape, k.output.trans h.output, Nat.le_trans h.size k.size, fun i hi n1 n2 => (k.block i (Nat.lt_of_lt_of_le hi h.size) n1 n2).trans (h.block i hi n1 n2)⟩
theorem Two.of_left {a b : World} {x y : Nat} (h : a.grownBy b (some x)) : Two a b x y :=
  ⟨h.os, h.tape, h.output, h.size, fun i hi n1 _ => h.block i hi (fun e => n1 (Option.some.inj e))⟩
theorem Two.of_right {a b : World} {x y : Nat} (h : a.grownBy b (some y)) : Two a b x y :=
  ⟨h.os, h.tape, h.output, h.size, fun i hi _ n2 => h.block i hi (fun e => n2 (Option.some.inj e))⟩
theorem Two.of_below {a b : World} (x y : Nat) (h : Below a.heap.size a b) : Two a b x y :=
  ⟨h.os, h.tape, h.output, h.size, fun i hi _ _ => h.block i hi⟩
theorem Two.below {a b : World} {x y m : Nat} (h : Two a b x y) (hm : m ≤ a.heap.size) (hx : m ≤ x) (hy : m ≤ y) : Below m a b :=
  ⟨h.os, h.tape, h.output, h.size, fun k hk => h.block k (by omega) (by omega) (by omega)⟩

end Go.Proofs.Ytkcoeibbmfkjlaa
