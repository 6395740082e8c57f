/- Layer 7: a queue in memory: an array of sixty-four that is gone round, the place of the first thing, how many there are. -/
import Derived.Test.YteannfenkmejjaaRows
import Derived.Test.YteannfenkmejjaaBox
import Derived.Test.YteannfenkmejjaaExec
import Derived.StillTailTactics
namespace Go.Proofs.Yteannfenkmejjaa
open Go.RowKit

/-! ### nothing that was there has turned but the block q -/
structure Tur (q : Nat) (w w' : World) : Prop where
  os : w'.os = w.os
  tape : w'.tape = w.tape
  output : w'.output = w.output
  size : w.heap.size ≤ w'.heap.size
  block : ∀ k, k < w.heap.size → k ≠ q → w'.heap[k]? = w.heap[k]?
section
variable {w w' w0 : World} {q n : Nat}
theorem Tur.of_below (h : Below w.heap.size w w') : Tur q w w' := ⟨h.os, h.tape, h.output, h.size, fun k hk _ => h.block k hk⟩
theorem Tur.refl (w : World) : Tur q w w := ⟨rfl, rfl, rfl, Nat.le_refl _, fun _ _ _ => rfl⟩
theorem Tur.trans {w'' : World} (h : Tur q w w') (k : Tur q w' w'') : Tur q w w'' :=
  ⟨k.os.trans h.os, k.tape.trans h.tape, k.output.trans h.output, Nat.le_trans h.size k.size, fun j hj h1 => (k.block j (Nat.lt_of_lt_of_le hj h.size) h1).trans (h.block j hj h1)⟩
theorem Tur.below (h : Tur q w w') (hb : Below n w0 w) (h1 : n ≤ q) (h3 : n ≤ w.heap.size) : Below n w0 w' :=
  ⟨h.os.trans hb.os, h.tape.trans hb.tape, h.output.trans hb.output, Nat.le_trans hb.size h.size, fun k hk => (h.block k (by omega) (by omega)).trans (hb.block k hk)⟩
theorem Tur.cell (h : Tur q w w') {b o : Nat} (hb : b < w.heap.size) (h1 : b ≠ q) : w'.cell? ⟨b, o, none⟩ = w.cell? ⟨b, o, none⟩ := World.cell?_of_block (w := w) (h.block b hb h1)
theorem Tur.drew (h : Tur q w.drew w') : Tur q w w' := ⟨h.os, h.tape, h.output, h.size, h.block⟩
theorem Tur.set (h : Tur q w w') (o : Nat) (v : Value) : Tur q w (w'.setCell ⟨q, o, none⟩ v) :=
  ⟨h.os, h.tape, h.output, by have := h.size; simpa using this, fun k hk h1 => (heap_setCell_other _ _ _ _ h1).trans (h.block k hk h1)⟩
end

theorem cell_set_ne {w : World} {q o o' : Nat} (v : Value) (h : o ≠ o') : (w.setCell ⟨q, o, none⟩ v).cell? ⟨q, o', none⟩ = w.cell? ⟨q, o', none⟩ := World.cell?_setCell_other _ _ _ _ (by intro e; injection e; omega)

/-! ### a queue -/
structure QAt {α : Type} (enc : α → Value) (w : World) (q : Nat) (t : TypeId) (f : Nat) (L : List α) : Prop where
  blk : ∃ xs : Array Value, w.heap[q]? = some (.cells xs t (0, 0)) ∧ xs.size = 66 ∧ xs[64]? = some (.int .i64 (f : Int)) ∧ xs[65]? = some (.int .i64 (L.length : Int)) ∧ ∀ i x, L[i]? = some x → xs[(f + i) % 64]? = some (enc x)
  hf : f < 64
  hl : L.length ≤ 64
section
variable {α : Type} {enc : α → Value} {w w' : World} {q f n : Nat} {t : TypeId} {L : List α}
theorem QAt.lt (h : QAt enc w q t f L) : q < w.heap.size := by
  obtain ⟨xs, hb, _⟩ := h.blk
  exact (Array.getElem?_eq_some_iff.1 hb).1
theorem QAt.keep (h : QAt enc w q t f L) (e : w'.heap[q]? = w.heap[q]?) : QAt enc w' q t f L := by
  obtain ⟨xs, hb, r⟩ := h.blk
  exact ⟨⟨xs, e.trans hb, r⟩, h.hf, h.hl⟩
theorem QAt.below (h : QAt enc w q t f L) (hb : Below n w w') (h1 : q < n) : QAt enc w' q t f L := h.keep (hb.block q h1)
theorem QAt.below' (h : QAt enc w q t f L) (hb : Below w.heap.size w w') : QAt enc w' q t f L := h.keep (hb.block q h.lt)
theorem QAt.tur {p : Nat} (h : QAt enc w q t f L) (hb : Tur p w w') (hne : q ≠ p) : QAt enc w' q t f L := h.keep (hb.block q h.lt hne)
theorem QAt.alloc (h : QAt enc w q t f L) (o : Obj) : QAt enc (w.alloc o) q t f L := h.keep (Below.heap_alloc w o q h.lt)
theorem QAt.c64 (h : QAt enc w q t f L) : w.cell? ⟨q, 64, none⟩ = some (.int .i64 (f : Int)) := by
  obtain ⟨xs, hb, _, h1, _⟩ := h.blk
  simp [World.cell?, hb, h1]
theorem QAt.c65 (h : QAt enc w q t f L) : w.cell? ⟨q, 65, none⟩ = some (.int .i64 (L.length : Int)) := by
  obtain ⟨xs, hb, _, _, h1, _⟩ := h.blk
  simp [World.cell?, hb, h1]
theorem QAt.at (h : QAt enc w q t f L) {i : Nat} {x : α} (hx : L[i]? = some x) : w.cell? ⟨q, (f + i) % 64, none⟩ = some (enc x) := by
  obtain ⟨xs, hb, _, _, _, h1⟩ := h.blk
  simp [World.cell?, hb, h1 i x hx]
theorem QAt.some_at (h : QAt enc w q t f L) {i : Nat} (hi : i < 66) : ∃ v, w.cell? ⟨q, i, none⟩ = some v := by
  obtain ⟨xs, hb, hs, _⟩ := h.blk
  exact ⟨xs[i]'(by omega), by simp [World.cell?, hb, Array.getElem?_eq_getElem (show i < xs.size by omega)]⟩
theorem QAt.fr (h : QAt enc w q t f L) (o : Nat) : w.frozen? ⟨q, o, none⟩ = false := by
  obtain ⟨xs, hb, _⟩ := h.blk
  simp [World.frozen?, hb]

theorem QAt.set (h : QAt enc w q t f L) {i : Nat} (hi : i < L.length) (x : α) : QAt enc (w.setCell ⟨q, (f + i) % 64, none⟩ (enc x)) q t f (L.set i x) := by
  obtain ⟨xs, hb, hs, h1, h2, h3⟩ := h.blk
  have hf := h.hf; have hl := h.hl
  refine ⟨⟨_, heap_setCell_same w q _ _ _ _ hb, by simp [hs], ?_, ?_, ?_⟩, hf, by simpa using hl⟩
  · rw [Array.getElem?_setIfInBounds_ne (by omega)]; exact h1
  · rw [Array.getElem?_setIfInBounds_ne (by omega)]; simpa using h2
  · intro j y hy
    by_cases e : i = j
    · subst e
      rw [List.getElem?_set_self hi] at hy
      cases hy
      rw [Array.getElem?_setIfInBounds_self_of_lt (by omega)]
    · rw [List.getElem?_set_ne e] at hy
      have hj : j < L.length := (List.getElem?_eq_some_iff.1 hy).1
      rw [Array.getElem?_setIfInBounds_ne (by omega)]
      exact h3 j y hy
theorem QAt.push (h : QAt enc w q t f L) (hi : L.length < 64) (x : α) : QAt enc ((w.setCell ⟨q, (f + L.length) % 64, none⟩ (enc x)).setCell ⟨q, 65, none⟩ (.int .i64 ((L.length : Int) + 1))) q t f (L ++ [x]) := by
  obtain ⟨xs, hb, hs, h1, h2, h3⟩ := h.blk
  have hf := h.hf; have hl := h.hl
  refine ⟨⟨_, heap_setCell_same _ q _ _ _ _ (heap_setCell_same w q _ _ _ _ hb), by simp [hs], ?_, ?_, ?_⟩, hf, by simp; omega⟩
  · rw [Array.getElem?_setIfInBounds_ne (by omega), Array.getElem?_setIfInBounds_ne (by omega)]; exact h1
  · rw [Array.getElem?_setIfInBounds_self_of_lt (by simp; omega)]; simp
  · intro j y hy
    rw [Array.getElem?_setIfInBounds_ne (by omega)]
    by_cases e : j = L.length
    · subst e
      rw [Array.getElem?_setIfInBounds_self_of_lt (by omega)]
      simp at hy
      rw [hy]
    · have hj : j < L.length := by have := (List.getElem?_eq_some_iff.1 hy).1; simp at this; omega
      rw [Array.getElem?_setIfInBounds_ne (by omega)]
      rw [List.getElem?_append_left hj] at hy
      exact h3 j y hy
theorem QAt.shift {x : α} (h : QAt enc w q t f (x :: L)) : QAt enc ((w.setCell ⟨q, 64, none⟩ (.int .i64 (((f + 1) % 64 : Nat) : Int))).setCell ⟨q, 65, none⟩ (.int .i64 (L.length : Int))) q t ((f + 1) % 64) L := by
  obtain ⟨xs, hb, hs, h1, h2, h3⟩ := h.blk
  have hf := h.hf; have hl := h.hl
  simp at hl
  refine ⟨⟨_, heap_setCell_same _ q _ _ _ _ (heap_setCell_same w q _ _ _ _ hb), by simp [hs], ?_, ?_, ?_⟩, by omega, by omega⟩
  · rw [Array.getElem?_setIfInBounds_ne (by omega), Array.getElem?_setIfInBounds_self_of_lt (by omega)]
  · rw [Array.getElem?_setIfInBounds_self_of_lt (by simp; omega)]
  · intro j y hy
    have hj : j < L.length := (List.getElem?_eq_some_iff.1 hy).1
    rw [Array.getElem?_setIfInBounds_ne (by omega), Array.getElem?_setIfInBounds_ne (by omega)]
    have := h3 (j + 1) y (by simpa using hy)
    rw [show ((f + 1) % 64 + j) % 64 = (f + (j + 1)) % 64 by omega]
    exact this

/-! ### taken out of the middle: those ahead of it moved by one -/
/-- M is L, of which the things from k + 1 to idx have been moved up by one. -/
def Mid (L : List α) (idx k : Nat) (M : List α) : Prop := M.length = L.length ∧ ∀ j, j < L.length → M[j]? = if j ≤ k ∨ idx < j then L[j]? else L[j - 1]?
theorem Mid.start (L : List α) (idx : Nat) : Mid L idx idx L := ⟨rfl, fun j _ => by rw [if_pos (by omega)]⟩
theorem Mid.step {M : List α} {idx k : Nat} (h : Mid L idx (k + 1) M) (hk : k + 1 ≤ idx) {x : α} (hi : k + 1 < L.length) (hx : M[k]? = some x) : Mid L idx k (M.set (k + 1) x) := by
  refine ⟨by simpa using h.1, fun j hj => ?_⟩
  have hlen := h.1
  by_cases e : k + 1 = j
  · subst e
    rw [List.getElem?_set_self (by omega), if_neg (by omega)]
    have := h.2 k (by omega)
    rw [if_pos (by omega)] at this
    rw [← hx, this]
    rfl
  · rw [List.getElem?_set_ne e, h.2 j hj]
    by_cases c : j ≤ k ∨ idx < j
    · rw [if_pos c, if_pos (by omega)]
    · rw [if_neg c, if_neg (by omega)]
theorem Mid.done {M : List α} {idx : Nat} (h : Mid L idx 0 M) (hi : idx < L.length) : ∃ x, M = x :: L.eraseIdx idx := by
  have hlen := h.1
  match M, h with
  | [], h => simp at hlen; omega
  | x :: M, h =>
    refine ⟨x, congrArg _ (List.ext_getElem? fun j => ?_)⟩
    simp at hlen
    by_cases hj : j + 1 < L.length
    · have := h.2 (j + 1) hj
      simp only [List.getElem?_cons_succ] at this
      rw [this, List.getElem?_eraseIdx]
      by_cases c : j < idx
      · rw [if_neg (by omega), if_pos c]; rfl
      · rw [if_pos (by omega), if_neg c]
    · rw [List.getElem?_eq_none (by omega), List.getElem?_eq_none (by rw [List.length_eraseIdx_of_lt hi]; omega)]
end

instance lawful7 : LawfulBEq ByteArray where
  rfl {a} := by show (a.data == a.data) = true; simp
  eq_of_beq {a b} h := ByteArray.ext (by have : (a.data == b.data) = true := h; simpa using this)

/-- how many things stand ahead of the array's end; how many behind its beginning. -/
def len1 (f n : Nat) : Nat := min (f + n) 64 - f
def len2 (f n : Nat) : Nat := f + n - min (f + n) 64

/-! ### looked for -/
section
variable {α : Type} [BEq α] [LawfulBEq α]
/-- the index of the first thing that is equal, or 0. -/
def idxQ (L : List α) (x : α) : Nat := (L.idxOf? x).getD 0
theorem find_no {L : List α} {x : α} (h : ∀ j, (hj : j < L.length) → (x == L[j]) = false) : idxQ L x = 0 ∧ L.contains x = false := by
  have hn : ¬ x ∈ L := by
    intro c
    obtain ⟨j, hj, e⟩ := List.getElem_of_mem c
    have := h j hj
    rw [e] at this
    simp at this
  refine ⟨?_, by simpa using hn⟩
  unfold idxQ
  rw [List.idxOf?_eq_none_iff.2 hn]
  rfl
theorem find_yes {L : List α} {x : α} {k : Nat} (hk : k < L.length) (he : (x == L[k]) = true) (h : ∀ j, (hj : j < k) → (x == L[j]) = false) : idxQ L x = k ∧ L.contains x = true := by
  have he' : x = L[k] := by simpa using he
  refine ⟨?_, by rw [he']; simp⟩
  unfold idxQ
  rw [List.idxOf?_eq_some_iff.2 ⟨hk, he'.symm, fun j hj c => by have := h j hj; rw [c] at this; simp at this⟩]
  rfl
theorem erase_found {L : List α} {x : α} (h : L.contains x = true) : ∃ k, k < L.length ∧ L[k]? = some x ∧ idxQ L x = k ∧ L.erase x = L.eraseIdx k := by
  have hm : x ∈ L := by simpa using h
  unfold idxQ
  rw [List.erase_eq_eraseIdx]
  cases e : List.idxOf? x L with
  | none => exact absurd hm (List.idxOf?_eq_none_iff.1 e)
  | some k =>
    obtain ⟨hk, e2, _⟩ := List.idxOf?_eq_some_iff.1 e
    exact ⟨k, hk, by rw [List.getElem?_eq_getElem hk, e2], rfl, rfl⟩
end

/-! ### what the calls come to -/
section
variable {α : Type} [BEq α]
def pushL (L : List α) (x : α) : List α := if L.length < 64 then L ++ [x] else L
def pushE (L : List α) : Int := if L.length < 64 then 0 else 71
def popE (L : List α) : Int := if L.length = 0 then 70 else 0
def dropE (L : List α) (x : α) : Int := if L.contains x then 0 else 70
end
end Go.Proofs.Yteannfenkmejjaa
