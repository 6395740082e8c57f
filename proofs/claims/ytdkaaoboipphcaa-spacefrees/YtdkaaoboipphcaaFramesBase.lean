/- A memory of frames, as it lies in the world: plain facts, no walk. -/
import Derived.WalkKit
import Derived.WalkSpells
import Derived.Deep.MidRow
import Derived.Lib.Hide
namespace Go.Proofs.Ytdkaaoboipphcaa
open Go.RowKit

/-- a byte as it lies in a cell. -/
def bv (x : UInt8) : Value := .int .u8 (x.toNat : Int)

/-- The block p holds a Mem of n frames that lie in block g: frame k has R k references and the bytes B k. -/
structure MemAt (w : World) (p g n : Nat) (R : Nat → Int) (B : Nat → List UInt8) : Prop where
  hp : w.heap[p]? = some (.cells #[.slice (some ⟨g, 0, none⟩) n n] 44 (0, 0))
  hg : ∃ C : Array Value, w.heap[g]? = some (.cells C 54 (0, 0)) ∧ C.size = 65 * n ∧
    (∀ k, k < n → C[k * 65]? = some (.int .i64 (R k))) ∧ (∀ k, k < n → ∀ j, j < 64 → C[k * 65 + 1 + j]? = some (bv ((B k)[j]?.getD 0)))
  hR : ∀ k, k < n → 0 ≤ R k ∧ R k ≤ 1000
  hB : ∀ k, k < n → (B k).length = 64
  hn : n ≤ 256
  h1 : 1 ≤ n

section
variable {w w' : World} {p g n : Nat} {R : Nat → Int} {B : Nat → List UInt8}

theorem MemAt.p_lt (h : MemAt w p g n R B) : p < w.heap.size := (Array.getElem?_eq_some_iff.1 h.hp).1
theorem MemAt.g_lt (h : MemAt w p g n R B) : g < w.heap.size := by obtain ⟨C, hC, _⟩ := h.hg; exact (Array.getElem?_eq_some_iff.1 hC).1
theorem MemAt.p_ne (h : MemAt w p g n R B) : p ≠ g := by
  rintro rfl
  obtain ⟨C, hC, hs, _⟩ := h.hg
  rw [h.hp] at hC
  simp only [Option.some.injEq, Obj.cells.injEq] at hC
  have := hC.1
  subst this
  simp at hs
  omega

theorem MemAt.cellP (h : MemAt w p g n R B) : w.cell? ⟨p, 0, none⟩ = some (.slice (some ⟨g, 0, none⟩) n n) := by
  simp [World.cell?, h.hp]
theorem MemAt.cellR (h : MemAt w p g n R B) {k : Nat} (hk : k < n) : w.cell? ⟨g, k * 65, none⟩ = some (.int .i64 (R k)) := by
  obtain ⟨C, hC, _, hr, _⟩ := h.hg
  simp [World.cell?, hC, hr k hk]
theorem MemAt.frozen (h : MemAt w p g n R B) (o : Nat) : w.frozen? ⟨g, o, none⟩ = false := by
  obtain ⟨C, hC, _⟩ := h.hg
  simp [World.frozen?, hC]
theorem MemAt.range (h : MemAt w p g n R B) {k : Nat} (hk : k < n) : w.rangeAt g (k * 65 + 1) ((B k).map bv) := fun j v hv => by
  obtain ⟨C, hC, _, _, hb⟩ := h.hg
  have hj : j < (B k).length := by have := (List.getElem?_eq_some_iff.1 hv).1; simpa using this
  have h64 := h.hB k hk
  simp only [World.cell?, hC]
  rw [← hv, List.getElem?_map]
  simp only [Option.isSome_none, Bool.false_eq_true, if_false]
  rw [hb k hk j (by omega)]
  simp [hj]
theorem MemAt.there (h : MemAt w p g n R B) {o m : Nat} (hm : o + m ≤ 65 * n) : w.there g o m := fun j hj => by
  obtain ⟨C, hC, hs, _⟩ := h.hg
  refine ⟨?_, h.frozen _⟩
  simp only [World.cell?, hC]
  have : o + j < C.size := by omega
  simp [this]

/-- It lies as it lay where its two blocks do. -/
theorem MemAt.keep (h : MemAt w p g n R B) (h1 : w'.heap[p]? = w.heap[p]?) (h2 : w'.heap[g]? = w.heap[g]?) : MemAt w' p g n R B :=
  ⟨h1.trans h.hp, by rw [h2]; exact h.hg, h.hR, h.hB, h.hn, h.h1⟩
theorem MemAt.grown (h : MemAt w p g n R B) (hg : w.grownBy w' none) : MemAt w' p g n R B :=
  h.keep (hg.block p h.p_lt (by simp)) (hg.block g h.g_lt (by simp))
theorem MemAt.grownOther (h : MemAt w p g n R B) {r : Option Nat} (hg : w.grownBy w' r) (e1 : some p ≠ r) (e2 : some g ≠ r) : MemAt w' p g n R B :=
  h.keep (hg.block p h.p_lt e1) (hg.block g h.g_lt e2)
theorem MemAt.below (h : MemAt w p g n R B) (hb : Below w.heap.size w w') : MemAt w' p g n R B :=
  h.keep (hb.block p h.p_lt) (hb.block g h.g_lt)
theorem MemAt.alloc (h : MemAt w p g n R B) (o : Obj) : MemAt (w.alloc o) p g n R B :=
  h.grown (World.grownBy_alloc w o none)

/-- The references of frame k turn. -/
def updR (R : Nat → Int) (k : Nat) (r : Int) : Nat → Int := fun i => if i = k then r else R i
def updB (B : Nat → List UInt8) (k : Nat) (b : List UInt8) : Nat → List UInt8 := fun i => if i = k then b else B i
@[simp] theorem updR_same (R : Nat → Int) (k : Nat) (r : Int) : updR R k r k = r := by simp [updR]
theorem updR_other (R : Nat → Int) {k i : Nat} (r : Int) (h : i ≠ k) : updR R k r i = R i := by simp [updR, h]
@[simp] theorem updB_same (B : Nat → List UInt8) (k : Nat) (b : List UInt8) : updB B k b k = b := by simp [updB]
theorem updB_other (B : Nat → List UInt8) {k i : Nat} (b : List UInt8) (h : i ≠ k) : updB B k b i = B i := by simp [updB, h]

theorem MemAt.setR (h : MemAt w p g n R B) {k : Nat} (hk : k < n) {r : Int} (h0 : 0 ≤ r) (hr : r ≤ 1000) :
    MemAt (w.setCell ⟨g, k * 65, none⟩ (.int .i64 r)) p g n (updR R k r) B := by
  have hne := h.p_ne
  obtain ⟨C, hC, hs, hr1, hb1⟩ := h.hg
  refine ⟨by rw [heap_setCell_other _ _ _ _ hne]; exact h.hp, ⟨C.setIfInBounds (k * 65) (.int .i64 r), heap_setCell_same _ _ _ _ _ _ hC, by simpa using hs, ?_, ?_⟩, ?_, h.hB, h.hn, h.h1⟩
  · intro i hi
    rw [Array.getElem?_setIfInBounds]
    by_cases e : i = k
    · subst e
      have : i * 65 < C.size := by omega
      simp [this]
    · rw [if_neg (by omega), updR_other _ _ e]; exact hr1 i hi
  · intro i hi j hj
    rw [Array.getElem?_setIfInBounds, if_neg (by omega)]
    exact hb1 i hi j hj
  · intro i hi
    by_cases e : i = k
    · subst e; simp [h0, hr]
    · rw [updR_other _ _ e]; exact h.hR i hi

theorem grown_setCell (w : World) (g o : Nat) (v : Value) : w.grownBy (w.setCell ⟨g, o, none⟩ v) (some g) :=
  ⟨rfl, rfl, rfl, by simp [World.setCell], fun k _ hne => Below.heap_setCell _ _ _ _ (fun e => hne (by rw [e]))⟩

theorem grown_trans {w1 w2 w3 : World} {r : Option Nat} (h : w1.grownBy w2 r) (k : w2.grownBy w3 r) : w1.grownBy w3 r :=
  ⟨k.os.trans h.os, k.tape.trans h.tape, k.output.trans h.output, Nat.le_trans h.size k.size, fun i hi hne => (k.block i (Nat.lt_of_lt_of_le hi h.size) hne).trans (h.block i hi hne)⟩
theorem grown_refl (w : World) (r : Option Nat) : w.grownBy w r := ⟨rfl, rfl, rfl, Nat.le_refl _, fun _ _ _ => rfl⟩
theorem grown_weak {w1 w2 : World} (r : Option Nat) (h : w1.grownBy w2 none) : w1.grownBy w2 r :=
  ⟨h.os, h.tape, h.output, h.size, fun i hi _ => h.block i hi (by simp)⟩
theorem grown_of_below {w1 w2 : World} (h : Below w1.heap.size w1 w2) (r : Option Nat) : w1.grownBy w2 r :=
  ⟨h.os, h.tape, h.output, h.size, fun i hi _ => h.block i hi⟩
theorem below_of_grown {w1 w2 : World} {b : Nat} {r : Option Nat} (h : w1.grownBy w2 r) (hb : b ≤ w1.heap.size) (hr : ∀ k, r = some k → b ≤ k) : Below b w1 w2 :=
  (Below.refl b w1).grown h hb hr

/-- many cells of one block. -/
theorem heap_setCells (g : Nat) (t : TypeId) : ∀ (vs : List Value) (o : Nat) (w : World) (C : Array Value), w.heap[g]? = some (.cells C t (0, 0)) →
    ∃ C', (w.setCells g o vs).heap[g]? = some (.cells C' t (0, 0)) ∧ C'.size = C.size ∧ ∀ i, C'[i]? = if o ≤ i ∧ i < o + vs.length ∧ i < C.size then vs[i - o]? else C[i]?
  | [], o, w, C, h => ⟨C, h, rfl, fun i => by simp only [List.length_nil, Nat.add_zero]; rw [if_neg (by omega)]⟩
  | v :: r, o, w, C, h => by
    obtain ⟨C', h1, h2, h3⟩ := heap_setCells g t r (o + 1) _ _ (heap_setCell_same w g o C t v h)
    refine ⟨C', h1, by simpa using h2, fun i => ?_⟩
    rw [h3 i]
    simp only [Array.size_setIfInBounds, Array.getElem?_setIfInBounds, List.length_cons]
    by_cases c1 : o + 1 ≤ i ∧ i < o + 1 + r.length ∧ i < C.size
    · rw [if_pos c1, if_pos (by omega), show i - o = (i - (o + 1)) + 1 from by omega, List.getElem?_cons_succ]
    · rw [if_neg c1]
      by_cases c2 : o = i
      · subst c2
        by_cases c3 : o < C.size
        · simp [c3]
        · simp [c3]
      · rw [if_neg c2]
        rw [if_neg (by omega)]

theorem heap_setCells_other' (g : Nat) : ∀ (vs : List Value) (o : Nat) (w : World) (k : Nat), k ≠ g → (w.setCells g o vs).heap[k]? = w.heap[k]?
  | [], _, _, _, _ => rfl
  | v :: r, o, w, k, hk => by
    rw [World.setCells, heap_setCells_other' g r (o + 1) _ k hk]
    exact heap_setCell_other _ _ _ _ hk

theorem grown_setCells (w : World) (g : Nat) : ∀ (vs : List Value) (o : Nat), w.grownBy (w.setCells g o vs) (some g)
  | [], _ => grown_refl _ _
  | v :: r, o => by
    rw [World.setCells]
    exact grown_trans (grown_setCell w g o v) (grown_setCells _ g r (o + 1))

/-- the bytes of frame k, from place 'at' on, turn. -/
def putBytes (l : List UInt8) (o : Nat) (s : List UInt8) : List UInt8 := l.take o ++ s ++ l.drop (o + s.length)
theorem putBytes_length (l : List UInt8) (o : Nat) (s : List UInt8) (h : o + s.length ≤ l.length) : (putBytes l o s).length = l.length := by
  simp [putBytes]; omega
theorem putBytes_get (l : List UInt8) (o : Nat) (s : List UInt8) (h : o + s.length ≤ l.length) (i : Nat) :
    (putBytes l o s)[i]? = if o ≤ i ∧ i < o + s.length then s[i - o]? else l[i]? := by
  have h1 : (l.take o).length = o := by simp; omega
  unfold putBytes
  by_cases c1 : i < o
  · rw [List.append_assoc, List.getElem?_append_left (by omega), if_neg (by omega), List.getElem?_take_of_lt c1]
  · by_cases c2 : i < o + s.length
    · rw [List.getElem?_append_left (by simp; omega), List.getElem?_append_right (by omega), h1, if_pos (by omega)]
    · rw [List.getElem?_append_right (by simp; omega), if_neg (by omega), List.getElem?_drop]
      congr 1
      simp
      omega

theorem MemAt.setB (h : MemAt w p g n R B) {k : Nat} (hk : k < n) {o : Nat} {s : List UInt8} (ho : o + s.length ≤ 64) :
    MemAt (w.setCells g (k * 65 + 1 + o) (s.map bv)) p g n R (updB B k (putBytes (B k) o s)) := by
  have hne := h.p_ne
  have h64 := h.hB k hk
  obtain ⟨C, hC, hs, hr1, hb1⟩ := h.hg
  obtain ⟨C', e1, e2, e3⟩ := heap_setCells g _ (s.map bv) (k * 65 + 1 + o) w C hC
  refine ⟨by rw [heap_setCells_other' g _ _ _ _ hne]; exact h.hp, ⟨C', e1, by omega, ?_, ?_⟩, h.hR, ?_, h.hn, h.h1⟩
  · intro i hi
    rw [e3, if_neg (by simp only [List.length_map]; omega)]
    exact hr1 i hi
  · intro i hi j hj
    rw [e3]
    simp only [List.length_map]
    by_cases e : i = k
    · subst e
      rw [updB_same, putBytes_get _ _ _ (by omega)]
      by_cases c : o ≤ j ∧ j < o + s.length
      · rw [if_pos (by omega), if_pos c, List.getElem?_map, show i * 65 + 1 + j - (i * 65 + 1 + o) = j - o from by omega]
        have : j - o < s.length := by omega
        simp [this]
      · rw [if_neg (by omega), if_neg c]
        exact hb1 i hi j hj
    · rw [if_neg (by omega), updB_other _ _ e]
      exact hb1 i hi j hj
  · intro i hi
    by_cases e : i = k
    · subst e; rw [updB_same, putBytes_length _ _ _ (by omega)]; exact h64
    · rw [updB_other _ _ e]; exact h.hB i hi

end
end Go.Proofs.Ytdkaaoboipphcaa
