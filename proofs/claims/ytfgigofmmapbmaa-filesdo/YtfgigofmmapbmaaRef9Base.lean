/- The document's own descriptors of layer 9 (taffrailref09): a struct of a list of rows of five numbers and a number, in memory. -/
import Derived.Test.YtfgigofmmapbmaaRows
import Derived.Test.YtfgigofmmapbmaaBox
import Derived.Maps.AppendAt
import Derived.Deep.AppendLies
namespace Go.Proofs.Ytfgigofmmapbmaa
open Go.RowKit

/-- a descriptor: whose, which, of which open file, of what. -/
structure FV where
  pid : Int
  fd : Int
  file : Int
  kind : Int
  thing : Int
deriving DecidableEq
def FV.cells (x : FV) : Array Value := #[.int .i64 x.pid, .int .i64 x.fd, .int .i64 x.file, .int .i64 x.kind, .int .i64 x.thing]
def FV.zero : FV := ⟨0, 0, 0, 0, 0⟩
def FV.is (p d : Int) (x : FV) : Bool := x.pid == p && x.fd == d

/-- the cells of rows, one behind the other. -/
def flat9 : List FV → List Value
  | [] => []
  | q :: L => q.cells.toList ++ flat9 L
theorem flat9_append : ∀ (A B : List FV), flat9 (A ++ B) = flat9 A ++ flat9 B
  | [], _ => rfl
  | q :: A, B => by simp [flat9, flat9_append A B]
theorem flat9_one (q : FV) : flat9 [q] = q.cells.toList := by simp [flat9]
theorem cells5 (q : FV) : q.cells.toList.length = 5 := rfl
theorem flat9_len : ∀ A : List FV, (flat9 A).length = A.length * 5
  | [] => rfl
  | q :: A => by simp only [flat9, List.length_append, flat9_len A, cells5, List.length_cons]; omega
theorem flat9_at {q : FV} {f : Nat} (hf : f < 5) : ∀ (A : List FV) (k : Nat), A[k]? = some q → (flat9 A)[k * 5 + f]? = q.cells.toList[f]?
  | [], k, h => by simp at h
  | x :: A, 0, h => by
    simp at h; subst h
    simp only [flat9, Nat.zero_mul, Nat.zero_add]
    rw [List.getElem?_append_left (by rw [cells5]; omega)]
  | x :: A, k + 1, h => by
    simp at h
    simp only [flat9]
    rw [List.getElem?_append_right (by rw [cells5]; omega), cells5, ← flat9_at hf A k h]
    congr 1
    omega
theorem flat9_cells : ∀ (A : List FV), ∀ u ∈ flat9 A, u.oneCell' = true
  | [], u, h => by simp [flat9] at h
  | q :: A, u, h => by
    simp only [flat9, List.mem_append] at h
    rcases h with h | h
    · simp [FV.cells] at h
      rcases h with rfl | rfl | rfl | rfl | rfl <;> rfl
    · exact flat9_cells A u h
theorem take_snoc9 {A : List FV} {i : Nat} {q : FV} (h : A[i]? = some q) : A.take (i + 1) = A.take i ++ [q] := by
  obtain ⟨hl, rfl⟩ := List.getElem?_eq_some_iff.1 h
  exact List.take_succ_eq_append_getElem hl
theorem add_zero9 (r n : Nat) : (⟨r, 0, none⟩ : Addr).add n = ⟨r, n, none⟩ := by
  unfold Addr.add
  split <;> simp_all
theorem add_off9 (r o n : Nat) : (⟨r, o, none⟩ : Addr).add n = ⟨r, o + n, none⟩ := by
  unfold Addr.add
  split <;> simp_all

/-- a list of rows lies in memory, at base or behind it. -/
def FsAt (w : World) (base : Nat) (v : Value) (A : List FV) : Prop := w.ownsRow base 67 5 v A.length (flat9 A)
section
variable {w w' : World} {base : Nat} {v : Value} {A : List FV}
theorem FsAt.nil (w : World) (base : Nat) : FsAt w base (.slice none 0 0) [] := World.ownsRow_nil _ _ _ _
theorem FsAt.lt (h : FsAt w base v A) : ∀ k, v.ownBlock = some k → base ≤ k ∧ k < w.heap.size := World.ownsRow.lt h
theorem FsAt.keep (h : FsAt w base v A) (e : ∀ k, v.ownBlock = some k → w'.heap[k]? = w.heap[k]?) : FsAt w' base v A := by
  refine ⟨h.1, ?_⟩
  rcases h.2 with hn | ⟨g, cap, cur, rfl, hb, hgg, rest⟩
  · exact .inl hn
  · exact .inr ⟨g, cap, cur, rfl, hb, (e g rfl).trans hgg, rest⟩
theorem FsAt.low {b : Nat} (h : FsAt w base v A) (hb : b ≤ base) : FsAt w b v A := by
  refine ⟨h.1, ?_⟩
  rcases h.2 with hn | ⟨g, cap, cur, rfl, hb', hgg, rest⟩
  · exact .inl hn
  · exact .inr ⟨g, cap, cur, rfl, Nat.le_trans hb hb', hgg, rest⟩
theorem FsAt.below (h : FsAt w base v A) (hb : Below w.heap.size w w') : FsAt w' base v A := h.keep (fun k e => hb.block k (h.lt k e).2)
theorem FsAt.open (h : FsAt w base v A) : ∃ a cap, v = .slice a A.length cap ∧ A.length ≤ cap ∧ (0 < A.length → ∃ r, a = some ⟨r, 0, none⟩) := by
  rcases h.2 with ⟨rfl, hn⟩ | ⟨g, cap, cur, rfl, hb, hgg, h1, _⟩
  · exact ⟨none, 0, by rw [hn], by omega, by omega⟩
  · exact ⟨_, cap, rfl, h1, fun _ => ⟨g, rfl⟩⟩
theorem FsAt.cell {r n cap : Nat} (h : FsAt w base (.slice (some ⟨r, 0, none⟩) n cap) A) {k : Nat} {q : FV} (hq : A[k]? = some q) (f : Nat) {u : Value} (hu : q.cells.toList[f]? = some u) : w.cell? ⟨r, k * 5 + f, none⟩ = some u := by
  have hf : f < 5 := by have := (List.getElem?_eq_some_iff.1 hu).1; rw [cells5] at this; exact this
  have := World.ownsRow.cells h rfl (k * 5 + f) u ((flat9_at hf A k hq).trans hu)
  rw [add_zero9] at this
  exact this
theorem FsAt.fr {r n cap : Nat} (h : FsAt w base (.slice (some ⟨r, 0, none⟩) n cap) A) (o : Nat) : w.frozen? ⟨r, o, none⟩ = false := by
  rcases h.2 with ⟨h1, _⟩ | ⟨g, cap', cur, e, hb, hgg, _⟩
  · cases h1
  · cases e; simp [World.frozen?, hgg]
/-- the cells of the first j. -/
theorem FsAt.news0 {r n cap : Nat} (h : FsAt w base (.slice (some ⟨r, 0, none⟩) n cap) A) (j : Nat) : ∀ i u, (flat9 (A.take j))[i]? = some u → w.cell? ((⟨r, 0, none⟩ : Addr).add i) = some u := by
  intro i u hu
  have e : flat9 A = flat9 (A.take j) ++ flat9 (A.drop j) := by rw [← flat9_append, List.take_append_drop]
  refine World.ownsRow.cells h rfl i u ?_
  rw [e, List.getElem?_append_left (List.getElem?_eq_some_iff.1 hu).1]
  exact hu
/-- the cells of those behind the first j. -/
theorem FsAt.news1 {r n cap : Nat} (h : FsAt w base (.slice (some ⟨r, 0, none⟩) n cap) A) {j : Nat} (hj : j ≤ A.length) : ∀ i u, (flat9 (A.drop j))[i]? = some u → w.cell? ((⟨r, j * 5, none⟩ : Addr).add i) = some u := by
  intro i u hu
  have e : flat9 A = flat9 (A.take j) ++ flat9 (A.drop j) := by rw [← flat9_append, List.take_append_drop]
  have hl : (flat9 (A.take j)).length = j * 5 := by rw [flat9_len]; simp; omega
  have := World.ownsRow.cells h rfl (j * 5 + i) u (by rw [e, List.getElem?_append_right (by omega), hl]; simpa using hu)
  rw [add_zero9] at this
  rw [add_off9]
  exact this
end

/-! ### all of it in memory -/
structure R9 (w : World) (base q : Nat) (v : Value) (L : List FV) (g : Int) : Prop where
  box : BoxA w q 29 #[v, .int .i64 g]
  row : FsAt w base v L
  bq : base ≤ q
/-- what a call leaves as it was: all but the struct and its list; a list that is not where it was is new. -/
structure Mv9 (q : Nat) (v v' : Value) (w w' : World) : Prop where
  os : w'.os = w.os
  tape : w'.tape = w.tape
  output : w'.output = w.output
  size : w.heap.size ≤ w'.heap.size
  block : ∀ k, k < w.heap.size → k ≠ q → v.ownBlock ≠ some k → w'.heap[k]? = w.heap[k]?
  row : ∀ k, v'.ownBlock = some k → v.ownBlock = some k ∨ w.heap.size ≤ k
section
variable {w w' w'' : World} {base q : Nat} {v v' v'' : Value} {L L' : List FV} {g g' : Int}
theorem R9.ne (h : R9 w base q v L g) : v.ownBlock ≠ some q := by
  intro e
  rcases h.row.2 with ⟨rfl, _⟩ | ⟨k, cap, cur, rfl, hb, hgg, _⟩
  · cases e
  · have h2 := h.box.blk
    simp [Value.ownBlock] at e
    subst e
    rw [hgg] at h2
    cases h2
theorem R9.lt (h : R9 w base q v L g) : q < w.heap.size := h.box.lt
theorem R9.c0 (h : R9 w base q v L g) : w.cell? ⟨q, 0, none⟩ = some v := h.box.at 0 rfl
theorem R9.c1 (h : R9 w base q v L g) : w.cell? ⟨q, 1, none⟩ = some (.int .i64 g) := h.box.at 1 rfl
theorem R9.f (h : R9 w base q v L g) (o : Nat) : w.frozen? ⟨q, o, none⟩ = false := h.box.f o
theorem R9.keep (h : R9 w base q v L g) (e1 : w'.heap[q]? = w.heap[q]?) (e2 : ∀ k, v.ownBlock = some k → w'.heap[k]? = w.heap[k]?) : R9 w' base q v L g := ⟨h.box.keep e1, h.row.keep e2, h.bq⟩
theorem R9.below (h : R9 w base q v L g) (hb : Below w.heap.size w w') : R9 w' base q v L g := h.keep (hb.block q h.lt) (fun k e => hb.block k (h.row.lt k e).2)
theorem R9.heap (h : R9 w base q v L g) (e : w'.heap = w.heap) : R9 w' base q v L g := h.keep (by rw [e]) (fun k _ => by rw [e])
theorem R9.setG (h : R9 w base q v L g) (g' : Int) : R9 (w.setCell ⟨q, 1, none⟩ (.int .i64 g')) base q v L g' :=
  ⟨h.box.set 1 _, h.row.keep (fun k e => heap_setCell_other _ _ _ _ (fun c => h.ne (by rw [e, c]))), h.bq⟩
/-- another list stored. -/
theorem R9.put (h : R9 w base q v L g) (hq : w'.heap[q]? = w.heap[q]?) (hr : FsAt w' base v' L') (hn : v'.ownBlock ≠ some q) : R9 (w'.setCell ⟨q, 0, none⟩ v') base q v' L' g :=
  ⟨(h.box.keep hq).set 0 _, hr.keep (fun k e => heap_setCell_other _ _ _ _ (fun c => hn (by rw [e, c]))), h.bq⟩
theorem Mv9.refl (w : World) : Mv9 q v v w w := ⟨rfl, rfl, rfl, Nat.le_refl _, fun _ _ _ _ => rfl, fun _ h => .inl h⟩
theorem Mv9.of_below (h : Below w.heap.size w w') : Mv9 q v v w w' := ⟨h.os, h.tape, h.output, h.size, fun k hk _ _ => h.block k hk, fun _ h => .inl h⟩
theorem Mv9.trans (h : Mv9 q v v' w w') (k : Mv9 q v' v'' w' w'') : Mv9 q v v'' w w'' :=
  ⟨k.os.trans h.os, k.tape.trans h.tape, k.output.trans h.output, Nat.le_trans h.size k.size, fun i hi h1 h2 => (k.block i (Nat.lt_of_lt_of_le hi h.size) h1 (fun e => by rcases h.row i e with c | c; exact h2 c; omega)).trans (h.block i hi h1 h2),
    fun i e => by
      rcases k.row i e with c | c
      · exact h.row i c
      · exact .inr (Nat.le_trans h.size c)⟩
theorem Mv9.drewN {n : Nat} (h : Mv9 q v v' w w') : Mv9 q v v' w (w'.drewN n) := ⟨h.os, h.tape, h.output, h.size, h.block, h.row⟩
theorem Mv9.drew (h : Mv9 q v v' w w') : Mv9 q v v' w w'.drew := ⟨h.os, h.tape, h.output, h.size, h.block, h.row⟩
theorem Mv9.below (h : Mv9 q v v' w w') (hb : Below w.heap.size w' w'') (hs : w'.heap.size ≤ w''.heap.size) : Mv9 q v v' w w'' := ⟨hb.os.trans h.os, hb.tape.trans h.tape, hb.output.trans h.output, Nat.le_trans h.size hs, fun k hk h1 h2 => (hb.block k hk).trans (h.block k hk h1 h2), h.row⟩
theorem Mv9.alloc (h : Mv9 q v v' w w') (o : Obj) : Mv9 q v v' w (w'.alloc o) :=
  ⟨h.os, h.tape, h.output, by have := h.size; simp; omega, fun k hk h1 h2 => (Below.heap_alloc w' o k (Nat.lt_of_lt_of_le hk h.size)).trans (h.block k hk h1 h2), h.row⟩
theorem Mv9.set (h : Mv9 q v v' w w') (o : Nat) (u : Value) : Mv9 q v v' w (w'.setCell ⟨q, o, none⟩ u) :=
  ⟨h.os, h.tape, h.output, by have := h.size; simpa using this, fun k hk h1 h2 => (heap_setCell_other _ _ _ _ h1).trans (h.block k hk h1 h2), h.row⟩
theorem Mv9.setHi (h : Mv9 q v v' w w') {b : Nat} (hb : w.heap.size ≤ b) (o : Nat) (u : Value) : Mv9 q v v' w (w'.setCell ⟨b, o, none⟩ u) :=
  ⟨h.os, h.tape, h.output, by have := h.size; simpa using this, fun k hk h1 h2 => (heap_setCell_other _ _ _ _ (show k ≠ b by omega)).trans (h.block k hk h1 h2), h.row⟩
theorem Mv9.grown {row : Option Nat} (h : Mv9 q v v' w w') (hg : w'.grownBy w'' row) (hr : ∀ k, row = some k → v.ownBlock = some k ∨ w.heap.size ≤ k) (hn : ∀ k, v''.ownBlock = some k → v.ownBlock = some k ∨ w.heap.size ≤ k) : Mv9 q v v'' w w'' :=
  ⟨hg.os.trans h.os, hg.tape.trans h.tape, hg.output.trans h.output, Nat.le_trans h.size hg.size, fun k hk h1 h2 => (hg.block k (Nat.lt_of_lt_of_le hk h.size) (fun e => by
    rcases hr k e.symm with c | c
    · exact h2 c
    · omega)).trans (h.block k hk h1 h2), hn⟩
end

theorem Try.infoFd : (Try.prog.info? 67).map (fun i => (i.zero, i.size, i.bytes)) = some (some (Value.agg FV.zero.cells), 5, 40) := by kernel_rfl

theorem cell_five_new (w : World) (q : FV) (t : TypeId) : ∀ j u, q.cells.toList[j]? = some u → (w.alloc (.cells q.cells t)).cell? ((⟨w.heap.size, 0, none⟩ : Addr).add j) = some u := by
  intro j u h
  have := (BoxA.new w t q.cells).at j (v := u) (by simpa using h)
  rw [add_zero9]
  exact this
end Go.Proofs.Ytfgigofmmapbmaa
