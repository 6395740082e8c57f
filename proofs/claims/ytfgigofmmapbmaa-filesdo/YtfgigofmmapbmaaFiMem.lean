/- Package files: a Files in memory: a struct of thirty-two places and a map of rows of eight numbers; what a look-up, a store, a deletion come to; what a cell stored makes of the places. -/
import Derived.Test.YtfgigofmmapbmaaRows
import Derived.Test.YtfgigofmmapbmaaBox
import Derived.Test.YtfgigofmmapbmaaExec
import Derived.Test.YtfgigofmmapbmaaFiPlace
import Derived.Maps.OwnIn
import Derived.StillTailTactics
namespace Go.Proofs.Ytfgigofmmapbmaa
open Go.RowKit Go.MapKept

/-! ### places as cells -/
def OF.cells (x : OF) : List Value := [.int .i64 x.kind, .int .i64 x.thing, .int .i64 x.refs]
def flatF : List OF → List Value
  | [] => []
  | x :: F => .int .i64 x.kind :: .int .i64 x.thing :: .int .i64 x.refs :: flatF F
def filesV (F : List OF) (m : Option Nat) : Array Value := (flatF F ++ [Value.map m]).toArray
theorem flatF_len : ∀ F : List OF, (flatF F).length = F.length * 3
  | [] => rfl
  | x :: F => by simp only [flatF, List.length_cons, flatF_len F]; omega
theorem flatF_at : ∀ (F : List OF) (k : Nat) (x : OF), F[k]? = some x → (flatF F)[k * 3]? = some (.int .i64 x.kind) ∧ (flatF F)[k * 3 + 1]? = some (.int .i64 x.thing) ∧ (flatF F)[k * 3 + 2]? = some (.int .i64 x.refs)
  | [], k, x, h => by simp at h
  | y :: F, 0, x, h => by simp at h; subst h; exact ⟨rfl, rfl, rfl⟩
  | y :: F, k + 1, x, h => by
    simp at h
    have := flatF_at F k x h
    simp only [flatF, show (k + 1) * 3 = k * 3 + 1 + 1 + 1 by omega, show k * 3 + 1 + 1 + 1 + 1 = k * 3 + 1 + 1 + 1 + 1 from rfl, show k * 3 + 1 + 1 + 1 + 2 = k * 3 + 2 + 1 + 1 + 1 by omega, List.getElem?_cons_succ]
    exact this
theorem flatF_refs (r : Int) (T : List Value) : ∀ (F : List OF) (k : Nat), k < F.length → (flatF F ++ T).set (k * 3 + 2) (.int .i64 r) = flatF (F.modify k (fun x => { x with refs := r })) ++ T
  | [], k, h => by simp at h
  | y :: F, 0, h => rfl
  | y :: F, k + 1, h => by
    have := flatF_refs r T F k (by simpa using h)
    simp only [flatF, List.modify_succ_cons, show (k + 1) * 3 + 2 = k * 3 + 2 + 1 + 1 + 1 by omega, List.cons_append, List.set_cons_succ, this]
theorem flatF_two (a b : Int) (T : List Value) : ∀ (F : List OF) (k : Nat), k < F.length → ((flatF F ++ T).set (k * 3) (.int .i64 a)).set (k * 3 + 1) (.int .i64 b) = flatF (F.modify k (fun x => { x with kind := a, thing := b })) ++ T
  | [], k, h => by simp at h
  | y :: F, 0, h => rfl
  | y :: F, k + 1, h => by
    have := flatF_two a b T F k (by simpa using h)
    simp only [flatF, List.modify_succ_cons, show (k + 1) * 3 = k * 3 + 1 + 1 + 1 by omega, List.cons_append, List.set_cons_succ, this]
theorem flatF_all (a b c : Int) (T : List Value) : ∀ (F : List OF) (k : Nat), k < F.length → (((flatF F ++ T).set (k * 3) (.int .i64 a)).set (k * 3 + 1) (.int .i64 b)).set (k * 3 + 2) (.int .i64 c) = flatF (F.set k ⟨a, b, c⟩) ++ T
  | [], k, h => by simp at h
  | y :: F, 0, h => rfl
  | y :: F, k + 1, h => by
    have := flatF_all a b c T F k (by simpa using h)
    simp only [flatF, show (k + 1) * 3 = k * 3 + 1 + 1 + 1 by omega, List.cons_append, List.set_cons_succ, this]
theorem flatF_map (F : List OF) (m m' : Option Nat) : (flatF F ++ [Value.map m]).set (F.length * 3) (Value.map m') = flatF F ++ [Value.map m'] := by
  rw [List.set_append_right _ _ (by rw [flatF_len]; exact Nat.le_refl _), flatF_len, Nat.sub_self]
  rfl
theorem flatF_one1 : ∀ (F : List OF), ∀ v ∈ flatF F, v.oneCell' = true
  | [], v, h => by simp [flatF] at h
  | x :: F, v, h => by
    simp only [flatF, List.mem_cons] at h
    rcases h with rfl | rfl | rfl | h
    · rfl
    · rfl
    · rfl
    · exact flatF_one1 F v h
theorem flatF_one (F : List OF) (m : Option Nat) : ∀ v ∈ flatF F ++ [Value.map m], v.oneCell' = true := by
  intro v h
  rcases List.mem_append.1 h with h | h
  · exact flatF_one1 F v h
  · rw [List.mem_singleton.1 h]; rfl

/-! ### rows as values, the map -/
def rowV (h : Fds) : Value := .agg (h.map (Value.int .i64)).toArray
def EntD (es : Array MapEntry) (D : List (Int × Fds)) : Prop := es.toList.map (fun e => (e.key, e.val)) = D.map (fun q => (Value.int .i64 q.1, rowV q.2))
def DAt (w : World) (m : Option Nat) (D : List (Int × Fds)) : Prop := (m = none ∧ D = []) ∨ ∃ b es clock, m = some b ∧ w.heap[b]? = some (.map es clock) ∧ EntD es D ∧ Stamped es clock

structure FM (w : World) (p : Nat) (m : Option Nat) (F : List OF) (D : List (Int × Fds)) : Prop where
  box : BoxA w p 62 (filesV F m)
  len : F.length = 32
  mp : DAt w m D
  ok : DOk D

/-- what a call turns: the struct, its map; a map that was not there is new. -/
structure MvF (p : Nat) (m m' : Option Nat) (w w' : World) : Prop where
  os : w'.os = w.os
  tape : w'.tape = w.tape
  output : w'.output = w.output
  size : w.heap.size ≤ w'.heap.size
  block : ∀ k, k < w.heap.size → k ≠ p → m ≠ some k → w'.heap[k]? = w.heap[k]?
  row : ∀ k, m' = some k → m = some k ∨ w.heap.size ≤ k
  same : ∀ k, m = some k → m' = some k
section
variable {w w' w'' : World} {p k : Nat} {m m' m'' : Option Nat} {F : List OF} {D : List (Int × Fds)}
theorem MvF.refl (w : World) : MvF p m m w w := ⟨rfl, rfl, rfl, Nat.le_refl _, fun _ _ _ _ => rfl, fun _ h => .inl h, fun _ h => h⟩
theorem MvF.of_below (h : Below w.heap.size w w') : MvF p m m w w' := ⟨h.os, h.tape, h.output, h.size, fun k hk _ _ => h.block k hk, fun _ h => .inl h, fun _ h => h⟩
theorem MvF.trans (h : MvF p m m' w w') (k : MvF p m' m'' w' w'') : MvF p m m'' w w'' :=
  ⟨k.os.trans h.os, k.tape.trans h.tape, k.output.trans h.output, Nat.le_trans h.size k.size, fun i hi h1 h2 => (k.block i (Nat.lt_of_lt_of_le hi h.size) h1 (fun e => by rcases h.row i e with c | c; exact h2 c; omega)).trans (h.block i hi h1 h2),
    fun i e => by
      rcases k.row i e with c | c
      · exact h.row i c
      · exact .inr (Nat.le_trans h.size c), fun i e => k.same i (h.same i e)⟩
theorem MvF.drew (h : MvF p m m' w.drew w') : MvF p m m' w w' := ⟨h.os, h.tape, h.output, h.size, h.block, h.row, h.same⟩
theorem MvF.drew2 (h : MvF p m m' w w') : MvF p m m' w w'.drew := ⟨h.os, h.tape, h.output, h.size, h.block, h.row, h.same⟩
theorem MvF.alloc (h : MvF p m m' w w') (o : Obj) : MvF p m m' w (w'.alloc o) :=
  ⟨h.os, h.tape, h.output, by have := h.size; simp; omega, fun k hk h1 h2 => (Below.heap_alloc w' o k (Nat.lt_of_lt_of_le hk h.size)).trans (h.block k hk h1 h2), h.row, h.same⟩
theorem MvF.set (h : MvF p m m' w w') (o : Nat) (u : Value) : MvF p m m' w (w'.setCell ⟨p, o, none⟩ u) :=
  ⟨h.os, h.tape, h.output, by have := h.size; simpa using this, fun k hk h1 h2 => (heap_setCell_other _ _ _ _ h1).trans (h.block k hk h1 h2), h.row, h.same⟩
theorem MvF.setHi (h : MvF p m m' w w') {b : Nat} (hb : w.heap.size ≤ b) (o : Nat) (u : Value) : MvF p m m' w (w'.setCell ⟨b, o, none⟩ u) :=
  ⟨h.os, h.tape, h.output, by have := h.size; simpa using this, fun k hk h1 h2 => (heap_setCell_other _ _ _ _ (show k ≠ b by omega)).trans (h.block k hk h1 h2), h.row, h.same⟩
theorem MvF.cell (h : MvF p m m' w w') {b o : Nat} (hb : b < w.heap.size) (h1 : b ≠ p) (h2 : m ≠ some b) : w'.cell? ⟨b, o, none⟩ = w.cell? ⟨b, o, none⟩ := World.cell?_of_block (w := w) (h.block b hb h1 h2)
theorem MvF.box {b : Nat} {t : TypeId} {xs : Array Value} (h : MvF p m m' w w') (hB : BoxA w b t xs) (h1 : b ≠ p) (h2 : m ≠ some b) : BoxA w' b t xs := hB.keep (h.block b hB.lt h1 h2)

theorem DAt.keep (h : DAt w m D) (e : ∀ k, m = some k → w'.heap[k]? = w.heap[k]?) : DAt w' m D := by
  rcases h with h | ⟨b, es, clock, rfl, hb, r⟩
  · exact .inl h
  · exact .inr ⟨b, es, clock, rfl, (e b rfl).trans hb, r⟩
theorem DAt.lt (h : DAt w m D) : ∀ k, m = some k → k < w.heap.size := by
  intro k e
  rcases h with ⟨rfl, _⟩ | ⟨b, es, clock, rfl, hb, r⟩
  · cases e
  · cases e; exact (Array.getElem?_eq_some_iff.1 hb).1
theorem DAt.far {b : Nat} {t : TypeId} {xs : Array Value} (h : DAt w m D) (hB : BoxA w b t xs) : m ≠ some b := by
  rintro rfl
  rcases h with ⟨h, _⟩ | ⟨b', es, clock, e, hb, r⟩
  · cases h
  · cases e
    rw [hB.blk] at hb; cases hb
theorem FM.ne (h : FM w p m F D) : m ≠ some p := h.mp.far h.box
theorem FM.p_lt (h : FM w p m F D) : p < w.heap.size := h.box.lt
theorem FM.m_lt (h : FM w p m F D) : ∀ k, m = some k → k < w.heap.size := h.mp.lt
theorem FM.keep (h : FM w p m F D) (e1 : w'.heap[p]? = w.heap[p]?) (e2 : ∀ k, m = some k → w'.heap[k]? = w.heap[k]?) : FM w' p m F D := ⟨h.box.keep e1, h.len, h.mp.keep e2, h.ok⟩
theorem FM.below (h : FM w p m F D) (hb : Below w.heap.size w w') : FM w' p m F D := h.keep (hb.block p h.p_lt) (fun k e => hb.block k (h.m_lt k e))
theorem FM.alloc (h : FM w p m F D) (o : Obj) : FM (w.alloc o) p m F D := h.keep (Below.heap_alloc w o p h.p_lt) (fun k e => Below.heap_alloc w o k (h.m_lt k e))
theorem FM.heap (h : FM w p m F D) (e : w'.heap = w.heap) : FM w' p m F D := h.keep (by rw [e]) (fun k _ => by rw [e])
theorem FM.setOther (h : FM w p m F D) {b : Nat} (o : Nat) (v : Value) (h1 : p ≠ b) (h2 : m ≠ some b) : FM (w.setCell ⟨b, o, none⟩ v) p m F D := h.keep (heap_setCell_other _ _ _ _ h1) (fun k e => heap_setCell_other _ _ _ _ (fun c => h2 (by rw [e, c])))
theorem FM.f (h : FM w p m F D) (o : Nat) : w.frozen? ⟨p, o, none⟩ = false := h.box.f o
/-- the map's cell. -/
theorem FM.cm (h : FM w p m F D) : w.cell? ⟨p, 96, none⟩ = some (.map m) := h.box.at 96 (by
  have hl := flatF_len F
  rw [h.len] at hl
  simp only [filesV, List.getElem?_toArray]
  rw [List.getElem?_append_right (by rw [hl]; decide), hl]
  rfl)
theorem FM.at0 (h : FM w p m F D) {i : Nat} {x : OF} (hx : F[i]? = some x) : w.cell? ⟨p, i * 3, none⟩ = some (.int .i64 x.kind) := h.box.at _ (by
  have := (flatF_at F i x hx).1
  simp only [filesV, List.getElem?_toArray]
  rw [List.getElem?_append_left (List.getElem?_eq_some_iff.1 this).1]; exact this)
theorem FM.at1 (h : FM w p m F D) {i : Nat} {x : OF} (hx : F[i]? = some x) : w.cell? ⟨p, i * 3 + 1, none⟩ = some (.int .i64 x.thing) := h.box.at _ (by
  have := (flatF_at F i x hx).2.1
  simp only [filesV, List.getElem?_toArray]
  rw [List.getElem?_append_left (List.getElem?_eq_some_iff.1 this).1]; exact this)
theorem FM.at2 (h : FM w p m F D) {i : Nat} {x : OF} (hx : F[i]? = some x) : w.cell? ⟨p, i * 3 + 2, none⟩ = some (.int .i64 x.refs) := h.box.at _ (by
  have := (flatF_at F i x hx).2.2
  simp only [filesV, List.getElem?_toArray]
  rw [List.getElem?_append_left (List.getElem?_eq_some_iff.1 this).1]; exact this)
/-! cells stored -/
theorem FM.setRefs (h : FM w p m F D) {i : Nat} (hi : i < 32) (r : Int) : FM (w.setCell ⟨p, i * 3 + 2, none⟩ (.int .i64 r)) p m (F.modify i (fun x => { x with refs := r })) D :=
  ⟨by
    have := h.box.set (i * 3 + 2) (.int .i64 r)
    rw [show (filesV F m).setIfInBounds (i * 3 + 2) (.int .i64 r) = filesV (F.modify i (fun x => { x with refs := r })) m by
      unfold filesV; rw [List.setIfInBounds_toArray, flatF_refs r _ F i (by rw [h.len]; exact hi)]] at this
    exact this, by rw [List.length_modify]; exact h.len, h.mp.keep (fun k e => heap_setCell_other _ _ _ _ (fun c => h.ne (by rw [e, c]))), h.ok⟩
theorem FM.setTwo (h : FM w p m F D) {i : Nat} (hi : i < 32) (a b : Int) : FM ((w.setCell ⟨p, i * 3, none⟩ (.int .i64 a)).setCell ⟨p, i * 3 + 1, none⟩ (.int .i64 b)) p m (F.modify i (fun x => { x with kind := a, thing := b })) D :=
  ⟨by
    have := (h.box.set (i * 3) (.int .i64 a)).set (i * 3 + 1) (.int .i64 b)
    rw [show ((filesV F m).setIfInBounds (i * 3) (.int .i64 a)).setIfInBounds (i * 3 + 1) (.int .i64 b) = filesV (F.modify i (fun x => { x with kind := a, thing := b })) m by
      unfold filesV; rw [List.setIfInBounds_toArray, List.setIfInBounds_toArray, flatF_two a b _ F i (by rw [h.len]; exact hi)]] at this
    exact this, by rw [List.length_modify]; exact h.len,
    (h.mp.keep (fun k e => heap_setCell_other _ _ _ _ (fun c => h.ne (by rw [e, c])))).keep (fun k e => heap_setCell_other _ _ _ _ (fun c => h.ne (by rw [e, c]))), h.ok⟩
theorem FM.setAll (h : FM w p m F D) {i : Nat} (hi : i < 32) (a b c : Int) : FM (((w.setCell ⟨p, i * 3, none⟩ (.int .i64 a)).setCell ⟨p, i * 3 + 1, none⟩ (.int .i64 b)).setCell ⟨p, i * 3 + 2, none⟩ (.int .i64 c)) p m (F.set i ⟨a, b, c⟩) D :=
  ⟨by
    have := ((h.box.set (i * 3) (.int .i64 a)).set (i * 3 + 1) (.int .i64 b)).set (i * 3 + 2) (.int .i64 c)
    rw [show (((filesV F m).setIfInBounds (i * 3) (.int .i64 a)).setIfInBounds (i * 3 + 1) (.int .i64 b)).setIfInBounds (i * 3 + 2) (.int .i64 c) = filesV (F.set i ⟨a, b, c⟩) m by
      unfold filesV; rw [List.setIfInBounds_toArray, List.setIfInBounds_toArray, List.setIfInBounds_toArray, flatF_all a b c _ F i (by rw [h.len]; exact hi)]] at this
    exact this, by rw [List.length_set]; exact h.len,
    ((h.mp.keep (fun k e => heap_setCell_other _ _ _ _ (fun c => h.ne (by rw [e, c])))).keep (fun k e => heap_setCell_other _ _ _ _ (fun c => h.ne (by rw [e, c])))).keep (fun k e => heap_setCell_other _ _ _ _ (fun c => h.ne (by rw [e, c]))), h.ok⟩
/-- a map stored where none was. -/
theorem FM.setMap (h : FM w p none F D) {b : Nat} (hb : w.heap[b]? = some (.map #[] k)) : FM (w.setCell ⟨p, 96, none⟩ (.map (some b))) p (some b) F D :=
  ⟨by
    have := h.box.set 96 (Value.map (some b))
    rw [show (filesV F none).setIfInBounds 96 (.map (some b)) = filesV F (some b) by
      have := flatF_map F none (some b)
      rw [h.len] at this
      unfold filesV; rw [List.setIfInBounds_toArray, this]] at this
    exact this, h.len, (by
    rcases h.mp with ⟨_, rfl⟩ | ⟨_, _, _, e, _⟩
    · refine .inr ⟨b, #[], k, rfl, (heap_setCell_other _ _ _ _ (fun c => ?_)).trans hb, rfl, ⟨by simp, by simp⟩⟩
      rw [c, h.box.blk] at hb; cases hb
    · cases e), h.ok⟩
end

/-! ### the map's entries, one by one -/
theorem isKey9 (k : Int) : IsKey (.int .i64) (.int .i64 k) := rfl
theorem find_no9 (k : Int) : ∀ (es : List MapEntry) (D : List (Int × Fds)) (i : Nat), es.map (fun e => (e.key, e.val)) = D.map (fun q => (Value.int .i64 q.1, rowV q.2)) → (∀ q ∈ D, q.1 ≠ k) → Instr.findNow (.int .i64) (.int .i64 k) es i = some none
  | [], _, _, _, _ => rfl
  | e :: es, [], _, h, _ => by simp at h
  | e :: es, q :: D, i, h, hn => by
    simp only [List.map_cons, List.cons.injEq, Prod.mk.injEq] at h
    have hq : (k == q.1) = false := by have := hn q (by simp); simp; omega
    simp only [Instr.findNow, Instr.sameNow, h.1.1, hq, if_true]
    exact find_no9 k es D (i + 1) h.2 (fun x hx => hn x (by simp [hx]))
theorem find_yes9 (k : Int) (r : Fds) (B : List (Int × Fds)) : ∀ (es : List MapEntry) (A : List (Int × Fds)) (i : Nat), es.map (fun e => (e.key, e.val)) = (A ++ (k, r) :: B).map (fun q => (Value.int .i64 q.1, rowV q.2)) → (∀ x ∈ A, x.1 ≠ k) → Instr.findNow (.int .i64) (.int .i64 k) es i = some (some (i + A.length, rowV r))
  | [], A, _, h, _ => by simp at h
  | e :: es, [], i, h, _ => by
    simp only [List.nil_append, List.map_cons, List.cons.injEq, Prod.mk.injEq] at h
    have hk : (k == k) = true := by simp
    simp only [Instr.findNow, Instr.sameNow, h.1.1, hk, if_true, h.1.2, List.length_nil, Nat.add_zero]
  | e :: es, x :: A, i, h, hn => by
    simp only [List.cons_append, List.map_cons, List.cons.injEq, Prod.mk.injEq] at h
    have hk : (k == x.1) = false := by have := hn x (by simp); simp; omega
    simp only [Instr.findNow, Instr.sameNow, h.1.1, hk, if_true]
    rw [find_yes9 k r B es A (i + 1) h.2 (fun y hy => hn y (by simp [hy])), List.length_cons]
    congr 3
    omega
theorem map_erase9 {α β : Type} (f : α → β) : ∀ (l : List α) (i : Nat), (l.eraseIdx i).map f = (l.map f).eraseIdx i
  | [], _ => rfl
  | _ :: _, 0 => rfl
  | x :: l, i + 1 => by simp [map_erase9 f l i]
def putM9 (w : World) (m : Nat) (o : Obj) : World := { w with heap := w.heap.setIfInBounds m o }
theorem putM9_same {w : World} {m : Nat} (h : m < w.heap.size) (o : Obj) : (putM9 w m o).heap[m]? = some o := by unfold putM9; simp [h]
theorem putM9_other {w : World} {m k : Nat} (o : Obj) (h : k ≠ m) : (putM9 w m o).heap[k]? = w.heap[k]? := by unfold putM9; exact Array.getElem?_setIfInBounds_ne (Ne.symm h)
theorem putM9_size {w : World} {m : Nat} (o : Obj) : (putM9 w m o).heap.size = w.heap.size := by unfold putM9; simp

section
variable {w : World} {p : Nat} {m : Option Nat} {F : List OF} {D : List (Int × Fds)} {k : Int}
theorem entD_keys {es : Array MapEntry} (h : EntD es D) : es.toList.map (·.key) = D.map (fun q => Value.int .i64 q.1) := by
  have := congrArg (List.map Prod.fst) h
  simpa [List.map_map, Function.comp_def] using this
theorem DAt.lookup (h : DAt w m D) (ok : DOk D) (k : Int) : (Instr.lookup 60 (.map m) (.int .i64 k) false).run Try.prog w = .ok (rowV (rowD D k)) w := by
  rcases h with ⟨rfl, rfl⟩ | ⟨b, es, clock, rfl, hb, hE, _⟩
  · simp [Instr.lookup, run_underlying Try.underlying60, run_checkKey Try.underlying3 (isKey9 k), Result.andThen]
    rfl
  · by_cases e : hasD D k = true
    · obtain ⟨A, r, B, rfl, hA, hB⟩ := hasD_split ok e
      have h1 := find_yes9 k r B es.toList A 0 hE hA
      rw [rowD_split hA]
      simp [Instr.lookup, run_underlying Try.underlying60, MapKept.run_getObj_map hb, run_checkKey Try.underlying3 (isKey9 k), run_findKey Try.underlying3 h1, Result.andThen]
    · have hn := hasD_no (Bool.eq_false_iff.2 e)
      have h1 := find_no9 k es.toList D 0 hE hn
      rw [rowD_no hn]
      simp [Instr.lookup, run_underlying Try.underlying60, MapKept.run_getObj_map hb, run_checkKey Try.underlying3 (isKey9 k), run_findKey Try.underlying3 h1, Result.andThen]
      rfl
theorem FM.putM {b : Nat} {es : Array MapEntry} {clock : Nat} {D' : List (Int × Fds)} (h : FM w p (some b) F D) (hE : EntD es D') (hS : Stamped es clock) (ok : DOk D') : FM (putM9 w b (.map es clock)) p (some b) F D' ∧ MvF p (some b) (some b) w (putM9 w b (.map es clock)) :=
  ⟨⟨h.box.keep (putM9_other _ (fun c => h.ne (by rw [c]))), h.len, .inr ⟨b, es, clock, rfl, putM9_same (h.m_lt b rfl) _, hE, hS⟩, ok⟩,
    ⟨rfl, rfl, rfl, by rw [putM9_size]; exact Nat.le_refl _, fun k _ _ h2 => putM9_other _ (fun c => h2 (by rw [c])), fun _ e => .inl e, fun _ e => e⟩⟩
theorem FM.store {b : Nat} (h : FM w p (some b) F D) (k : Int) {r : Fds} (hr : r.length = 8) : ∃ w', (Instr.mapUpdate 60 (.map (some b)) (.int .i64 k) (rowV r)).run Try.prog w = .ok () w' ∧ FM w' p (some b) F (setD D k r) ∧ MvF p (some b) (some b) w w' := by
  have h' := h
  obtain ⟨hbox, hlen, hmp, ok⟩ := h
  rcases hmp with ⟨e, _⟩ | ⟨b', es, clock, e, hb, hE, hS⟩
  · cases e
  cases e
  by_cases e : hasD D k = true
  · obtain ⟨A, r0, B, hD, hA, hB⟩ := hasD_split ok e
    have h1 := find_yes9 k r0 B es.toList A 0 (by rw [← hD]; exact hE) hA
    rw [Nat.zero_add] at h1
    have hkey : es[A.length]?.map (·.key) = some (.int .i64 k) := by
      have := congrArg (fun l => l[A.length]?) (entD_keys hE)
      simp only [List.getElem?_map, hD] at this
      rw [List.getElem?_append_right (Nat.le_refl _)] at this
      simpa using this
    obtain ⟨e0, he0, hk0⟩ := Option.map_eq_some_iff.1 hkey
    refine ⟨putM9 w b (.map (es.modify A.length fun e => { e with key := .int .i64 k, val := rowV r }) clock), ?_, h'.putM ?_ (stamped_modify hS _ _ (fun _ _ => rfl) (fun e _ he => ?_)) (ok.set hr)⟩
    · simp [Instr.mapUpdate, run_underlying Try.underlying60, MapKept.run_getObj_map hb, run_checkKey Try.underlying3 (isKey9 k), run_findKey Try.underlying3 h1, he0, hk0, run_keyThatStays (isKey9 k), MapKept.run_setObj_map _ hb, Result.andThen, putM9]
    · rw [hD, setD_split hA hB]
      unfold EntD
      apply List.ext_getElem?
      intro j
      have hj := congrArg (fun l => l[j]?) hE
      rw [hD] at hj
      simp only [List.getElem?_map, Array.getElem?_toList, Array.getElem?_modify] at hj ⊢
      by_cases c : A.length = j
      · subst c
        rw [if_pos rfl, he0, List.getElem?_append_right (Nat.le_refl _)]
        simp
      · rw [if_neg c, hj]
        rcases Nat.lt_or_ge j A.length with h4 | h4
        · rw [List.getElem?_append_left h4, List.getElem?_append_left h4]
        · rw [List.getElem?_append_right h4, List.getElem?_append_right h4]
          obtain ⟨i, hi⟩ : ∃ i, j - A.length = i + 1 := ⟨j - A.length - 1, by omega⟩
          rw [hi]
          rfl
    · rw [he0] at he
      cases he
      exact hk0.symm
  · have hn := hasD_no (Bool.eq_false_iff.2 e)
    have h1 := find_no9 k es.toList D 0 hE hn
    refine ⟨putM9 w b (.map (es.push { key := .int .i64 k, val := rowV r, born := clock }) (clock + 1)), ?_, h'.putM ?_ (stamped_push hS (fun x hx c => ?_)) (ok.set hr)⟩
    · simp [Instr.mapUpdate, run_underlying Try.underlying60, MapKept.run_getObj_map hb, run_checkKey Try.underlying3 (isKey9 k), run_findKey Try.underlying3 h1, MapKept.run_setObj_map _ hb, Result.andThen, putM9]
    · unfold setD
      rw [if_neg e]
      unfold EntD at hE ⊢
      rw [Array.toList_push, List.map_append, List.map_append, hE]
      simp
    · have hm : x.key ∈ es.toList.map (·.key) := List.mem_map.2 ⟨x, hx, rfl⟩
      rw [entD_keys hE, c] at hm
      obtain ⟨q, hq1, hq2⟩ := List.mem_map.1 hm
      have := hn q hq1
      simp at hq2
      omega
theorem FM.delete (h : FM w p m F D) (k : Int) (ty : TypeId) : ∃ w', (Builtin.delete_ #[60, 3] ty #[.map m, .int .i64 k]).run Try.prog w = .ok (.tuple #[]) w' ∧ FM w' p m F (delD D k) ∧ MvF p m m w w' := by
  have h' := h
  obtain ⟨hbox, hlen, hmp, ok⟩ := h
  rcases hmp with ⟨rfl, rfl⟩ | ⟨b, es, clock, rfl, hb, hE, hS⟩
  · exact ⟨w, by simp [Builtin.delete_, run_underlying Try.underlying60, run_checkKey Try.underlying3 (isKey9 k), Result.andThen], h', MvF.refl w⟩
  by_cases e : hasD D k = true
  · obtain ⟨A, r, B, hD, hA, hB⟩ := hasD_split ok e
    have h1 := find_yes9 k r B es.toList A 0 (by rw [← hD]; exact hE) hA
    rw [Nat.zero_add] at h1
    have hl : es.toList.length = D.length := by have := congrArg List.length hE; simpa using this
    have hAl : A.length < es.size := by rw [← Array.length_toList, hl, hD]; simp
    have hsub : (es.eraseIdxIfInBounds A.length).toList = es.toList.eraseIdx A.length := by
      unfold Array.eraseIdxIfInBounds
      rw [dif_pos hAl]
      simp
    refine ⟨putM9 w b (.map (es.eraseIdxIfInBounds A.length) clock), ?_, h'.putM ?_ (stamped_erase hS _) ok.del⟩
    · simp [Builtin.delete_, run_underlying Try.underlying60, MapKept.run_getObj_map hb, run_checkKey Try.underlying3 (isKey9 k), run_findKey Try.underlying3 h1, MapKept.run_setObj_map _ hb, Result.andThen, putM9]
    · rw [hD, delD_split hA hB]
      unfold EntD at hE ⊢
      rw [hsub, map_erase9, hE, hD, ← map_erase9, List.eraseIdx_append_of_length_le (Nat.le_refl _)]
      simp
  · have hn := hasD_no (Bool.eq_false_iff.2 e)
    have h1 := find_no9 k es.toList D 0 hE hn
    refine ⟨putM9 w b (.map es clock), ?_, h'.putM (by rw [delD_no hn]; exact hE) hS ok.del⟩
    simp [Builtin.delete_, run_underlying Try.underlying60, MapKept.run_getObj_map hb, run_checkKey Try.underlying3 (isKey9 k), run_findKey Try.underlying3 h1, MapKept.run_setObj_map _ hb, Result.andThen, putM9]
end
end Go.Proofs.Ytfgigofmmapbmaa
