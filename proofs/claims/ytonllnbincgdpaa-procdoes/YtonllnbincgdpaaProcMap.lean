/- Package proc: a table in memory (a struct of a map and a number): what a look-up, a store, a deletion, a length come to. -/
import Derived.Test.YtonllnbincgdpaaRows
import Derived.Test.YtonllnbincgdpaaBox
import Derived.Test.YtonllnbincgdpaaExec
import Derived.Test.YtonllnbincgdpaaProcPure
import Derived.Maps.OwnIn
import Derived.StillTailTactics
namespace Go.Proofs.Ytonllnbincgdpaa
open Go.RowKit Go.MapKept

/-- the map's entries are the processes, in the order of their numbers. -/
def Ents (es : Array MapEntry) (L : List PV) : Prop := es.toList.map (fun e => (e.key, e.val)) = L.map (fun q => (Value.int .i64 q.pid, q.val))

structure MapAt (w : World) (m : Nat) (L : List PV) : Prop where
  mp : ∃ es clock, w.heap[m]? = some (.map es clock) ∧ Ents es L ∧ Stamped es clock
/-- the table at p, its map at m. -/
structure TabAt (w : World) (p m : Nat) (L : List PV) (g : Int) : Prop where
  box : BoxA w p 62 #[.map (some m), .int .i64 g]
  mp : MapAt w m L
  ok : TOk L g

section
variable {w w' : World} {p m n : Nat} {L : List PV} {g : Int}

theorem MapAt.lt (h : MapAt w m L) : m < w.heap.size := by
  obtain ⟨es, clock, hb, _⟩ := h.mp
  exact (Array.getElem?_eq_some_iff.1 hb).1
theorem MapAt.keep (h : MapAt w m L) (e : w'.heap[m]? = w.heap[m]?) : MapAt w' m L := by
  obtain ⟨es, clock, hb, r⟩ := h.mp
  exact ⟨es, clock, e.trans hb, r⟩
theorem TabAt.ne (h : TabAt w p m L g) : p ≠ m := by
  rintro rfl
  obtain ⟨es, clock, hb, _⟩ := h.mp.mp
  rw [h.box.blk] at hb; cases hb
theorem TabAt.keep (h : TabAt w p m L g) (e1 : w'.heap[p]? = w.heap[p]?) (e2 : w'.heap[m]? = w.heap[m]?) : TabAt w' p m L g := ⟨h.box.keep e1, h.mp.keep e2, h.ok⟩
theorem TabAt.p_lt (h : TabAt w p m L g) : p < w.heap.size := h.box.lt
theorem TabAt.m_lt (h : TabAt w p m L g) : m < w.heap.size := h.mp.lt
theorem TabAt.below (h : TabAt w p m L g) (hb : Below n w w') (h1 : p < n) (h2 : m < n) : TabAt w' p m L g := h.keep (hb.block p h1) (hb.block m h2)
theorem TabAt.below' (h : TabAt w p m L g) (hb : Below w.heap.size w w') : TabAt w' p m L g := h.below hb h.p_lt h.m_lt
theorem TabAt.alloc (h : TabAt w p m L g) (o : Obj) : TabAt (w.alloc o) p m L g := h.keep (Below.heap_alloc w o p h.p_lt) (Below.heap_alloc w o m h.m_lt)
theorem TabAt.setOther (h : TabAt w p m L g) (b o : Nat) (v : Value) (h1 : p ≠ b) (h2 : m ≠ b) : TabAt (w.setCell ⟨b, o, none⟩ v) p m L g := h.keep (heap_setCell_other _ _ _ _ h1) (heap_setCell_other _ _ _ _ h2)
theorem TabAt.c0 (h : TabAt w p m L g) : w.cell? ⟨p, 0, none⟩ = some (.map (some m)) := h.box.at 0 rfl
theorem TabAt.c1 (h : TabAt w p m L g) : w.cell? ⟨p, 1, none⟩ = some (.int .i64 g) := h.box.at 1 rfl
theorem TabAt.f1 (h : TabAt w p m L g) : w.frozen? ⟨p, 1, none⟩ = false := h.box.f 1

/-- nothing that was there has turned but the table. -/
structure Turn (p m : Nat) (w w' : World) : Prop where
  os : w'.os = w.os
  tape : w'.tape = w.tape
  output : w'.output = w.output
  size : w.heap.size ≤ w'.heap.size
  block : ∀ k, k < w.heap.size → k ≠ p → k ≠ m → w'.heap[k]? = w.heap[k]?
theorem Turn.of_below (h : Below w.heap.size w w') : Turn p m w w' := ⟨h.os, h.tape, h.output, h.size, fun k hk _ _ => h.block k hk⟩
theorem Turn.refl (w : World) : Turn p m w w := ⟨rfl, rfl, rfl, Nat.le_refl _, fun _ _ _ _ => rfl⟩
theorem Turn.trans {w'' : World} (h : Turn p m w w') (k : Turn p m w' w'') : Turn p m w w'' :=
  ⟨k.os.trans h.os, k.tape.trans h.tape, k.output.trans h.output, Nat.le_trans h.size k.size, fun j hj h1 h2 => (k.block j (Nat.lt_of_lt_of_le hj h.size) h1 h2).trans (h.block j hj h1 h2)⟩
theorem Turn.below {w0 : World} (h : Turn p m w w') (hb : Below n w0 w) (h1 : n ≤ p) (h2 : n ≤ m) (h3 : n ≤ w.heap.size) : Below n w0 w' :=
  ⟨h.os.trans hb.os, h.tape.trans hb.tape, h.output.trans hb.output, Nat.le_trans hb.size h.size, fun k hk => (h.block k (by omega) (by omega) (by omega)).trans (hb.block k hk)⟩
theorem Turn.cell (h : Turn p m w w') {b o : Nat} (hb : b < w.heap.size) (h1 : b ≠ p) (h2 : b ≠ m) : w'.cell? ⟨b, o, none⟩ = w.cell? ⟨b, o, none⟩ := World.cell?_of_block (w := w) (h.block b hb h1 h2)
theorem Turn.drew (h : Turn p m w.drew w') : Turn p m w w' := ⟨h.os, h.tape, h.output, h.size, h.block⟩
theorem Turn.setP (h : Turn p m w w') (o : Nat) (v : Value) : Turn p m w (w'.setCell ⟨p, o, none⟩ v) :=
  ⟨h.os, h.tape, h.output, by have := h.size; simpa using this, fun k hk h1 h2 => (heap_setCell_other _ _ _ _ h1).trans (h.block k hk h1 h2)⟩

/-! ### the map's entries, one by one -/
theorem isKey_int (k : Int) : IsKey (.int .i64) (.int .i64 k) := rfl

theorem findNow_no (k : Int) : ∀ (es : List MapEntry) (L : List PV) (i : Nat), es.map (fun e => (e.key, e.val)) = L.map (fun q => (Value.int .i64 q.pid, q.val)) → (∀ q ∈ L, q.pid ≠ k) → Instr.findNow (.int .i64) (.int .i64 k) es i = some none
  | [], _, _, _, _ => rfl
  | e :: es, [], _, h, _ => by simp at h
  | e :: es, q :: L, i, h, hn => by
    simp only [List.map_cons, List.cons.injEq, Prod.mk.injEq] at h
    have hq : (k == q.pid) = false := by have := hn q (by simp); simp; omega
    simp only [Instr.findNow, Instr.sameNow, h.1.1, hq, if_true]
    exact findNow_no k es L (i + 1) h.2 (fun x hx => hn x (by simp [hx]))
theorem findNow_yes (k : Int) (q : PV) (B : List PV) (hq : q.pid = k) : ∀ (es : List MapEntry) (A : List PV) (i : Nat), es.map (fun e => (e.key, e.val)) = (A ++ q :: B).map (fun q => (Value.int .i64 q.pid, q.val)) → (∀ x ∈ A, x.pid ≠ k) → Instr.findNow (.int .i64) (.int .i64 k) es i = some (some (i + A.length, q.val))
  | [], A, _, h, _ => by simp at h
  | e :: es, [], i, h, _ => by
    simp only [List.nil_append, List.map_cons, List.cons.injEq, Prod.mk.injEq] at h
    have hk : (k == q.pid) = true := by simp; omega
    simp only [Instr.findNow, Instr.sameNow, h.1.1, hk, if_true, h.1.2, List.length_nil, Nat.add_zero]
  | e :: es, x :: A, i, h, hn => by
    simp only [List.cons_append, List.map_cons, List.cons.injEq, Prod.mk.injEq] at h
    have hk : (k == x.pid) = false := by have := hn x (by simp); simp; omega
    simp only [Instr.findNow, Instr.sameNow, h.1.1, hk, if_true]
    rw [findNow_yes k q B hq es A (i + 1) h.2 (fun y hy => hn y (by simp [hy])), List.length_cons]
    congr 3
    omega

theorem map_erase {α β : Type} (f : α → β) : ∀ (l : List α) (i : Nat), (l.eraseIdx i).map f = (l.map f).eraseIdx i
  | [], _ => rfl
  | _ :: _, 0 => rfl
  | x :: l, i + 1 => by simp [map_erase f l i]

theorem zero_val (w : World) : (zeroValue 39).run Try.prog w = .ok PV.zero.val w := by kernel_rfl

theorem MapAt.lookup (h : MapAt w m L) (k : Int) (c : Bool) : (Instr.lookup 60 (.map (some m)) (.int .i64 k) c).run Try.prog w = .ok (if c then .tuple #[(atL L k).val, .bool (getL L k).isSome] else (atL L k).val) w := by
  obtain ⟨es, clock, hb, hE, _⟩ := h.mp
  unfold atL
  cases e : getL L k with
  | none =>
    have h1 := findNow_no k es.toList L 0 hE (getL_none e)
    simp [Instr.lookup, run_underlying Try.underlying60, MapKept.run_getObj_map hb, run_checkKey Try.underlying3 (isKey_int k), run_findKey Try.underlying3 h1, Result.andThen]
    rfl
  | some q =>
    obtain ⟨A, B, rfl, h2, h3⟩ := getL_split e
    have h1 := findNow_yes k q B h3 es.toList A 0 hE h2
    simp [Instr.lookup, run_underlying Try.underlying60, MapKept.run_getObj_map hb, run_checkKey Try.underlying3 (isKey_int k), run_findKey Try.underlying3 h1, Result.andThen]

theorem MapAt.len (h : MapAt w m L) (ty : TypeId) : (Builtin.len_ #[60] ty #[.map (some m)]).run Try.prog w = .ok (.int .i64 L.length) w := by
  obtain ⟨es, clock, hb, hE, _⟩ := h.mp
  have e1 : es.size = L.length := by have := congrArg List.length hE; simpa using this
  simp [Builtin.len_, run_underlying Try.underlying60, MapKept.run_getObj_map hb, goInt, Result.andThen, e1]

/-- a map's block written. -/
def putM (w : World) (m : Nat) (o : Obj) : World := { w with heap := w.heap.setIfInBounds m o }
theorem putM_same (h : m < w.heap.size) (o : Obj) : (putM w m o).heap[m]? = some o := by unfold putM; simp [h]
theorem putM_other {k : Nat} (o : Obj) (h : k ≠ m) : (putM w m o).heap[k]? = w.heap[k]? := by unfold putM; exact Array.getElem?_setIfInBounds_ne (Ne.symm h)
theorem putM_turn (o : Obj) : Turn p m w (putM w m o) := ⟨rfl, rfl, rfl, by unfold putM; simp, fun k _ _ h2 => putM_other o h2⟩
theorem putM_size (o : Obj) : (putM w m o).heap.size = w.heap.size := by unfold putM; simp

theorem ents_keys {es : Array MapEntry} {L : List PV} (h : Ents es L) : es.toList.map (·.key) = L.map (fun q => Value.int .i64 q.pid) := by
  have := congrArg (List.map Prod.fst) h
  simpa [List.map_map, Function.comp_def] using this

/-- a process that is there, stored anew. -/
theorem MapAt.set {q q' : PV} {k : Int} (h : MapAt w m L) (ho : TOk L g) (hk : getL L k = some q) (hq : q'.pid = k) :
    ∃ o, (Instr.mapUpdate 60 (.map (some m)) (.int .i64 k) q'.val).run Try.prog w = .ok () (putM w m o) ∧ MapAt (putM w m o) m (setL L k q') := by
  have hlt := h.lt
  obtain ⟨es, clock, hb, hE, hS⟩ := h.mp
  obtain ⟨A, B, hL, h2, h3⟩ := getL_split hk
  have h1 := findNow_yes k q B h3 es.toList A 0 (by rw [← hL]; exact hE) h2
  rw [Nat.zero_add] at h1
  have hlen : es.toList.length = L.length := by have := congrArg List.length hE; simpa using this
  have hAl : A.length < es.toList.length := by rw [hlen, hL]; simp
  have hkey : es[A.length]?.map (·.key) = some (.int .i64 k) := by
    have := congrArg (fun l => l[A.length]?) (ents_keys hE)
    simp only [List.getElem?_map, hL] at this
    rw [List.getElem?_append_right (Nat.le_refl _)] at this
    simpa [h3] using this
  obtain ⟨e0, he0, hk0⟩ := Option.map_eq_some_iff.1 hkey
  refine ⟨.map (es.modify A.length fun e => { e with key := .int .i64 k, val := q'.val }) clock, ?_, ⟨_, _, putM_same hlt _, ?_, stamped_modify hS _ _ (fun _ _ => rfl) (fun e _ he => ?_)⟩⟩
  · simp [Instr.mapUpdate, run_underlying Try.underlying60, MapKept.run_getObj_map hb, run_checkKey Try.underlying3 (isKey_int k), run_findKey Try.underlying3 h1, he0, hk0, run_keyThatStays (isKey_int k), MapKept.run_setObj_map _ hb, Result.andThen, putM]
  · rw [setL_split (q' := q') ho hL h3]
    unfold Ents
    apply List.ext_getElem?
    intro j
    have hj := congrArg (fun l => l[j]?) hE
    rw [hL] at hj
    simp only [List.getElem?_map, Array.getElem?_toList, Array.getElem?_modify] at hj ⊢
    by_cases c : A.length = j
    · subst c
      rw [if_pos rfl, he0, List.getElem?_append_right (Nat.le_refl _)]
      simp [hq]
    · rw [if_neg c, hj]
      rcases Nat.lt_or_ge j A.length with h4 | h4
      · rw [List.getElem?_append_left h4, List.getElem?_append_left h4]
      · rw [List.getElem?_append_right h4, List.getElem?_append_right h4]
        have : ∃ i, j - A.length = i + 1 := ⟨j - A.length - 1, by omega⟩
        obtain ⟨i, hi⟩ := this
        rw [hi]
        rfl
  · rw [he0] at he
    cases he
    exact hk0.symm

/-- a process that is not there yet. -/
theorem MapAt.push {q' : PV} {k : Int} (h : MapAt w m L) (hk : getL L k = none) (hq : q'.pid = k) :
    ∃ o, (Instr.mapUpdate 60 (.map (some m)) (.int .i64 k) q'.val).run Try.prog w = .ok () (putM w m o) ∧ MapAt (putM w m o) m (L ++ [q']) := by
  have hlt := h.lt
  obtain ⟨es, clock, hb, hE, hS⟩ := h.mp
  have h1 := findNow_no k es.toList L 0 hE (getL_none hk)
  refine ⟨.map (es.push { key := .int .i64 k, val := q'.val, born := clock }) (clock + 1), ?_, ⟨_, _, putM_same hlt _, ?_, stamped_push hS (fun x hx c => ?_)⟩⟩
  · simp [Instr.mapUpdate, run_underlying Try.underlying60, MapKept.run_getObj_map hb, run_checkKey Try.underlying3 (isKey_int k), run_findKey Try.underlying3 h1, MapKept.run_setObj_map _ hb, Result.andThen, putM]
  · unfold Ents at hE ⊢
    rw [Array.toList_push, List.map_append, List.map_append, hE]
    simp [hq]
  · have hm : x.key ∈ es.toList.map (·.key) := List.mem_map.2 ⟨x, hx, rfl⟩
    rw [ents_keys hE, c] at hm
    obtain ⟨q, hq1, hq2⟩ := List.mem_map.1 hm
    have := getL_none hk q hq1
    simp at hq2
    omega

/-- a process deleted. -/
theorem MapAt.del {q : PV} {k : Int} (h : MapAt w m L) (ho : TOk L g) (hk : getL L k = some q) (ty : TypeId) :
    ∃ o, (Builtin.delete_ #[60, 3] ty #[.map (some m), .int .i64 k]).run Try.prog w = .ok (.tuple #[]) (putM w m o) ∧ MapAt (putM w m o) m (delL L k) := by
  have hlt := h.lt
  obtain ⟨es, clock, hb, hE, hS⟩ := h.mp
  obtain ⟨A, B, hL, h2, h3⟩ := getL_split hk
  have h1 := findNow_yes k q B h3 es.toList A 0 (by rw [← hL]; exact hE) h2
  rw [Nat.zero_add] at h1
  have hlen : es.toList.length = L.length := by have := congrArg List.length hE; simpa using this
  have hAl : A.length < es.size := by rw [← Array.length_toList, hlen, hL]; simp
  have hsub : (es.eraseIdxIfInBounds A.length).toList = es.toList.eraseIdx A.length := by
    unfold Array.eraseIdxIfInBounds
    rw [dif_pos hAl]
    simp
  refine ⟨.map (es.eraseIdxIfInBounds A.length) clock, ?_, ⟨_, _, putM_same hlt _, ?_, stamped_erase hS _⟩⟩
  · simp [Builtin.delete_, run_underlying Try.underlying60, MapKept.run_getObj_map hb, run_checkKey Try.underlying3 (isKey_int k), run_findKey Try.underlying3 h1, MapKept.run_setObj_map _ hb, Result.andThen, putM]
  · rw [delL_split ho hL h3]
    unfold Ents at hE ⊢
    rw [hsub, map_erase, hE, hL, ← map_erase, List.eraseIdx_append_of_length_le (Nat.le_refl _)]
    simp

end
end Go.Proofs.Ytonllnbincgdpaa
