/- The document's own table of processes (taffrailref06): a struct of a list of processes and a number, in memory; where a process stands. -/
import Derived.Test.YtonllnbincgdpaaProcWas
import Derived.Deep.AppendLies
namespace Go.Proofs.Ytonllnbincgdpaa
open Go.RowKit

/-! ### lists -/
theorem flatL_set {q q' : PV} {f : Nat} {u : Value} (hf : f < 8) (hu : q'.cells.toList = q.cells.toList.set f u) : ∀ (A : List PV) (k : Nat), A[k]? = some q → flatL (A.set k q') = (flatL A).set (k * 8 + f) u
  | [], k, h => by simp at h
  | x :: A, 0, h => by
    simp at h; subst h
    simp only [List.set_cons_zero, flatL, Nat.zero_mul, Nat.zero_add, hu]
    rw [List.set_append_left _ _ (by rw [cells8]; omega)]
  | x :: A, k + 1, h => by
    simp at h
    simp only [List.set_cons_succ, flatL]
    rw [flatL_set hf hu A k h, List.set_append_right _ _ (by rw [cells8]; omega), cells8]
    congr 2
    omega

/-- the first t of a list turned. -/
def midL (f : PV → PV) (L : List PV) (t : Nat) : List PV := (L.take t).map f ++ L.drop t
theorem midL_zero (f : PV → PV) (L : List PV) : midL f L 0 = L := by simp [midL]
theorem midL_all (f : PV → PV) (L : List PV) : midL f L L.length = L.map f := by simp [midL]
theorem midL_len (f : PV → PV) (L : List PV) (t : Nat) : (midL f L t).length = L.length := by
  simp only [midL, List.length_append, List.length_map, List.length_take, List.length_drop]
  omega
theorem midL_at {f : PV → PV} {L : List PV} {t : Nat} {x : PV} (h : L[t]? = some x) : (midL f L t)[t]? = some x := by
  have hl := (List.getElem?_eq_some_iff.1 h).1
  unfold midL
  have e : ((L.take t).map f).length = t := by simp; omega
  rw [List.getElem?_append_right (by omega), e, Nat.sub_self, List.getElem?_drop, Nat.add_zero, h]
theorem midL_set {f : PV → PV} {L : List PV} {t : Nat} {x : PV} (h : L[t]? = some x) : (midL f L t).set t (f x) = midL f L (t + 1) := by
  obtain ⟨hl, rfl⟩ := List.getElem?_eq_some_iff.1 h
  unfold midL
  have e : ((L.take t).map f).length = t := by simp; omega
  rw [List.set_append_right _ _ (by omega), e, Nat.sub_self, List.take_succ_eq_append_getElem hl, List.map_append, List.drop_eq_getElem_cons hl, List.set_cons_zero, List.append_assoc]
  rfl
theorem set_same {A : List PV} {t : Nat} {x : PV} (h : A[t]? = some x) : A.set t x = A := by
  obtain ⟨hl, rfl⟩ := List.getElem?_eq_some_iff.1 h
  simp
theorem midL_skip {f : PV → PV} {L : List PV} {t : Nat} {x : PV} (h : L[t]? = some x) (hf : f x = x) : midL f L t = midL f L (t + 1) := by
  rw [← midL_set h, hf]
  exact (set_same (midL_at h)).symm

theorem setL_set {L : List PV} {g : Int} (ho : TOk L g) {k : Int} {i : Nat} {x x' : PV} (hi : L[i]? = some x) (hx : x.pid = k) : L.set i x' = setL L k x' := by
  obtain ⟨hl, rfl⟩ := List.getElem?_eq_some_iff.1 hi
  have e : L = L.take i ++ L[i] :: L.drop (i + 1) := by rw [List.getElem_cons_drop hl, List.take_append_drop]
  rw [setL_split (q' := x') ho e hx]
  rw [List.set_eq_take_append_cons_drop, if_pos hl]

theorem getL_idx {L : List PV} {k : Int} {x : PV} (h : getL L k = some x) : ∃ i : Nat, i < L.length ∧ L[i]? = some x ∧ x.pid = k ∧ ∀ j y, j < i → L[j]? = some y → y.pid ≠ k := by
  obtain ⟨A, B, rfl, h1, h2⟩ := getL_split h
  refine ⟨A.length, by simp, by rw [List.getElem?_append_right (Nat.le_refl _)]; simp, h2, fun j y hj hy => ?_⟩
  rw [List.getElem?_append_left hj] at hy
  exact h1 y (List.mem_of_getElem? hy)

/-! ### the table in memory -/
structure RT (w : World) (base q r cap : Nat) (L : List PV) (g : Int) : Prop where
  box : BoxA w q 37 #[.slice (some ⟨r, 0, none⟩) L.length cap, .int .i64 g]
  row : WasAt w base (.slice (some ⟨r, 0, none⟩) L.length cap) L
  bq : base ≤ q
  pos : 0 < L.length
/-- .. wherever its list lies. -/
def RTab (w : World) (base q : Nat) (L : List PV) (g : Int) : Prop := ∃ r cap, RT w base q r cap L g

section
variable {w w' : World} {base q r cap : Nat} {L : List PV} {g : Int}
theorem RT.blk (h : RT w base q r cap L g) : ∃ cur : Array Value, w.heap[r]? = some (.cells cur 39 (0, 0)) ∧ base ≤ r ∧ L.length ≤ cap ∧ cap ≤ maxLen ∧ cur.size = cap * 8 ∧ cur.toList.take (L.length * 8) = flatL L := by
  rcases h.row.2 with ⟨h1, _⟩ | ⟨g', cap', cur, e, h1, h2, h3, h4, h5, h6⟩
  · cases h1
  · cases e; exact ⟨cur, h2, h1, h3, h4, h5, h6⟩
theorem RT.ne (h : RT w base q r cap L g) : r ≠ q := by
  rintro rfl
  obtain ⟨cur, h1, _⟩ := h.blk
  have h2 := h.box.blk
  rw [h1] at h2
  cases h2
theorem RT.br (h : RT w base q r cap L g) : base ≤ r := by obtain ⟨cur, _, h1, _⟩ := h.blk; exact h1
theorem RT.rlt (h : RT w base q r cap L g) : r < w.heap.size := by obtain ⟨cur, h1, _⟩ := h.blk; exact (Array.getElem?_eq_some_iff.1 h1).1
theorem RT.qlt (h : RT w base q r cap L g) : q < w.heap.size := h.box.lt
theorem RT.c0 (h : RT w base q r cap L g) : w.cell? ⟨q, 0, none⟩ = some (.slice (some ⟨r, 0, none⟩) L.length cap) := h.box.at 0 rfl
theorem RT.c1 (h : RT w base q r cap L g) : w.cell? ⟨q, 1, none⟩ = some (.int .i64 g) := h.box.at 1 rfl
theorem RT.fr (h : RT w base q r cap L g) (o : Nat) : w.frozen? ⟨r, o, none⟩ = false := by
  obtain ⟨cur, h1, _⟩ := h.blk
  simp [World.frozen?, h1]
theorem RT.fq (h : RT w base q r cap L g) (o : Nat) : w.frozen? ⟨q, o, none⟩ = false := h.box.f o
theorem RT.keep (h : RT w base q r cap L g) (e1 : w'.heap[q]? = w.heap[q]?) (e2 : w'.heap[r]? = w.heap[r]?) : RT w' base q r cap L g := by
  refine ⟨h.box.keep e1, ⟨h.row.1, ?_⟩, h.bq, h.pos⟩
  obtain ⟨cur, h1, h2⟩ := h.blk
  exact .inr ⟨r, cap, cur, rfl, h2.1, e2.trans h1, h2.2⟩
theorem RT.below (h : RT w base q r cap L g) (hb : Below w.heap.size w w') : RT w' base q r cap L g := h.keep (hb.block q h.qlt) (hb.block r h.rlt)
theorem RT.turn {p m : Nat} (h : RT w base q r cap L g) (ht : Turn p m w w') (hp : p < base) (hm : m < base) : RT w' base q r cap L g := by
  have h1 := h.br; have h2 := h.bq
  exact h.keep (ht.block q h.qlt (by omega) (by omega)) (ht.block r h.rlt (by omega) (by omega))
theorem RTab.below (h : RTab w base q L g) (hb : Below w.heap.size w w') : RTab w' base q L g := by obtain ⟨r, cap, h⟩ := h; exact ⟨r, cap, h.below hb⟩
theorem RTab.turn {p m : Nat} (h : RTab w base q L g) (ht : Turn p m w w') (hp : p < base) (hm : m < base) : RTab w' base q L g := by obtain ⟨r, cap, h⟩ := h; exact ⟨r, cap, h.turn ht hp hm⟩
theorem RTab.drew {n : Nat} (h : RTab w base q L g) : RTab (w.drewN n) base q L g := by obtain ⟨r, cap, h⟩ := h; exact ⟨r, cap, h.keep rfl rfl⟩

/-- a process's field, loaded. -/
theorem RT.at (h : RT w base q r cap L g) {i : Nat} {x : PV} (hi : L[i]? = some x) (f : Nat) {u : Value} (hu : x.cells.toList[f]? = some u) : w.cell? ⟨r, i * 8 + f, none⟩ = some u := h.row.cell hi f hu
/-- a process's field, stored. -/
theorem RT.set (h : RT w base q r cap L g) {i : Nat} {x x' : PV} (hi : L[i]? = some x) (f : Nat) {u : Value} (hf : f < 8) (hu : x'.cells.toList = x.cells.toList.set f u) : RT (w.setCell ⟨r, i * 8 + f, none⟩ u) base q r cap (L.set i x') g := by
  obtain ⟨cur, h1, h2, h3, h4, h5, h6⟩ := h.blk
  have hl : (L.set i x').length = L.length := List.length_set
  refine ⟨?_, ⟨by rw [flatL_len], ?_⟩, h.bq, by rw [hl]; exact h.pos⟩
  · rw [hl]; exact h.box.setOther _ _ (Ne.symm h.ne)
  · rw [hl]
    refine .inr ⟨r, cap, cur.setIfInBounds (i * 8 + f) u, rfl, h2, heap_setCell_same w r (i * 8 + f) _ _ u h1, h3, h4, by simpa using h5, ?_⟩
    rw [flatL_set hf hu L i hi, ← h6, Array.toList_setIfInBounds, List.take_set]
end

/-! ### what a call leaves as it was: all but the table and its list -/
section
variable {w w' w'' : World} {p m : Nat}
theorem Turn.setM (h : Turn p m w w') (o : Nat) (v : Value) : Turn p m w (w'.setCell ⟨m, o, none⟩ v) :=
  ⟨h.os, h.tape, h.output, by have := h.size; simpa using this, fun k hk h1 h2 => (heap_setCell_other _ _ _ _ h2).trans (h.block k hk h1 h2)⟩
theorem Turn.alloc (h : Turn p m w w') (o : Obj) : Turn p m w (w'.alloc o) :=
  ⟨h.os, h.tape, h.output, by have := h.size; simp; omega, fun k hk h1 h2 => (Below.heap_alloc w' o k (Nat.lt_of_lt_of_le hk h.size)).trans (h.block k hk h1 h2)⟩
theorem Turn.grown {row : Option Nat} (h : Turn p m w w') (hg : w'.grownBy w'' row) (hr : ∀ k, row = some k → k = m ∨ w.heap.size ≤ k) : Turn p m w w'' :=
  ⟨hg.os.trans h.os, hg.tape.trans h.tape, hg.output.trans h.output, Nat.le_trans h.size hg.size, fun k hk h1 h2 => (hg.block k (Nat.lt_of_lt_of_le hk h.size) (fun e => by rcases hr k e.symm with c | c <;> omega)).trans (h.block k hk h1 h2)⟩
end

/-! ### New -/
set_option maxRecDepth 100000 in
set_option maxHeartbeats 1000000 in
theorem rnew_any (w : World) : Calls Try.prog 12 #[] w fun e w' => ∃ q, e = .returned (.pointer (some ⟨q, 0, none⟩)) ∧ RTab w' w.heap.size q [first1] 1 ∧ Below w.heap.size w w' := by
  go_enter Try.func12, Try.ntmps12
  go_wp2
  go_ret
  refine ⟨_, rfl, ⟨w.heap.size, 1, ⟨?_, ⟨rfl, .inr ⟨w.heap.size, 1, first1.cells, rfl, Nat.le_refl _, ?_, by decide, by decide, rfl, rfl⟩⟩, ?_, by decide⟩⟩, ?_⟩
  · have := BoxA.new (w.alloc (.cells first1.cells 39)) 37 #[.slice (some ⟨w.heap.size, 0, none⟩) 1 1, .int .i64 1]
    rw [World.size_alloc] at this
    exact this
  · exact (Below.heap_alloc _ _ _ (by simp)).trans (heap_alloc_new _ _)
  · exact Nat.le_succ _
  · exact ((Below.refl _ _).alloc (Nat.le_refl _) _).alloc (by simp) _

/-! ### at -/
section
variable {w : World} {base q r cap : Nat} {L : List PV} {g : Int}
set_option maxRecDepth 100000 in
set_option maxHeartbeats 1000000 in
theorem rat_some (h : RT w base q r cap L g) (hn : L.length ≤ 16) {k : Int} {i : Nat} {x : PV} (hil : i < L.length) (hi : L[i]? = some x) (hx : x.pid = k) (hlo : ∀ j y, j < i → L[j]? = some y → y.pid ≠ k) :
    Calls Try.prog 47 #[.pointer (some ⟨q, 0, none⟩), .int .i64 k] w fun e w' => e = .returned (.int .i64 i) ∧ w = w' := by
  have c0 := h.c0
  have HR := Lib.hid h; have HLO := Lib.hid hlo; have HI := Lib.hid hi
  clear h hlo hi
  subst hx
  go_enter Try.func47, Try.ntmps47
  go_wp2
  go_loop [5] (fun t => ∃ j : Nat, j ≤ i ∧ t = .int .i64 j) (fun t => L.length - (intOf t).toNat)
  case atStart => exact ⟨0, by omega, rfl⟩
  case round =>
    obtain ⟨j, hj, rfl⟩ := hrel
    have hjl : j < L.length := by omega
    by_cases hji : j = i
    · subst hji
      have y0 : w.cell? ⟨r, j * 8, none⟩ = some (.int .i64 x.pid) := HR.out.at HI.out 0 rfl
      go_wp2
      go_ret
      exact ⟨rfl, rfl⟩
    · obtain ⟨y, hy⟩ : ∃ y, L[j]? = some y := ⟨_, List.getElem?_eq_getElem hjl⟩
      have y0 : w.cell? ⟨r, j * 8, none⟩ = some (.int .i64 y.pid) := HR.out.at hy 0 rfl
      have hne : (y.pid == x.pid) = false := by simpa using HLO.out j y (by omega) hy
      clear hy
      go_wp2
      go_round
      case rel => exact ⟨j + 1, by omega, by go_num⟩
      case measure => simp [intOf]; omega

set_option maxRecDepth 100000 in
set_option maxHeartbeats 1000000 in
theorem rat_none (h : RT w base q r cap L g) (hn : L.length ≤ 16) {k : Int} (hlo : ∀ y ∈ L, y.pid ≠ k) :
    Calls Try.prog 47 #[.pointer (some ⟨q, 0, none⟩), .int .i64 k] w fun e w' => e = .returned (.int .i64 (-1)) ∧ w = w' := by
  have c0 := h.c0
  have HR := Lib.hid h; have HLO := Lib.hid hlo
  clear h hlo
  go_enter Try.func47, Try.ntmps47
  go_wp2
  go_loop [5] (fun t => ∃ j : Nat, j ≤ L.length ∧ t = .int .i64 j) (fun t => L.length - (intOf t).toNat)
  case atStart => exact ⟨0, by omega, rfl⟩
  case round =>
    obtain ⟨j, hj, rfl⟩ := hrel
    by_cases hjl : j < L.length
    · obtain ⟨y, hy⟩ : ∃ y, L[j]? = some y := ⟨_, List.getElem?_eq_getElem hjl⟩
      have y0 : w.cell? ⟨r, j * 8, none⟩ = some (.int .i64 y.pid) := HR.out.at hy 0 rfl
      have hne : (y.pid == k) = false := by simpa using HLO.out y (List.mem_of_getElem? hy)
      clear hy
      go_wp2
      go_round
      case rel => exact ⟨j + 1, by omega, by go_num⟩
      case measure => simp [intOf]; omega
    · obtain rfl : j = L.length := by omega
      go_wp2
      go_ret
      exact ⟨rfl, rfl⟩
end
end Go.Proofs.Ytonllnbincgdpaa
