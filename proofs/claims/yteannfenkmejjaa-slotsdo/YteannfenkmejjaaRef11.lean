/- The document's own slots of layer 11 (R11: at q a struct of eight marks, eight numbers, eight sequences): id, at, Add, Get, Set, Remove. -/
import Derived.Test.YteannfenkmejjaaSlFind
import Derived.Test.YteannfenkmejjaaQuLs
import Derived.StillTailTactics
namespace Go.Proofs.Yteannfenkmejjaa
open Go.RowKit

abbrev RT11 := List (Bool × Int × Nat)
/-- what the document's struct stands for. -/
def absT (R : RT11) : SlT Int := R.map fun x => (if x.1 then some x.2.1 else none, x.2.2)
def refV (R : RT11) : Array Value := (R.map (fun x => Value.bool x.1) ++ (R.map (fun x => Value.int .i64 x.2.1) ++ R.map fun x => Value.int .i64 (x.2.2 : Int))).toArray
section
variable {R : RT11} {i : Nat} {x : Bool × Int × Nat}
theorem absT_val (h : R[i]? = some x) : valS (absT R) i = if x.1 then some x.2.1 else none := by unfold valS absT; rw [List.getElem?_map, h]; rfl
theorem absT_has (h : R[i]? = some x) : hasS (absT R) i = x.1 := by unfold hasS; rw [absT_val h]; cases x.1 <;> rfl
theorem absT_seq (h : R[i]? = some x) : seqS (absT R) i = x.2.2 := by unfold seqS absT; rw [List.getElem?_map, h]; rfl
theorem absT_set (y : Bool × Int × Nat) : (absT R).set i (if y.1 then some y.2.1 else none, y.2.2) = absT (R.set i y) := by unfold absT; rw [List.map_set]
theorem refV_is (h : R[i]? = some x) : (refV R)[i]? = some (.bool x.1) := by
  have hi := (List.getElem?_eq_some_iff.1 h).1
  unfold refV
  rw [List.getElem?_toArray, List.getElem?_append_left (by simp; omega), List.getElem?_map, h]; rfl
theorem refV_v (hl : R.length = 8) (h : R[i]? = some x) : (refV R)[8 + i]? = some (.int .i64 x.2.1) := by
  have hi := (List.getElem?_eq_some_iff.1 h).1
  unfold refV
  rw [List.getElem?_toArray, List.getElem?_append_right (by simp; omega), List.getElem?_append_left (by simp; omega), List.getElem?_map, List.length_map, hl, Nat.add_sub_cancel_left, h]; rfl
theorem refV_q (hl : R.length = 8) (h : R[i]? = some x) : (refV R)[16 + i]? = some (.int .i64 (x.2.2 : Int)) := by
  have hi := (List.getElem?_eq_some_iff.1 h).1
  unfold refV
  rw [List.getElem?_toArray, List.getElem?_append_right (by simp; omega), List.getElem?_append_right (by simp; omega), List.getElem?_map, List.length_map, List.length_map, hl, show 16 + i - 8 - 8 = i by omega, h]; rfl
theorem set_map_same {α β : Type} {f : α → β} {L : List α} {i : Nat} {x y : α} (h : L[i]? = some x) (e : f y = f x) : (L.set i y).map f = L.map f := by
  rw [List.map_set, e]
  apply List.ext_getElem?
  intro j
  rw [List.getElem?_set]
  split
  · rename_i c; subst c; split
    · rw [List.getElem?_map, h]; rfl
    · rename_i d; exact absurd (by simpa using (List.getElem?_eq_some_iff.1 h).1) d
  · rfl
theorem refV_set_is (h : R[i]? = some x) (b : Bool) : (refV R).setIfInBounds i (.bool b) = refV (R.set i (b, x.2.1, x.2.2)) := by
  have hi := (List.getElem?_eq_some_iff.1 h).1
  unfold refV
  rw [List.setIfInBounds_toArray, List.set_append_left _ _ (by simp; omega), set_map_same (f := fun x : Bool × Int × Nat => Value.int .i64 x.2.1) (y := (b, x.2.1, x.2.2)) h rfl, set_map_same (f := fun x : Bool × Int × Nat => Value.int .i64 (x.2.2 : Int)) (y := (b, x.2.1, x.2.2)) h rfl, List.map_set]
theorem refV_set_v (hl : R.length = 8) (h : R[i]? = some x) (v : Int) : (refV R).setIfInBounds (8 + i) (.int .i64 v) = refV (R.set i (x.1, v, x.2.2)) := by
  have hi := (List.getElem?_eq_some_iff.1 h).1
  unfold refV
  rw [List.setIfInBounds_toArray, List.set_append_right _ _ (by simp; omega), List.set_append_left _ _ (by simp; omega), List.length_map, hl, Nat.add_sub_cancel_left, set_map_same (f := fun x : Bool × Int × Nat => Value.bool x.1) (y := (x.1, v, x.2.2)) h rfl, set_map_same (f := fun x : Bool × Int × Nat => Value.int .i64 (x.2.2 : Int)) (y := (x.1, v, x.2.2)) h rfl, List.map_set]
theorem refV_set_q (hl : R.length = 8) (h : R[i]? = some x) (q : Nat) : (refV R).setIfInBounds (16 + i) (.int .i64 (q : Int)) = refV (R.set i (x.1, x.2.1, q)) := by
  have hi := (List.getElem?_eq_some_iff.1 h).1
  unfold refV
  rw [List.setIfInBounds_toArray, List.set_append_right _ _ (by simp; omega), List.set_append_right _ _ (by simp; omega), List.length_map, List.length_map, hl, show 16 + i - 8 - 8 = i by omega, set_map_same (f := fun x : Bool × Int × Nat => Value.bool x.1) (y := (x.1, x.2.1, q)) h rfl, set_map_same (f := fun x : Bool × Int × Nat => Value.int .i64 x.2.1) (y := (x.1, x.2.1, q)) h rfl, List.map_set]
end

/-- the document's struct lies at q. -/
structure R11 (w : World) (q : Nat) (R : RT11) : Prop where
  box : BoxA w q 30 (refV R)
  len : R.length = 8
  seq : ∀ x ∈ R, x.2.2 < 4096
section
variable {w w' : World} {q i : Nat} {R : RT11} {x : Bool × Int × Nat} {id : Int}
theorem R11.keep (h : R11 w q R) (e : w'.heap[q]? = w.heap[q]?) : R11 w' q R := ⟨h.box.keep e, h.len, h.seq⟩
theorem R11.below' (h : R11 w q R) (hb : Below w.heap.size w w') : R11 w' q R := ⟨h.box.below' hb, h.len, h.seq⟩
theorem R11.some (h : R11 w q R) (hi : i < 8) : ∃ x, R[i]? = some x ∧ x.2.2 < 4096 := by
  have hl := h.len
  refine ⟨_, List.getElem?_eq_getElem (by omega), h.seq _ (List.getElem_mem _)⟩
theorem R11.set (h : R11 w q R) {o : Nat} {v : Value} {y : Bool × Int × Nat} (he : (refV R).setIfInBounds o v = refV (R.set i y)) (hy : y.2.2 < 4096) : R11 (w.setCell ⟨q, o, none⟩ v) q (R.set i y) :=
  ⟨by have := h.box.set o v; rw [he] at this; exact this, by rw [List.length_set]; exact h.len, fun z hz => by
    rcases List.mem_or_eq_of_mem_set hz with c | c
    · exact h.seq z c
    · subst c; exact hy⟩

set_option maxRecDepth 100000 in
set_option maxHeartbeats 1000000 in
theorem rid11 (h : R11 w q R) (hx : R[i]? = some x) (hi : i < 8) (hq : x.2.2 < 4096) : Calls Try.prog 29 #[.pointer (some ⟨q, 0, none⟩), .int .i64 (i : Int)] w fun e w' => e = .returned (.int .i64 (idS i x.2.2)) ∧ w' = w := by
  have c := h.box.at (16 + i) (refV_q h.len hx)
  obtain ⟨s, hs⟩ : ∃ s, x.2.2 = s := ⟨_, rfl⟩
  rw [hs] at c hq ⊢
  have hi8 : (i : Int) < 8 := by omega
  have w1 : IntKind.i64.wrap (8 * (s : Int)) = 8 * (s : Int) := by rw [IntKind.wrap_i64]; omega
  have w2 : IntKind.i64.wrap (8 * (s : Int) + (i : Int)) = 8 * (s : Int) + (i : Int) := by rw [IntKind.wrap_i64]; omega
  have e : idS i s = 8 * (s : Int) + (i : Int) := by unfold idS; omega
  rw [e]
  clear h hx hs e
  go_enter Try.func29, Try.ntmps29
  go_wp2
  go_ret
  exact ⟨rfl, rfl⟩

def atI (L : SlT Int) (id : Int) : Int := match atS L id with
  | some i => (i : Int)
  | none => -1
set_option maxRecDepth 100000 in
set_option maxHeartbeats 2000000 in
theorem rat11 (h : R11 w q R) (id : Int) : Calls Try.prog 33 #[.pointer (some ⟨q, 0, none⟩), .int .i64 id] w fun e w' => e = .returned (.int .i64 (atI (absT R) id)) ∧ w' = w := by
  have H := Lib.hid h
  clear h
  go_enter Try.func33, Try.ntmps33
  go_wp2
  go_loopw [5] (fun i wr => ∃ k : Nat, k ≤ 8 ∧ i = .int .i64 (k : Int) ∧ wr = w ∧ ∀ t, t < k → (hasS (absT R) t && idS t (seqS (absT R) t) == id) = false) (fun i _ => 8 - (intOf i).toNat)
  case atStart => exact ⟨0, by omega, rfl, rfl, fun t ht => by omega⟩
  case round =>
    obtain ⟨k, hk, rfl, rfl, hno⟩ := hrel
    have HNO := Lib.hid hno
    clear hno
    by_cases hk8 : k < 8
    · have hkl : (k : Int) < 8 := by omega
      obtain ⟨x, hx, hq⟩ := H.out.some hk8
      have ci := H.out.box.at k (refV_is hx)
      have ID := Lib.hid (rid11 H.out hx hk8 hq)
      have hh := Lib.hid (absT_has hx)
      have hs := Lib.hid (absT_seq hx)
      obtain ⟨b, hb⟩ : ∃ b, x.1 = b := ⟨_, rfl⟩
      obtain ⟨y, hy⟩ : ∃ y, idS k x.2.2 = y := ⟨_, rfl⟩
      have HB := Lib.hid hb; have HY := Lib.hid hy
      rw [hb] at ci
      rw [hy] at ID
      clear hx hq hb hy
      cases b with
      | false =>
        go_wp2
        go_roundw
        case rel => exact ⟨k + 1, by omega, by go_num, by first | trivial | rfl, fun t ht => by
          by_cases c : t = k
          · rw [c, hh.out, HB.out]; rfl
          · exact HNO.out t (by omega)⟩
        case measure => simp [intOf]; omega
      | true =>
        by_cases hid : y = id
        · have e1 : (y == id) = true := by rw [beq_iff_eq]; exact hid
          go_wp2_with (go_at_call 29; refine ID.out.mono ?_; rintro e w' ⟨rfl, rfl⟩)
          have ha : atI (absT R) id = (k : Int) := by
            unfold atI
            rw [atS_first hk8 (by rw [hh.out, HB.out]) (by rw [hs.out, HY.out, hid]) HNO.out]
          go_ret
          exact ⟨(congrArg (fun z => Ending.returned (Value.int .i64 z)) ha).symm, rfl⟩
        · have e1 : (y == id) = false := by rw [beq_eq_false_iff_ne]; exact hid
          have HE := Lib.hid e1
          go_wp2_with (go_at_call 29; refine ID.out.mono ?_; rintro e w' ⟨rfl, rfl⟩)
          go_roundw
          case rel => exact ⟨k + 1, by omega, by go_num, by first | trivial | rfl, fun t ht => by
            by_cases c : t = k
            · rw [c, hh.out, HB.out, hs.out, HY.out, HE.out]; rfl
            · exact HNO.out t (by omega)⟩
          case measure => simp [intOf]; omega
    · obtain rfl : k = 8 := by omega
      have ha : atI (absT R) id = -1 := by
        unfold atI
        rw [atS_none HNO.out]
      go_wp2
      go_ret
      exact ⟨(congrArg (fun z => Ending.returned (Value.int .i64 z)) ha).symm, rfl⟩
end
end Go.Proofs.Yteannfenkmejjaa
