/- General, over any program: a block of cells that holds a row of structs, each of c cells (rowA e L: e x the cells of x): a cell read, a cell stored, at a letter's place. -/
import Derived.Test.YteannfenkmejjaaBox
namespace Go.Proofs.Yteannfenkmejjaa
open Go.RowKit

/-- the cells of a row of structs. -/
def rowA {α : Type} (e : α → List Value) (L : List α) : Array Value := (L.flatMap e).toArray
section
variable {α : Type} {e : α → List Value} {c : Nat} {L : List α} {x y : α} {i o : Nat} {v : Value}
theorem row_len (hc : ∀ x, (e x).length = c) : (L.flatMap e).length = L.length * c := by
  induction L with
  | nil => simp
  | cons a L ih => rw [List.flatMap_cons, List.length_append, ih, hc, List.length_cons, Nat.succ_mul, Nat.add_comm]
theorem row_split (hx : L[i]? = some x) : L.flatMap e = (L.take i).flatMap e ++ (e x ++ (L.drop (i + 1)).flatMap e) := by
  obtain ⟨h, rfl⟩ := List.getElem?_eq_some_iff.1 hx
  conv => lhs; rw [← List.take_append_drop i L, List.drop_eq_getElem_cons h]
  rw [List.flatMap_append, List.flatMap_cons]
theorem row_take (hc : ∀ x, (e x).length = c) (hx : L[i]? = some x) : ((L.take i).flatMap e).length = i * c := by
  obtain ⟨h, -⟩ := List.getElem?_eq_some_iff.1 hx
  rw [row_len hc, List.length_take, Nat.min_eq_left (by omega)]
theorem row_at (hc : ∀ x, (e x).length = c) (hx : L[i]? = some x) (hv : (e x)[o]? = some v) : (rowA e L)[i * c + o]? = some v := by
  have ho : o < (e x).length := (List.getElem?_eq_some_iff.1 hv).1
  show (L.flatMap e).toArray[i * c + o]? = some v
  rw [List.getElem?_toArray, row_split hx, List.getElem?_append_right (by rw [row_take hc hx]; omega), row_take hc hx, Nat.add_sub_cancel_left, List.getElem?_append_left ho, hv]
theorem row_set (hc : ∀ x, (e x).length = c) (hx : L[i]? = some x) (ho : o < c) (hy : e y = (e x).set o v) : (rowA e L).setIfInBounds (i * c + o) v = rowA e (L.set i y) := by
  obtain ⟨h, -⟩ := List.getElem?_eq_some_iff.1 hx
  have hy2 : (L.set i y)[i]? = some y := by rw [List.getElem?_set_self h]
  show (L.flatMap e).toArray.setIfInBounds (i * c + o) v = ((L.set i y).flatMap e).toArray
  rw [List.setIfInBounds_toArray, row_split hx, row_split hy2, List.take_set_of_le (Nat.le_refl i), List.drop_set_of_lt (Nat.lt_succ_self i), List.set_append_right (i * c + o) v (by rw [row_take hc hx]; omega), row_take hc hx, Nat.add_sub_cancel_left, List.set_append_left o v (by rw [hc]; exact ho), hy]
/-- the block b holds a row of structs: a cell of the i-th one, as read and as stored. -/
theorem BoxA.row_cell {W : World} {b : Nat} {t : TypeId} (hB : BoxA W b t (rowA e L)) (hc : ∀ x, (e x).length = c) (hx : L[i]? = some x) (hv : (e x)[o]? = some v) : W.cell? ⟨b, i * c + o, none⟩ = some v := hB.at _ (row_at hc hx hv)
theorem BoxA.row_store {W : World} {b : Nat} {t : TypeId} (hB : BoxA W b t (rowA e L)) (hc : ∀ x, (e x).length = c) (hx : L[i]? = some x) (ho : o < c) (hy : e y = (e x).set o v) : BoxA (W.setCell ⟨b, i * c + o, none⟩ v) b t (rowA e (L.set i y)) := by
  rw [← row_set hc hx ho hy]
  exact hB.set _ v
end
end Go.Proofs.Yteannfenkmejjaa
