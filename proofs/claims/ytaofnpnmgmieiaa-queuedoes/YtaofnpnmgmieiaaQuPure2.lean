/- Layer 7: lists, as the laws read them. -/
import Derived.Test.YtaofnpnmgmieiaaQuArgs
namespace Go.Proofs.Ytaofnpnmgmieiaa
open Go.RowKit

section
variable {α : Type} {X : List α}
theorem dt_push {a j : Nat} {x : α} (ha : a ≤ j) (hj : X[j]? = some x) : (X.take j).drop a ++ [x] = (X.take (j + 1)).drop a := by
  have hjl : j < X.length := (List.getElem?_eq_some_iff.1 hj).1
  rw [List.take_add_one, hj, Option.toList_some, List.drop_append_of_le_length (by rw [List.length_take]; omega)]
theorem dt_pop {a j : Nat} {x : α} (ha : a < j) (hx : X[a]? = some x) : (X.take j).drop a = x :: (X.take j).drop (a + 1) := by
  have hl : a < X.length := (List.getElem?_eq_some_iff.1 hx).1
  rw [List.drop_eq_getElem_cons (by rw [List.length_take]; omega)]
  congr 1
  rw [List.getElem_take]
  exact (List.getElem?_eq_some_iff.1 hx).2
theorem take_push {j : Nat} {x : α} (hj : X[j]? = some x) : X.take j ++ [x] = X.take (j + 1) := by
  rw [List.take_add_one, hj, Option.toList_some]
variable [BEq α] [LawfulBEq α]
theorem erase_snoc (A : List α) (x v : α) : (A ++ [x]).erase v = if A.contains v = true then A.erase v ++ [x] else if (x == v) = true then A else A ++ [x] := by
  rw [List.erase_append]
  by_cases h : v ∈ A
  · rw [if_pos h, if_pos (by simpa using h)]
  · rw [if_neg h, if_neg (by simpa using h)]
    by_cases e : (x == v) = true
    · rw [if_pos e]; simp [List.erase_cons, e]
    · rw [if_neg e]; simp [e]
theorem contains_snoc (A : List α) (x v : α) : (A ++ [x]).contains v = (A.contains v || (x == v)) := by
  rw [Bool.eq_iff_iff]
  simp
  exact ⟨fun h => h.imp id Eq.symm, fun h => h.imp id Eq.symm⟩
end
end Go.Proofs.Ytaofnpnmgmieiaa
