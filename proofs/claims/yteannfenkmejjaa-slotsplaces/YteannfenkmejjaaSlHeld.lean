/- Layer 11, plainly: which slots the first of a list of numbers are of. No program in it. -/
import Derived.Test.YteannfenkmejjaaSlFind
namespace Go.Proofs.Yteannfenkmejjaa

/-- eight marks: of the first k numbers, whose slots there are. -/
def heldK (ids : List Int) (k : Nat) : List Bool := (List.range 8).map fun (j : Nat) => (ids.take k).any fun x => x % 8 == (j : Int)
theorem heldK_len (ids : List Int) (k : Nat) : (heldK ids k).length = 8 := by simp [heldK]
theorem heldK_at {ids : List Int} {k j : Nat} (hj : j < 8) : (heldK ids k)[j]? = some ((ids.take k).any fun x => x % 8 == (j : Int)) := by
  unfold heldK
  rw [List.getElem?_map, List.getElem?_range hj]
  rfl
theorem heldK_zero (ids : List Int) : heldK ids 0 = [false, false, false, false, false, false, false, false] := by
  unfold heldK
  simp [List.range, List.range.loop]
theorem heldK_next {ids : List Int} {k i : Nat} {x : Int} (hx : ids[k]? = some x) (hi : i < 8) (hm : x % 8 = (i : Int)) : (heldK ids k).set i true = heldK ids (k + 1) := by
  apply List.ext_getElem?
  intro j
  by_cases hj : j < 8
  · rw [heldK_at hj, List.getElem?_set]
    have ht : ids.take (k + 1) = ids.take k ++ [x] := by rw [List.take_add_one, hx]; rfl
    rw [ht, List.any_append]
    by_cases c : i = j
    · subst c
      rw [if_pos rfl, if_pos (by rw [heldK_len]; exact hi)]
      simp [hm]
    · rw [if_neg c, heldK_at hj]
      have : (x % 8 == (j : Int)) = false := by rw [beq_eq_false_iff_ne, hm]; omega
      simp [this]
  · rw [List.getElem?_eq_none (by rw [List.length_set, heldK_len]; omega), List.getElem?_eq_none (by rw [heldK_len]; omega)]
section
variable {α : Type} {L : SlT α} {k i : Nat} {x : Int}
theorem ids_low : ∀ n, n ≤ 8 → ∀ x ∈ idsU L n, 0 ≤ x ∧ x % 8 < (n : Int)
  | 0, _, x, h => by rw [idsU_zero] at h; cases h
  | n + 1, hn, x, h => by
    by_cases c : hasS L n = true
    · rw [idsU_yes c] at h
      rcases List.mem_append.1 h with h | h
      · have := ids_low n (by omega) x h
        omega
      · simp at h
        subst h
        unfold idS
        omega
    · rw [idsU_no (by simpa using c)] at h
      have := ids_low n (by omega) x h
      omega
/-- a later number is of a later slot. -/
theorem ids_rise : ∀ n, n ≤ 8 → (idsU L n).Pairwise fun x y => x % 8 < y % 8
  | 0, _ => by rw [idsU_zero]; exact List.Pairwise.nil
  | n + 1, hn => by
    by_cases c : hasS L n = true
    · rw [idsU_yes c, List.pairwise_append]
      refine ⟨ids_rise n (by omega), List.pairwise_singleton _ _, fun x hx y hy => ?_⟩
      have h1 := ids_low n (by omega) x hx
      simp at hy
      subst hy
      have := idS_mod n (seqS L n) (by omega)
      omega
    · rw [idsU_no (by simpa using c)]
      exact ids_rise n (by omega)
theorem idsL_low (h : x ∈ idsL L) : 0 ≤ x ∧ x % 8 < 8 := ids_low 8 (by omega) x h
/-- no number ahead of the k-th is of its slot. -/
theorem held_no (hx : (idsL L)[k]? = some x) (hi : i < 8) (hm : x % 8 = (i : Int)) : (heldK (idsL L) k)[i]? = some false := by
  rw [heldK_at hi]
  congr 1
  rw [List.any_eq_false]
  intro y hy
  obtain ⟨a, ha, rfl⟩ := List.mem_iff_getElem.1 hy
  rw [List.length_take] at ha
  obtain ⟨hk, hkx⟩ := List.getElem?_eq_some_iff.1 hx
  have h := List.pairwise_iff_getElem.1 (ids_rise (L := L) 8 (by omega)) a k (by show a < (idsL L).length; omega) hk (by omega)
  rw [List.getElem_take]
  have h' : (idsL L)[a] % 8 < (idsL L)[k] % 8 := h
  rw [hkx] at h'
  simp
  omega
/-- behind all of them the marks are whether there are things. -/
theorem held_all (hi : i < 8) : (heldK (idsL L) (idsL L).length)[i]? = some (hasS L i) := by
  rw [heldK_at hi]
  congr 1
  rw [List.take_length, Bool.eq_iff_iff, List.any_eq_true]
  constructor
  · rintro ⟨y, hy, e⟩
    obtain ⟨j, hj, hh, rfl⟩ := mem_idsL hy
    have := idS_mod j (seqS L j) hj
    rw [beq_iff_eq] at e
    have : j = i := by omega
    subst this
    exact hh
  · intro h
    refine ⟨idS i (seqS L i), ?_, by rw [idS_mod i _ hi]; simp⟩
    unfold idsL
    rw [List.mem_filterMap]
    exact ⟨i, List.mem_range.2 hi, by rw [if_pos h]⟩
end
end Go.Proofs.Yteannfenkmejjaa
