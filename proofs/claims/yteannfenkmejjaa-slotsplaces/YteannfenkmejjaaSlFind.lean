/- Layer 11, plainly: the first of eight that meets a test, found one by one; the numbers, gathered one by one. No program in it. -/
import Derived.Test.YteannfenkmejjaaSlPure
namespace Go.Proofs.Yteannfenkmejjaa

theorem find_range {p : Nat → Bool} : ∀ (n i : Nat), i < n → p i = true → (∀ k, k < i → p k = false) → (List.range n).find? p = some i
  | 0, i, h, _, _ => by omega
  | n + 1, i, h, hp, hno => by
    rw [List.range_succ, List.find?_append]
    by_cases c : i < n
    · rw [find_range n i c hp hno]; rfl
    · have : i = n := by omega
      subst this
      rw [List.find?_eq_none.2 (fun x hx => by have := hno x (List.mem_range.1 hx); simp [this])]
      simp [hp]
theorem find_none {p : Nat → Bool} {n : Nat} (hno : ∀ k, k < n → p k = false) : (List.range n).find? p = none :=
  List.find?_eq_none.2 (fun x hx => by have := hno x (List.mem_range.1 hx); simp [this])
section
variable {α : Type} {L : SlT α} {i : Nat} {id : Int}
theorem atS_first (hi : i < 8) (h1 : hasS L i = true) (h2 : idS i (seqS L i) = id) (hno : ∀ k, k < i → (hasS L k && idS k (seqS L k) == id) = false) : atS L id = some i :=
  find_range 8 i hi (by rw [h1, h2]; simp) hno
theorem atS_none (hno : ∀ k, k < 8 → (hasS L k && idS k (seqS L k) == id) = false) : atS L id = none := find_none hno
theorem freeS_first (hi : i < 8) (h1 : hasS L i = false) (hno : ∀ k, k < i → hasS L k = true) : freeS L = some i :=
  find_range 8 i hi (by rw [h1]; rfl) (fun k hk => by rw [hno k hk]; rfl)
theorem freeS_none (hno : ∀ k, k < 8 → hasS L k = true) : freeS L = none := find_none (fun k hk => by rw [hno k hk]; rfl)
/-- the numbers of the first n slots. -/
def idsU (L : SlT α) (n : Nat) : List Int := (List.range n).filterMap fun i => if hasS L i then some (idS i (seqS L i)) else none
theorem idsU_zero : idsU L 0 = [] := rfl
theorem idsU_eight : idsU L 8 = idsL L := rfl
theorem idsU_yes (h : hasS L i = true) : idsU L (i + 1) = idsU L i ++ [idS i (seqS L i)] := by
  unfold idsU
  rw [List.range_succ, List.filterMap_append]
  simp [h]
theorem idsU_no (h : hasS L i = false) : idsU L (i + 1) = idsU L i := by
  unfold idsU
  rw [List.range_succ, List.filterMap_append]
  simp [h]
theorem idsU_len (n : Nat) : (idsU L n).length ≤ n := by
  unfold idsU
  have := List.length_filterMap_le (fun i => if hasS L i then some (idS i (seqS L i)) else none) (List.range n)
  simpa using this
/-- a number that is there: which slot it is of. -/
theorem mem_idsL {x : Int} (h : x ∈ idsL L) : ∃ i, i < 8 ∧ hasS L i = true ∧ x = idS i (seqS L i) := by
  unfold idsL at h
  rw [List.mem_filterMap] at h
  obtain ⟨i, hi, hx⟩ := h
  refine ⟨i, List.mem_range.1 hi, ?_⟩
  by_cases c : hasS L i = true
  · rw [if_pos c] at hx; exact ⟨c, (Option.some.inj hx).symm⟩
  · rw [if_neg c] at hx; cases hx
theorem idS_mod (i q : Nat) (hi : i < 8) : (idS i q) % 8 = (i : Int) := by unfold idS; omega
theorem idS_nonneg (i q : Nat) : 0 ≤ idS i q := by unfold idS; omega
theorem idS_lt (i q : Nat) (hi : i < 8) (hq : q < 4096) : idS i q < 32768 := by unfold idS; omega
end
end Go.Proofs.Yteannfenkmejjaa
