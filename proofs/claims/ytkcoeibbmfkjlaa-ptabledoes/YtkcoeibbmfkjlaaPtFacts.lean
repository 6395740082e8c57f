/- Page tables: what mapping and unmapping make of the pages: plain facts. -/
import Derived.Test.YtkcoeibbmfkjlaaPtShown
namespace Go.Proofs.Ytkcoeibbmfkjlaa
open Go.RowKit

theorem mapS_E (n root : Nat) (S : PtS) (page fr fl : Int) :
    ((mapS n root S page fr fl).1 ≠ 0 ∧ (mapS n root S page fr fl).2 = S) ∨
    ((mapS n root S page fr fl).1 = 0 ∧ belowB 256 page = true ∧ belowB 256 fr = true ∧ flagB fl = true ∧ S.E page.toNat = (0, 0) ∧ (mapS n root S page fr fl).2.E = updE S.E page.toNat (fl.toNat, fr.toNat)) := by
  unfold mapS
  split
  case isFalse => exact .inl ⟨by simp, rfl⟩
  rename_i hp
  split
  case isFalse => exact .inl ⟨by simp, rfl⟩
  rename_i hf
  split
  case isFalse => exact .inl ⟨by simp, rfl⟩
  rename_i hl
  split
  case isFalse => exact .inl ⟨by simp, rfl⟩
  rename_i hE
  split
  · split
    · exact .inl ⟨by simp, rfl⟩
    · exact .inr ⟨rfl, hp, hf, hl, hE, rfl⟩
  · exact .inr ⟨rfl, hp, hf, hl, hE, rfl⟩

theorem unmapS_E (root : Nat) (S : PtS) (page : Int) :
    ((unmapS root S page).2.1 ≠ 0 ∧ (unmapS root S page).2.2 = S) ∨
    ((unmapS root S page).2.1 = 0 ∧ belowB 256 page = true ∧ S.E page.toNat ≠ (0, 0) ∧ (unmapS root S page).2.2.E = updE S.E page.toNat (0, 0)) := by
  unfold unmapS
  split
  case isFalse => exact .inl ⟨by simp, rfl⟩
  rename_i hp
  split
  · exact .inl ⟨by simp, rfl⟩
  rename_i hE
  split
  · exact .inr ⟨rfl, hp, hE, rfl⟩
  · exact .inr ⟨rfl, hp, hE, rfl⟩

/-- walking to another page. -/
theorem wk_upd {E : Nat → Nat × Nat} {page other : Int} {e : Nat × Nat} (hp : belowB 256 page = true) (hne : page ≠ other) :
    wkT (updE E page.toNat e) other = wkT E other ∧ wkF (updE E page.toNat e) other = wkF E other ∧ wkE (updE E page.toNat e) other = wkE E other := by
  unfold wkT wkF wkE
  cases ho : belowB 256 other with
  | false => exact ⟨rfl, rfl, rfl⟩
  | true =>
    have h1 := below_toNat hp
    have h2 := below_toNat ho
    rw [updE_other _ _ (show other.toNat ≠ page.toNat by omega)]
    exact ⟨rfl, rfl, rfl⟩
theorem map_other (n root : Nat) (S : PtS) (page fr fl other : Int) (hne : page ≠ other) :
    wkT (mapS n root S page fr fl).2.E other = wkT S.E other ∧ wkF (mapS n root S page fr fl).2.E other = wkF S.E other ∧ wkE (mapS n root S page fr fl).2.E other = wkE S.E other := by
  rcases mapS_E n root S page fr fl with ⟨_, h⟩ | ⟨_, hp, _, _, _, h⟩
  · rw [h]; exact ⟨rfl, rfl, rfl⟩
  · rw [h]; exact wk_upd hp hne
theorem unmap_other (root : Nat) (S : PtS) (page other : Int) (hne : page ≠ other) :
    wkT (unmapS root S page).2.2.E other = wkT S.E other ∧ wkF (unmapS root S page).2.2.E other = wkF S.E other ∧ wkE (unmapS root S page).2.2.E other = wkE S.E other := by
  rcases unmapS_E root S page with ⟨_, h⟩ | ⟨_, hp, _, h⟩
  · rw [h]; exact ⟨rfl, rfl, rfl⟩
  · rw [h]; exact wk_upd hp hne
theorem map_same {n root : Nat} {S : PtS} {page fr fl : Int} (h0 : (mapS n root S page fr fl).1 = 0) :
    wkT (mapS n root S page fr fl).2.E page = fr ∧ wkF (mapS n root S page fr fl).2.E page = fl ∧ wkE (mapS n root S page fr fl).2.E page = 0 := by
  rcases mapS_E n root S page fr fl with ⟨h, _⟩ | ⟨_, hp, hf, hl, _, h⟩
  · exact absurd h0 h
  · rw [h]
    have h1 := below_toNat hf
    have h2 := flag_nat hl
    have h3 := flag_lt hl
    unfold wkT wkF wkE
    rw [if_pos hp, if_pos hp, if_pos hp, updE_same]
    refine ⟨h1.1, h2, ?_⟩
    rw [if_neg]
    intro c
    have := congrArg Prod.fst c
    simp at this
    omega

/-- many acts. -/
theorem S_keep {w w' : World} {p g n : Nat} {S : PtS} (h : S.at w p g n) (hb : Below w.heap.size w w') : S.at w' p g n := MemAt.below h hb

/-- the pages behind mapping and unmapping. -/
theorem pages_mem {E : Nat → Nat × Nat} {q : Nat} : q ∈ pagesL E ↔ q < 256 ∧ E q ≠ (0, 0) := by
  unfold pagesL
  rw [List.mem_filter, List.mem_range]
  simp
theorem pages_len_le (E : Nat → Nat × Nat) : (pagesL E).length ≤ 256 := by
  have := List.length_filter_le (fun q => decide (E q ≠ (0, 0))) (List.range 256)
  rw [List.length_range] at this
  exact this
theorem filter_len_one (P Q : Nat → Bool) (q : Nat) (hq : P q = false) (hq' : Q q = true) (h : ∀ x, x ≠ q → P x = Q x) : ∀ l : List Nat, l.Nodup → q ∈ l → (l.filter Q).length = (l.filter P).length + 1
  | [], _, hm => by cases hm
  | x :: l, hn, hm => by
    rw [List.nodup_cons] at hn
    by_cases c : x = q
    · subst c
      rw [List.filter_cons_of_pos hq', List.filter_cons_of_neg (by simp [hq]), List.length_cons]
      have : l.filter Q = l.filter P := List.filter_congr fun y hy => (h y (fun e => hn.1 (e ▸ hy))).symm
      rw [this]
    · have ih := filter_len_one P Q q hq hq' h l hn.2 ((List.mem_cons.1 hm).resolve_left (fun e => c e.symm))
      cases cp : P x
      · have cq : Q x = false := (h x c).symm.trans cp
        rw [List.filter_cons_of_neg (by simp [cq]), List.filter_cons_of_neg (by simp [cp])]; exact ih
      · have cq : Q x = true := (h x c).symm.trans cp
        rw [List.filter_cons_of_pos cq, List.filter_cons_of_pos cp, List.length_cons, List.length_cons]; omega
theorem pages_map_len {n root : Nat} {S : PtS} {page fr fl : Int} (h0 : (mapS n root S page fr fl).1 = 0) : (pagesL (mapS n root S page fr fl).2.E).length = (pagesL S.E).length + 1 := by
  rcases mapS_E n root S page fr fl with ⟨h, _⟩ | ⟨_, hp, hf, hl, hE, h⟩
  · exact absurd h0 h
  · rw [h]
    have h1 := below_toNat hp
    have h3 := flag_lt hl
    refine filter_len_one _ _ page.toNat (by simp [hE]) ?_ ?_ _ List.nodup_range (List.mem_range.2 (by omega))
    · simp only [updE_same, decide_eq_true_eq]
      intro c
      have := congrArg Prod.fst c
      simp at this
      omega
    · intro x hx
      rw [updE_other _ _ hx]

/-- tables are there just where a page of theirs is. -/
theorem tab_iff {n root : Nat} {S : PtS} (h : S.ok n root) {i : Nat} (hi : i < 16) : S.T i ≠ (0, 0) ↔ ∃ j, j < 16 ∧ S.E (16 * i + j) ≠ (0, 0) := by
  constructor
  · intro hT; exact (Rep.tb h i hi hT).2.2.2.2
  · rintro ⟨j, hj, hE⟩ c
    exact hE (Rep.e0 h i j hi hj c)

theorem left_none {n : Nat} {R : Nat → Int} (h : ∀ k, k < n → R k = 0) : leftN n R = n := by
  unfold leftN freeL
  rw [List.filter_eq_self.2, List.length_range]
  intro k hk
  rw [h k (List.mem_range.1 hk)]
  rfl

end Go.Proofs.Ytkcoeibbmfkjlaa
