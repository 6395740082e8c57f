/- Arguments laid open to cells: a slice whose elements are of one cell each. -/
import Derived.Test.YteannfenkmejjaaLaw
import Derived.Test.YteannfenkmejjaaArgs
namespace Go.Proofs.Yteannfenkmejjaa
open Go.RowKit Go.ChangeShapes Go.WideShapes Go.ChangeAt

section
variable {H : Type} {enc : TypeId × Value → H} {P : Program} {W : World}

theorem FieldIs.bool {t : TypeId} {v : Value} (h : FieldIs enc P W t v) (ht : P.underlying t = some .bool) : ∃ y, v = .bool y := by
  obtain ⟨m, y, hy⟩ := h
  obtain ⟨n, e, _⟩ := DataW.trod_bool ht hy
  exact ⟨n, by simpa using e⟩

/-- a slice whose elements are of one cell each. -/
theorem open_cells {r : Reach} {base : Nat} {t e : TypeId} {v : Value} {d : DataW H} {ps : List MemPlace} (ht : P.underlying t = some (.slice e)) (hC : P.cellsOf e = 1)
    (hv : Value.okWide P W r base t v) (h : DataW.Trod enc P W 0 (fun _ => true) true t v d ps) :
    ∃ (a : Option Addr) (len cap : Nat), v = .slice a len cap ∧ len ≤ maxLen ∧ (0 < len → ∃ b off, a = some ⟨b, off, none⟩ ∧ b < W.heap.size ∧
      ∀ i, i < len → ∃ u, W.cell? ⟨b, off + i, none⟩ = some u ∧ FieldIs enc P W e u) := by
  obtain ⟨a, len, cap, rfl⟩ := okWide_slice ht hv
  refine ⟨a, len, cap, rfl, ?_⟩
  obtain ⟨fuel, hf⟩ := h
  rcases Deep.open_slice ht hf with ⟨h0, _⟩ | ⟨a', len', cap', m, n, D, Pl, hcs, _, hl, hm, hmm, _, hi⟩
  · simp [Value.cells] at h0
    obtain ⟨_, rfl, _⟩ := h0
    exact ⟨Nat.zero_le _, fun h => absurd h (by omega)⟩
  · simp [Value.cells] at hcs
    obtain ⟨rfl, rfl, rfl⟩ := hcs
    refine ⟨by omega, fun hlen => ?_⟩
    simp only [if_true] at hmm
    subst hmm
    have key : ∀ i, i < len → ∃ u, W.cell? (a'.add i) = some u ∧ FieldIs enc P W e u := by
      intro i hil
      obtain ⟨cs', hc, ht'⟩ := hi i (by omega)
      rw [hC] at hc
      obtain ⟨_, hcl, hat⟩ := World.cells?_some hc
      have h1 := hat 0 (by omega)
      obtain ⟨u, rfl⟩ : ∃ u, cs' = [u] := by
        match cs', hcl with
        | [u], _ => exact ⟨u, rfl⟩
      refine ⟨u, ?_, _, _, ht'⟩
      rw [Deep.add_add] at h1
      simpa using h1
    obtain ⟨u0, hu0, _⟩ := key 0 hlen
    obtain ⟨b, off, spot⟩ := a'
    have hsp : spot = none := by simpa [Addr.add] using World.cell?_spot hu0
    subst hsp
    refine ⟨b, off, rfl, ?_, ?_⟩
    · have := World.block_lt_of_cell? W _ hu0
      simpa [Addr.add] using this
    · intro i hil
      obtain ⟨u, hu, hF⟩ := key i hil
      refine ⟨u, ?_, hF⟩
      rw [← hu]
      congr 1
      unfold Addr.add
      split <;> simp_all
end

end Go.Proofs.Yteannfenkmejjaa
