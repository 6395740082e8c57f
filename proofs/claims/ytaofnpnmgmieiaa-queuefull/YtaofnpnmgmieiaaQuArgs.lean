/- Lists of numbers that came in, laid open. -/
import Derived.Test.YtaofnpnmgmieiaaLaw
import Derived.Test.YtaofnpnmgmieiaaCells
import Derived.Test.YtaofnpnmgmieiaaQuAll
namespace Go.Proofs.Ytaofnpnmgmieiaa
open Go.RowKit Go.ChangeShapes Go.WideShapes Go.ChangeAt

section
variable {H : Type} {enc : TypeId × Value → H} {W : World}
theorem slice_cap {P : Program} {t e : TypeId} {a : Option Addr} {len cap : Nat} {d : DataW H} {ps : List MemPlace} (ht : P.underlying t = some (.slice e)) (h : DataW.Trod enc P W 0 (fun _ => true) true t (.slice a len cap) d ps) : len ≤ cap := by
  obtain ⟨fuel, hf⟩ := h
  rcases Deep.open_slice ht hf with ⟨h0, _⟩ | ⟨a', len', cap', m, n, D, Pl, hcs, _, hl, _⟩
  · simp [Value.cells] at h0
    omega
  · simp [Value.cells] at hcs
    omega

set_option maxRecDepth 100000 in
theorem open_ints7 {r : Reach} {base : Nat} {v : Value} {d : DataW H} {ps : List MemPlace} (hv : Value.okWide Try.prog W r base 26 v) (h : DataW.Trod enc Try.prog W 0 (fun _ => true) true 26 v d ps) :
    ∃ (a : Option Addr) (cap : Nat) (X : List Int), v = .slice a X.length cap ∧ LsI W 0 (.slice a X.length cap) X ∧ X.length ≤ maxLen := by
  obtain ⟨a, len, cap, rfl, hlen, hcell⟩ := open_cells Try.underlying26 (by kernel_rfl) hv h
  by_cases h0 : 0 < len
  · obtain ⟨b, off, rfl, hb, hc⟩ := hcell h0
    have hx : ∀ i, i < len → ∃ x : Int, W.cell? ⟨b, off + i, none⟩ = some (.int .i64 x) := fun i hi => by
      obtain ⟨u, hu, hF⟩ := hc i hi
      obtain ⟨x, rfl, _⟩ := hF.int Try.underlying3
      exact ⟨x, hu⟩
    refine ⟨_, cap, (List.range len).map (fun i => if h : i < len then Classical.choose (hx i h) else 0), by simp, ⟨_, cap, rfl, fun _ => ⟨b, off, rfl, Nat.zero_le _, hb, fun j x hj => ?_⟩⟩, by simpa using hlen⟩
    have hjl : j < len := by have := (List.getElem?_eq_some_iff.1 hj).1; simpa using this
    simp [hjl] at hj
    rw [← hj]
    exact Classical.choose_spec (hx j hjl)
  · obtain rfl : len = 0 := by omega
    exact ⟨a, cap, [], rfl, ⟨a, cap, rfl, fun h => absurd h (by simp)⟩, Nat.zero_le _⟩
end

/-- the cells of a list that came in, behind whatever has been done since. -/
theorem LsI.arg {w : World} {a : Option Addr} {n cap lo : Nat} {X : List Int} (h : LsI w lo (.slice a n cap) X) (h0 : 0 < X.length) : ∃ b o, a = some ⟨b, o, none⟩ ∧ b < w.heap.size ∧ ∀ j x, X[j]? = some x → w.cell? ⟨b, o + j, none⟩ = some (.int .i64 x) := by
  obtain ⟨_, _, e, hc⟩ := h
  cases e
  obtain ⟨r, o, rfl, _, h2, h3⟩ := hc h0
  exact ⟨r, o, rfl, h2, h3⟩
end Go.Proofs.Ytaofnpnmgmieiaa
