/- A list of numbers that is owned, and is not empty: where it lies. -/
import Derived.Test.YtkcoeibbmfkjlaaPtLists
namespace Go.Proofs.Ytkcoeibbmfkjlaa
open Go.RowKit

theorem ListAt.row {w : World} {a : Option Addr} {n cap : Nat} {xs : List Nat} (h : ListAt w (.slice a n cap) xs) (h0 : 0 < xs.length) : ∃ b, a = some ⟨b, 0, none⟩ ∧ ∀ j, j < xs.length → w.cell? ⟨b, j, none⟩ = some (.int .i64 ((xs[j]?.getD 0 : Nat) : Int)) := by
  rcases h with ⟨_, rfl⟩ | ⟨b, cap', e, hc⟩
  · simp at h0
  · injection e with e1 _ _
    exact ⟨b, e1, hc⟩

end Go.Proofs.Ytkcoeibbmfkjlaa
