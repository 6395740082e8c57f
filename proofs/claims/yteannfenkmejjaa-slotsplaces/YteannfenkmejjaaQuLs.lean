/- Lists of numbers (LsI: none, or cells in a block from lo on), for any stage; values as numbers, as texts. -/
import Derived.Test.YteannfenkmejjaaQuPure
import Derived.Laws.AppendOwnNone
import Derived.Maps.AppendAt
import Derived.OwnWalk
namespace Go.Proofs.Yteannfenkmejjaa
open Go.RowKit

abbrev encI (x : Int) : Value := (.int .i64 x)
abbrev encS (x : ByteArray) : Value := (.string x)
theorem Try.infoInt7 : (Try.prog.info? 3).map (fun i => (i.zero, i.size, i.bytes)) = some (some (.int .i64 0), 1, 8) := by kernel_rfl

/-- a list of numbers: none, or its cells lie in a block from lo on. -/
def LsI (w : World) (lo : Nat) (v : Value) (L : List Int) : Prop :=
  ∃ a cap, v = .slice a L.length cap ∧ (0 < L.length → ∃ r o, a = some ⟨r, o, none⟩ ∧ lo ≤ r ∧ r < w.heap.size ∧ ∀ j x, L[j]? = some x → w.cell? ⟨r, o + j, none⟩ = some (.int .i64 x))
section
variable {w w' : World} {lo q : Nat} {v : Value} {L : List Int}
theorem LsI.below (h : LsI w lo v L) (hb : Below w.heap.size w w') : LsI w' lo v L := by
  obtain ⟨a, cap, rfl, hc⟩ := h
  refine ⟨a, cap, rfl, fun h0 => ?_⟩
  obtain ⟨r, o, rfl, h1, h2, h3⟩ := hc h0
  exact ⟨r, o, rfl, h1, Nat.lt_of_lt_of_le h2 hb.size, fun j x hx => (hb.cell (p := ⟨r, o + j, none⟩) h2).trans (h3 j x hx)⟩
theorem LsI.tur (h : LsI w lo v L) (hb : Tur q w w') (hq : q < lo) : LsI w' lo v L := by
  obtain ⟨a, cap, rfl, hc⟩ := h
  refine ⟨a, cap, rfl, fun h0 => ?_⟩
  obtain ⟨r, o, rfl, h1, h2, h3⟩ := hc h0
  exact ⟨r, o, rfl, h1, Nat.lt_of_lt_of_le h2 hb.size, fun j x hx => (hb.cell h2 (by omega)).trans (h3 j x hx)⟩
theorem LsI.mono {lo' : Nat} (h : LsI w lo v L) (hl : lo' ≤ lo) : LsI w lo' v L := by
  obtain ⟨a, cap, rfl, hc⟩ := h
  refine ⟨a, cap, rfl, fun h0 => ?_⟩
  obtain ⟨r, o, e, h1, h2, h3⟩ := hc h0
  exact ⟨r, o, e, by omega, h2, h3⟩
theorem LsI.nil (w : World) (lo : Nat) : LsI w lo (.slice none 0 0) [] := ⟨none, 0, rfl, fun h => absurd h (by simp)⟩
theorem LsI.own {base n : Nat} (h : w.ownsRow base 3 1 v n (L.map encI)) (hn : n = L.length) : LsI w base v L := by
  subst hn
  rcases h.2 with ⟨rfl, h0⟩ | ⟨g, cap, cur, rfl, hb, hg, h1, h2, h3, h4⟩
  · exact ⟨none, 0, by rw [h0], fun c => by omega⟩
  · refine ⟨_, cap, rfl, fun _ => ⟨g, 0, rfl, hb, (Array.getElem?_eq_some_iff.1 hg).1, fun j x hx => ?_⟩⟩
    have hj : j < L.length := (List.getElem?_eq_some_iff.1 hx).1
    have := h.cells (g := g) rfl j (encI x) (by simp [hx])
    rw [Addr.add_mid] at this
    exact this
end
end Go.Proofs.Yteannfenkmejjaa
