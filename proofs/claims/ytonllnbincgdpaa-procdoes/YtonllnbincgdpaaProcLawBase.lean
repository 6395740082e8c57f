/- Laws of layer 6: what several of them share: looking up who is there, the numbers of all, an act's table. -/
import Derived.Test.YtonllnbincgdpaaProcInv
import Derived.Test.YtonllnbincgdpaaProcShown
import Derived.Test.YtonllnbincgdpaaProcActs
namespace Go.Proofs.Ytonllnbincgdpaa
open Go.RowKit

theorem stG_two (y k : Int) (L : List PV) (g : Int) : (stN y k L g = 0 ∧ stG y k L g = g) ∨ (stN y k L g = g + 1 ∧ stG y k L g = g + 1) := by
  unfold stN stG
  split
  · unfold forkN forkG
    split
    · exact .inr ⟨rfl, rfl⟩
    · exact .inl ⟨rfl, rfl⟩
  · exact .inl ⟨rfl, rfl⟩

theorem TOk.step {L : List PV} {g : Int} (ho : TOk L g) (y k t u v : Int) (s : ByteArray) : TOk (stL y k t u v s L g) (stG y k L g) := by
  unfold stL stG
  split
  · exact ho.fork k
  split
  · exact ho.become k u v
  split
  · exact ho.exit k t
  split
  · exact ho.wait k
  split
  · exact ho.kill k
  split
  · exact ho.sleep k _
  · exact ho.wake _

section
variable {w : World} {p m : Nat} {L : List PV} {g : Int}

/-- who is there is looked up. -/
theorem get_in (hT : TabAt w p m L g) {q : PV} (hq : q ∈ L) : Calls Try.prog 15 #[.pointer (some ⟨p, 0, none⟩), .int .i64 q.pid] w fun e w' => e = .returned (.tuple #[q.val, .int .i64 0]) ∧ Below w.heap.size w w' := by
  have h1 := get_eq hT q.pid
  have hg := getL_of_mem hT.ok hq
  unfold getE at h1
  rw [atL_some hg, hg] at h1
  exact h1.mono (by rintro e w' ⟨h1, rfl⟩; exact ⟨h1, ((Below.refl _ _).alloc (Nat.le_refl _) _).alloc (by simp) _⟩)
theorem get_at (hT : TabAt w p m L g) {q : PV} {k : Int} (hq : getL L k = some q) : Calls Try.prog 15 #[.pointer (some ⟨p, 0, none⟩), .int .i64 k] w fun e w' => e = .returned (.tuple #[q.val, .int .i64 0]) ∧ Below w.heap.size w w' := by
  have h1 := get_eq hT k
  unfold getE at h1
  rw [atL_some hq, hq] at h1
  exact h1.mono (by rintro e w' ⟨h1, rfl⟩; exact ⟨h1, ((Below.refl _ _).alloc (Nat.le_refl _) _).alloc (by simp) _⟩)
theorem get_no (hT : TabAt w p m L g) {k : Int} (hq : getL L k = none) : Calls Try.prog 15 #[.pointer (some ⟨p, 0, none⟩), .int .i64 k] w fun e w' => e = .returned (.tuple #[PV.zero.val, .int .i64 60]) ∧ Below w.heap.size w w' := by
  have h1 := get_eq hT k
  unfold getE at h1
  rw [atL_none hq, hq] at h1
  exact h1.mono (by rintro e w' ⟨h1, rfl⟩; exact ⟨h1, ((Below.refl _ _).alloc (Nat.le_refl _) _).alloc (by simp) _⟩)

/-- the numbers of all: where the t-th lies. -/
theorem SlG.cell_at {n : Nat} {r cap len : Nat} {xs : List Int} (h : SlG w n (.slice (some ⟨r, 0, none⟩) len cap) xs) {t : Nat} {x : Int} (hx : xs[t]? = some x) : w.cell? ⟨r, t, none⟩ = some (.int .i64 x) := by
  obtain ⟨a, c, e, h⟩ := h
  have hl : t < xs.length := (List.getElem?_eq_some_iff.1 hx).1
  obtain ⟨r', cur, e1, h2, h3, h4⟩ := h (by omega)
  simp at e
  obtain ⟨rfl, rfl, rfl⟩ := e
  cases e1
  simp [World.cell?, h3]
  exact h4 t _ (by simp [hx, Go.encZ])
/-- a slice of numbers of which there are some. -/
theorem SlG.open {n : Nat} {v : Value} {xs : List Int} (h : SlG w n v xs) (h0 : 0 < xs.length) : ∃ r cap, v = .slice (some ⟨r, 0, none⟩) xs.length cap := by
  obtain ⟨a, c, e, h⟩ := h
  obtain ⟨r', cur, e1, h2, h3, h4⟩ := h h0
  exact ⟨r', c, by rw [e, e1]⟩
end

/-- an act, wherever it lies: what done makes of a table. -/
theorem PInv.pos {L : List PV} (h : PInv L) : 0 < L.length := by
  obtain ⟨q, hq, _⟩ := h.one
  exact List.length_pos_of_mem hq
theorem PInv.get1 {L : List PV} {g : Int} (h : PInv L) (ho : TOk L g) {q : PV} (hq : q ∈ L) (h1 : q.pid ≠ 1) : ∃ r, getL L q.par = some r ∧ (r.st == 3) = false := by
  obtain ⟨r, hr, e, hs⟩ := h.par q hq h1
  exact ⟨r, by rw [← e]; exact getL_of_mem ho hr, by simpa using hs⟩
end Go.Proofs.Ytonllnbincgdpaa
