/- A list of acts of layer 1 that came in, laid open to cells. -/
import Derived.Test.YtgbgjnhdoedboaaLaw
import Derived.Test.YtgbgjnhdoedboaaArgs
namespace Go.Proofs.Ytgbgjnhdoedboaa
open Go.RowKit Go.ChangeShapes Go.WideShapes Go.ChangeAt

/-- an act lies at b, o. -/
structure ActAt (w : World) (b o : Nat) (d f a n : Int) (s : ByteArray) : Prop where
  c0 : w.cell? ⟨b, o, none⟩ = some (.int .i64 d)
  c1 : w.cell? ⟨b, o + 1, none⟩ = some (.int .i64 f)
  c2 : w.cell? ⟨b, o + 2, none⟩ = some (.int .i64 a)
  c3 : w.cell? ⟨b, o + 3, none⟩ = some (.int .i64 n)
  c4 : w.cell? ⟨b, o + 4, none⟩ = some (.string s)
  hs : s.size ≤ maxLen

theorem ActAt.below {w w' : World} {b o : Nat} {d f a n : Int} {s : ByteArray} {B : Nat} (h : ActAt w b o d f a n s) (hb : Below B w w') (hlt : b < B) : ActAt w' b o d f a n s :=
  ⟨(hb.cell (p := ⟨b, o, none⟩) hlt).trans h.c0, (hb.cell (p := ⟨b, o + 1, none⟩) hlt).trans h.c1, (hb.cell (p := ⟨b, o + 2, none⟩) hlt).trans h.c2, (hb.cell (p := ⟨b, o + 3, none⟩) hlt).trans h.c3, (hb.cell (p := ⟨b, o + 4, none⟩) hlt).trans h.c4, h.hs⟩

/-- acts: none, or they lie in one block that was there. -/
def ActsAt (w : World) (a : Option Addr) (len : Nat) : Prop :=
  len ≤ maxLen ∧ (0 < len → ∃ b off, a = some ⟨b, off, none⟩ ∧ b < w.heap.size ∧ ∀ i, i < len → ∃ (d f x n : Int) (s : ByteArray), ActAt w b (off + i * 5) d f x n s)

theorem open_acts {H : Type} {enc : TypeId × Value → H} {W : World} {r : Reach} {base : Nat} {v : Value} {d : DataW H} {ps : List MemPlace}
    (hv : Value.okWide Try.prog W r base 22 v) (h : DataW.Trod enc Try.prog W 0 (fun _ => true) true 22 v d ps) :
    ∃ (a : Option Addr) (len cap : Nat), v = .slice a len cap ∧ ActsAt W a len := by
  obtain ⟨a, len, cap, rfl, hlen, hh⟩ := open_rows Try.underlying22 Try.underlying33 (by kernel_rfl) (by kernel_rfl) (by decide) hv h
  refine ⟨a, len, cap, rfl, hlen, fun hpos => ?_⟩
  obtain ⟨b, off, rfl, hb, hc⟩ := hh hpos
  refine ⟨b, off, rfl, hb, fun i hi => ?_⟩
  obtain ⟨u0, e0, F0⟩ := hc i hi 0 _ rfl
  obtain ⟨u1, e1, F1⟩ := hc i hi 1 _ rfl
  obtain ⟨u2, e2, F2⟩ := hc i hi 2 _ rfl
  obtain ⟨u3, e3, F3⟩ := hc i hi 3 _ rfl
  obtain ⟨u4, e4, F4⟩ := hc i hi 4 _ rfl
  obtain ⟨a0, rfl, _⟩ := F0.int Try.underlying3
  obtain ⟨a1, rfl, _⟩ := F1.int Try.underlying3
  obtain ⟨a2, rfl, _⟩ := F2.int Try.underlying3
  obtain ⟨a3, rfl, _⟩ := F3.int Try.underlying3
  obtain ⟨s, rfl, hs⟩ := F4.string Try.underlying9
  exact ⟨a0, a1, a2, a3, s, e0, e1, e2, e3, e4, hs⟩

end Go.Proofs.Ytgbgjnhdoedboaa
