/- A list of acts of layer 8 that came in, laid open to cells. -/
import Derived.Test.YtnkoahcneocgiaaLaw
import Derived.Test.YtnkoahcneocgiaaArgs
import Derived.Test.YtnkoahcneocgiaaCells
import Derived.Test.YtnkoahcneocgiaaRiText
namespace Go.Proofs.Ytnkoahcneocgiaa
open Go.RowKit Go.ChangeShapes Go.WideShapes Go.ChangeAt

/-- an act lies at b, o. -/
structure ActAt (w : World) (b o : Nat) (y : Bool) (s : ByteArray) (n : Int) : Prop where
  c0 : w.cell? ⟨b, o, none⟩ = some (.bool y)
  c1 : w.cell? ⟨b, o + 1, none⟩ = some (.string s)
  c2 : w.cell? ⟨b, o + 2, none⟩ = some (.int .i64 n)
  hs : s.size ≤ maxLen
  hn : small8 n

theorem ActAt.below {w w' : World} {b o : Nat} {y : Bool} {s : ByteArray} {n : Int} {B : Nat} (h : ActAt w b o y s n) (hb : Below B w w') (hlt : b < B) : ActAt w' b o y s n :=
  ⟨(hb.cell (p := ⟨b, o, none⟩) hlt).trans h.c0, (hb.cell (p := ⟨b, o + 1, none⟩) hlt).trans h.c1, (hb.cell (p := ⟨b, o + 2, none⟩) hlt).trans h.c2, h.hs, h.hn⟩

/-- acts: none, or they lie in one block that was there. -/
def ActsAt (w : World) (a : Option Addr) (len : Nat) : Prop :=
  len ≤ maxLen ∧ (0 < len → ∃ b off, a = some ⟨b, off, none⟩ ∧ b < w.heap.size ∧ ∀ i, i < len → ∃ (y : Bool) (s : ByteArray) (n : Int), ActAt w b (off + i * 3) y s n)

theorem wf_small {n : Int} (h : (Lit.int .i64 n).wf = true) : small8 n := by
  unfold small8
  simp [Lit.wf, IntKind.min, IntKind.max, IntKind.signed, IntKind.bits] at h
  omega

theorem open_acts {H : Type} {enc : TypeId × Value → H} {W : World} {r : Reach} {base : Nat} {v : Value} {d : DataW H} {ps : List MemPlace}
    (hv : Value.okWide Try.prog W r base 22 v) (h : DataW.Trod enc Try.prog W 0 (fun _ => true) true 22 v d ps) :
    ∃ (a : Option Addr) (len cap : Nat), v = .slice a len cap ∧ ActsAt W a len := by
  obtain ⟨a, len, cap, rfl, hlen, hh⟩ := open_rows Try.underlying22 Try.underlying29 (by kernel_rfl) (by kernel_rfl) (by decide) hv h
  refine ⟨a, len, cap, rfl, hlen, fun hpos => ?_⟩
  obtain ⟨b, off, rfl, hb, hc⟩ := hh hpos
  refine ⟨b, off, rfl, hb, fun i hi => ?_⟩
  obtain ⟨u0, e0, F0⟩ := hc i hi 0 _ rfl
  obtain ⟨u1, e1, F1⟩ := hc i hi 1 _ rfl
  obtain ⟨u2, e2, F2⟩ := hc i hi 2 _ rfl
  obtain ⟨y, rfl⟩ := F0.bool Try.underlying4
  obtain ⟨s, rfl, hs⟩ := F1.string Try.underlying9
  obtain ⟨n, rfl, hn⟩ := F2.int Try.underlying3
  exact ⟨y, s, n, e0, e1, e2, hs, wf_small hn⟩
end Go.Proofs.Ytnkoahcneocgiaa
