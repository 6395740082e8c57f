/- A list of acts of layer 7 that came in, laid open to cells. -/
import Derived.Test.YtaofnpnmgmieiaaLaw
import Derived.Test.YtaofnpnmgmieiaaArgs
namespace Go.Proofs.Ytaofnpnmgmieiaa
open Go.RowKit Go.ChangeShapes Go.WideShapes Go.ChangeAt

/-- an act lies at b, o. -/
structure ActAt (w : World) (b o : Nat) (d n : Int) : Prop where
  c0 : w.cell? ⟨b, o, none⟩ = some (.int .i64 d)
  c1 : w.cell? ⟨b, o + 1, none⟩ = some (.int .i64 n)

theorem ActAt.below {w w' : World} {b o : Nat} {d n : Int} {B : Nat} (h : ActAt w b o d n) (hb : Below B w w') (hlt : b < B) : ActAt w' b o d n :=
  ⟨(hb.cell (p := ⟨b, o, none⟩) hlt).trans h.c0, (hb.cell (p := ⟨b, o + 1, none⟩) hlt).trans h.c1⟩

/-- acts: none, or they lie in one block that was there. -/
def ActsAt (w : World) (a : Option Addr) (len : Nat) : Prop :=
  len ≤ maxLen ∧ (0 < len → ∃ b off, a = some ⟨b, off, none⟩ ∧ b < w.heap.size ∧ ∀ i, i < len → ∃ (d n : Int), ActAt w b (off + i * 2) d n)

theorem open_acts {H : Type} {enc : TypeId × Value → H} {W : World} {r : Reach} {base : Nat} {v : Value} {d : DataW H} {ps : List MemPlace}
    (hv : Value.okWide Try.prog W r base 22 v) (h : DataW.Trod enc Try.prog W 0 (fun _ => true) true 22 v d ps) :
    ∃ (a : Option Addr) (len cap : Nat), v = .slice a len cap ∧ ActsAt W a len := by
  obtain ⟨a, len, cap, rfl, hlen, hh⟩ := open_rows Try.underlying22 Try.underlying30 (by kernel_rfl) (by kernel_rfl) (by decide) hv h
  refine ⟨a, len, cap, rfl, hlen, fun hpos => ?_⟩
  obtain ⟨b, off, rfl, hb, hc⟩ := hh hpos
  refine ⟨b, off, rfl, hb, fun i hi => ?_⟩
  obtain ⟨u0, e0, F0⟩ := hc i hi 0 _ rfl
  obtain ⟨u1, e1, F1⟩ := hc i hi 1 _ rfl
  obtain ⟨a0, rfl, _⟩ := F0.int Try.underlying3
  obtain ⟨a1, rfl, _⟩ := F1.int Try.underlying3
  exact ⟨a0, a1, e0, e1⟩

theorem mod4 (d : Int) : ((IntKind.u64.wrap d).tmod 4 == 0) = true ∨ (((IntKind.u64.wrap d).tmod 4 == 0) = false ∧ ((IntKind.u64.wrap d).tmod 4 == 1) = true) ∨ (((IntKind.u64.wrap d).tmod 4 == 0) = false ∧ ((IntKind.u64.wrap d).tmod 4 == 1) = false ∧ ((IntKind.u64.wrap d).tmod 4 == 2) = true) ∨ (((IntKind.u64.wrap d).tmod 4 == 0) = false ∧ ((IntKind.u64.wrap d).tmod 4 == 1) = false ∧ ((IntKind.u64.wrap d).tmod 4 == 2) = false ∧ ((IntKind.u64.wrap d).tmod 4 == 3) = true) := by
  have h0 := wrap_u64_nonneg d
  generalize IntKind.u64.wrap d = y at *
  have h1 : 0 ≤ y.tmod 4 := Int.tmod_nonneg _ h0
  have h2 : y.tmod 4 < 4 := Int.tmod_lt_of_pos _ (by omega)
  generalize y.tmod 4 = z at *
  simp only [beq_iff_eq, beq_eq_false_iff_ne]
  omega
end Go.Proofs.Ytaofnpnmgmieiaa
