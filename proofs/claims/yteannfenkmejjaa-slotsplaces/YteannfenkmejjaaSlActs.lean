/- Acts of layer 11 (numbers, whether by place, a thing) that came in, laid open to cells. -/
import Derived.Test.YteannfenkmejjaaLaw
import Derived.Test.YteannfenkmejjaaArgs
import Derived.Test.YteannfenkmejjaaCells
namespace Go.Proofs.Yteannfenkmejjaa
open Go.RowKit Go.ChangeShapes Go.WideShapes Go.ChangeAt

/-- an act lies at b, o. -/
structure ActAt (w : World) (b o : Nat) (d k : Int) (pl : Bool) (z : Int) : Prop where
  c0 : w.cell? ⟨b, o, none⟩ = some (.int .i64 d)
  c1 : w.cell? ⟨b, o + 1, none⟩ = some (.int .i64 k)
  c2 : w.cell? ⟨b, o + 2, none⟩ = some (.bool pl)
  c3 : w.cell? ⟨b, o + 3, none⟩ = some (.int .i64 z)
theorem ActAt.below {w w' : World} {b o : Nat} {d k z : Int} {pl : Bool} {B : Nat} (h : ActAt w b o d k pl z) (hb : Below B w w') (hlt : b < B) : ActAt w' b o d k pl z :=
  ⟨(hb.cell (p := ⟨b, o, none⟩) hlt).trans h.c0, (hb.cell (p := ⟨b, o + 1, none⟩) hlt).trans h.c1, (hb.cell (p := ⟨b, o + 2, none⟩) hlt).trans h.c2, (hb.cell (p := ⟨b, o + 3, none⟩) hlt).trans h.c3⟩
/-- acts: none, or they lie in one block that was there. -/
def ActsAt (w : World) (a : Option Addr) (len : Nat) : Prop :=
  len ≤ maxLen ∧ (0 < len → ∃ b off, a = some ⟨b, off, none⟩ ∧ b < w.heap.size ∧ ∀ i, i < len → ∃ (d k : Int) (pl : Bool) (z : Int), ActAt w b (off + i * 4) d k pl z)
section
variable {H : Type} {enc : TypeId × Value → H} {W : World}
set_option maxRecDepth 100000 in
theorem open_acts {r : Reach} {base : Nat} {v : Value} {d : DataW H} {ps : List MemPlace}
    (hv : Value.okWide Try.prog W r base 22 v) (h : DataW.Trod enc Try.prog W 0 (fun _ => true) true 22 v d ps) :
    ∃ (a : Option Addr) (len cap : Nat), v = .slice a len cap ∧ ActsAt W a len := by
  obtain ⟨a, len, cap, rfl, hlen, hh⟩ := open_rows Try.underlying22 Try.underlying32 (by kernel_rfl) (by kernel_rfl) (by decide) hv h
  refine ⟨a, len, cap, rfl, hlen, fun hpos => ?_⟩
  obtain ⟨b, off, rfl, hb, hc⟩ := hh hpos
  refine ⟨b, off, rfl, hb, fun i hi => ?_⟩
  obtain ⟨u0, e0, F0⟩ := hc i hi 0 _ rfl
  obtain ⟨u1, e1, F1⟩ := hc i hi 1 _ rfl
  obtain ⟨u2, e2, F2⟩ := hc i hi 2 _ rfl
  obtain ⟨u3, e3, F3⟩ := hc i hi 3 _ rfl
  obtain ⟨d, rfl, _⟩ := F0.int Try.underlying3
  obtain ⟨k, rfl, _⟩ := F1.int Try.underlying3
  obtain ⟨pl, rfl⟩ := F2.bool Try.underlying4
  obtain ⟨z, rfl, _⟩ := F3.int Try.underlying3
  exact ⟨d, k, pl, z, e0, e1, e2, e3⟩
end

theorem mod6 (d : Int) : ∃ y : Nat, y < 6 ∧ (IntKind.u64.wrap d).tmod 6 = (y : Int) := by
  have h0 := wrap_u64_nonneg d
  generalize IntKind.u64.wrap d = y at *
  have h1 : 0 ≤ y.tmod 6 := Int.tmod_nonneg _ h0
  have h2 : y.tmod 6 < 6 := Int.tmod_lt_of_pos _ (by omega)
  exact ⟨(y.tmod 6).toNat, by omega, by omega⟩

theorem six (d : Int) (y : Nat) (h : (IntKind.u64.wrap d).tmod 6 = (y : Int)) : ((IntKind.u64.wrap d).tmod 6 == 0) = decide (y = 0) ∧ ((IntKind.u64.wrap d).tmod 6 == 1) = decide (y = 1) ∧ ((IntKind.u64.wrap d).tmod 6 == 2) = decide (y = 2) ∧ ((IntKind.u64.wrap d).tmod 6 == 3) = decide (y = 3) ∧ ((IntKind.u64.wrap d).tmod 6 == 4) = decide (y = 4) ∧ ((IntKind.u64.wrap d).tmod 6 == 5) = decide (y = 5) := by
  rw [h]
  refine ⟨?_, ?_, ?_, ?_, ?_, ?_⟩ <;> rw [Bool.eq_iff_iff] <;> simp <;> omega
end Go.Proofs.Yteannfenkmejjaa
