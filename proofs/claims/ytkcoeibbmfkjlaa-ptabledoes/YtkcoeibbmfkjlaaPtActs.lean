/- Acts of layer 2 that came in, laid open to cells. -/
import Derived.Test.YtkcoeibbmfkjlaaLaw
import Derived.Test.YtkcoeibbmfkjlaaArgs
namespace Go.Proofs.Ytkcoeibbmfkjlaa
open Go.RowKit Go.ChangeShapes Go.WideShapes Go.ChangeAt

/-- an act lies at b, o. -/
structure ActAt (w : World) (b o : Nat) (d pg fr fl : Int) : Prop where
  c0 : w.cell? ⟨b, o, none⟩ = some (.int .i64 d)
  c1 : w.cell? ⟨b, o + 1, none⟩ = some (.int .i64 pg)
  c2 : w.cell? ⟨b, o + 2, none⟩ = some (.int .i64 fr)
  c3 : w.cell? ⟨b, o + 3, none⟩ = some (.int .i64 fl)
  h0 : -9223372036854775808 ≤ fl
  h1 : fl < 9223372036854775808

theorem ActAt.below {w w' : World} {b o : Nat} {d pg fr fl : Int} {B : Nat} (h : ActAt w b o d pg fr fl) (hb : Below B w w') (hlt : b < B) : ActAt w' b o d pg fr fl :=
  ⟨(hb.cell (p := ⟨b, o, none⟩) hlt).trans h.c0, (hb.cell (p := ⟨b, o + 1, none⟩) hlt).trans h.c1, (hb.cell (p := ⟨b, o + 2, none⟩) hlt).trans h.c2, (hb.cell (p := ⟨b, o + 3, none⟩) hlt).trans h.c3, h.h0, h.h1⟩

/-- acts: none, or they lie in one block that was there. -/
def ActsAt (w : World) (a : Option Addr) (len : Nat) : Prop :=
  len ≤ maxLen ∧ (0 < len → ∃ b off, a = some ⟨b, off, none⟩ ∧ b < w.heap.size ∧ ∀ i, i < len → ∃ d pg fr fl : Int, ActAt w b (off + i * 4) d pg fr fl)

theorem wf_i64 {n : Int} (h : (Lit.int .i64 n).wf = true) : -9223372036854775808 ≤ n ∧ n < 9223372036854775808 := by
  have e1 : IntKind.i64.min = -9223372036854775808 := by decide
  have e2 : IntKind.i64.max = 9223372036854775807 := by decide
  simp [Lit.wf, e1, e2] at h
  omega

set_option maxRecDepth 100000 in
theorem open_acts {H : Type} {enc : TypeId × Value → H} {W : World} {r : Reach} {base : Nat} {v : Value} {d : DataW H} {ps : List MemPlace}
    (hv : Value.okWide Try.prog W r base 22 v) (h : DataW.Trod enc Try.prog W 0 (fun _ => true) true 22 v d ps) :
    ∃ (a : Option Addr) (len cap : Nat), v = .slice a len cap ∧ ActsAt W a len := by
  obtain ⟨a, len, cap, rfl, hlen, hh⟩ := open_rows Try.underlying22 Try.underlying35 (by kernel_rfl) (by kernel_rfl) (by decide) hv h
  refine ⟨a, len, cap, rfl, hlen, fun hpos => ?_⟩
  obtain ⟨b, off, rfl, hb, hc⟩ := hh hpos
  refine ⟨b, off, rfl, hb, fun i hi => ?_⟩
  obtain ⟨u0, e0, F0⟩ := hc i hi 0 _ rfl
  obtain ⟨u1, e1, F1⟩ := hc i hi 1 _ rfl
  obtain ⟨u2, e2, F2⟩ := hc i hi 2 _ rfl
  obtain ⟨u3, e3, F3⟩ := hc i hi 3 _ rfl
  obtain ⟨a0, rfl, _⟩ := F0.int Try.underlying3
  obtain ⟨a1, rfl, _⟩ := F1.int Try.underlying3
  obtain ⟨a2, rfl, _⟩ := F2.int Try.underlying3
  obtain ⟨a3, rfl, hw⟩ := F3.int Try.underlying3
  exact ⟨a0, a1, a2, a3, e0, e1, e2, e3, (wf_i64 hw).1, (wf_i64 hw).2⟩

set_option maxRecDepth 100000 in
theorem open_act {H : Type} {enc : TypeId × Value → H} {W : World} {r : Reach} {base : Nat} {v : Value} {d : DataW H} {ps : List MemPlace}
    (hv : Value.okWide Try.prog W r base 35 v) (h : DataW.Trod enc Try.prog W 0 (fun _ => true) true 35 v d ps) :
    ∃ a0 a1 a2 a3 : Int, v = .agg #[.int .i64 a0, .int .i64 a1, .int .i64 a2, .int .i64 a3] ∧ -9223372036854775808 ≤ a3 ∧ a3 < 9223372036854775808 := by
  obtain ⟨cs, rfl, hl, hc⟩ := open_struct Try.underlying35 (by kernel_rfl) (by kernel_rfl) hv h
  obtain ⟨u0, e0, F0⟩ := hc 0 _ rfl
  obtain ⟨u1, e1, F1⟩ := hc 1 _ rfl
  obtain ⟨u2, e2, F2⟩ := hc 2 _ rfl
  obtain ⟨u3, e3, F3⟩ := hc 3 _ rfl
  obtain ⟨a0, rfl, _⟩ := F0.int Try.underlying3
  obtain ⟨a1, rfl, _⟩ := F1.int Try.underlying3
  obtain ⟨a2, rfl, _⟩ := F2.int Try.underlying3
  obtain ⟨a3, rfl, hw⟩ := F3.int Try.underlying3
  have hl4 : cs.length = 4 := hl
  refine ⟨a0, a1, a2, a3, ?_, (wf_i64 hw).1, (wf_i64 hw).2⟩
  match cs, hl4 with
  | [x0, x1, x2, x3], _ =>
    simp at e0 e1 e2 e3
    subst e0 e1 e2 e3
    rfl

end Go.Proofs.Ytkcoeibbmfkjlaa
