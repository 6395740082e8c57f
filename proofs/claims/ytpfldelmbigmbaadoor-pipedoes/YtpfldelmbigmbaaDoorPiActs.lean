/- Acts of layer 10 (three numbers and bytes) that came in, laid open to cells. -/
import Derived.Test.YtpfldelmbigmbaaDoorLaw
import Derived.Test.YtpfldelmbigmbaaDoorArgs
import Derived.Test.YtpfldelmbigmbaaDoorCells
namespace Go.Proofs.YtpfldelmbigmbaaDoor
open Go.RowKit Go.ChangeShapes Go.WideShapes Go.ChangeAt

/-- an act lies at b, o. -/
structure ActAt (w : World) (b o : Nat) (d k n : Int) (s : ByteArray) : Prop where
  c0 : w.cell? ⟨b, o, none⟩ = some (.int .i64 d)
  c1 : w.cell? ⟨b, o + 1, none⟩ = some (.int .i64 k)
  c2 : w.cell? ⟨b, o + 2, none⟩ = some (.int .i64 n)
  c3 : w.cell? ⟨b, o + 3, none⟩ = some (.string s)
  hn : n ≤ 9223372036854775807
  hs : s.size ≤ maxLen
theorem ActAt.below {w w' : World} {b o : Nat} {d k n : Int} {s : ByteArray} {B : Nat} (h : ActAt w b o d k n s) (hb : Below B w w') (hlt : b < B) : ActAt w' b o d k n s :=
  ⟨(hb.cell (p := ⟨b, o, none⟩) hlt).trans h.c0, (hb.cell (p := ⟨b, o + 1, none⟩) hlt).trans h.c1, (hb.cell (p := ⟨b, o + 2, none⟩) hlt).trans h.c2, (hb.cell (p := ⟨b, o + 3, none⟩) hlt).trans h.c3, h.hn, h.hs⟩
/-- acts: none, or they lie in one block that was there. -/
def ActsAt (w : World) (a : Option Addr) (len : Nat) : Prop :=
  len ≤ maxLen ∧ (0 < len → ∃ b off, a = some ⟨b, off, none⟩ ∧ b < w.heap.size ∧ ∀ i, i < len → ∃ (d k n : Int) (s : ByteArray), ActAt w b (off + i * 4) d k n s)
theorem wf_top {n : Int} (h : (Lit.int .i64 n).wf = true) : n ≤ 9223372036854775807 := by
  simp [Lit.wf, IntKind.min, IntKind.max, IntKind.signed, IntKind.bits] at h
  omega
section
variable {H : Type} {enc : TypeId × Value → H} {W : World}
set_option maxRecDepth 100000 in
theorem open_acts {r : Reach} {base : Nat} {v : Value} {d : DataW H} {ps : List MemPlace}
    (hv : Value.okWide Tryd.prog W r base 22 v) (h : DataW.Trod enc Tryd.prog W 0 (fun _ => true) true 22 v d ps) :
    ∃ (a : Option Addr) (len cap : Nat), v = .slice a len cap ∧ ActsAt W a len := by
  obtain ⟨a, len, cap, rfl, hlen, hh⟩ := open_rows Tryd.underlying22 Tryd.underlying30 (by kernel_rfl) (by kernel_rfl) (by decide) hv h
  refine ⟨a, len, cap, rfl, hlen, fun hpos => ?_⟩
  obtain ⟨b, off, rfl, hb, hc⟩ := hh hpos
  refine ⟨b, off, rfl, hb, fun i hi => ?_⟩
  obtain ⟨u0, e0, F0⟩ := hc i hi 0 _ rfl
  obtain ⟨u1, e1, F1⟩ := hc i hi 1 _ rfl
  obtain ⟨u2, e2, F2⟩ := hc i hi 2 _ rfl
  obtain ⟨u3, e3, F3⟩ := hc i hi 3 _ rfl
  obtain ⟨d, rfl, _⟩ := F0.int Tryd.underlying3
  obtain ⟨k, rfl, _⟩ := F1.int Tryd.underlying3
  obtain ⟨n, rfl, hn⟩ := F2.int Tryd.underlying3
  obtain ⟨s, rfl, hs⟩ := F3.string Tryd.underlying9
  exact ⟨d, k, n, s, e0, e1, e2, e3, wf_top hn, hs⟩
set_option maxRecDepth 100000 in
theorem open_act {r : Reach} {base : Nat} {v : Value} {d : DataW H} {ps : List MemPlace} (hv : Value.okWide Tryd.prog W r base 30 v) (h : DataW.Trod enc Tryd.prog W 0 (fun _ => true) true 30 v d ps) :
    ∃ (d k n : Int) (s : ByteArray), v = .agg #[.int .i64 d, .int .i64 k, .int .i64 n, .string s] ∧ n ≤ 9223372036854775807 ∧ s.size ≤ maxLen := by
  obtain ⟨cs, rfl, hlen, hf⟩ := open_struct Tryd.underlying30 (by kernel_rfl) (by kernel_rfl) hv h
  obtain ⟨u0, e0, F0⟩ := hf 0 _ rfl
  obtain ⟨u1, e1, F1⟩ := hf 1 _ rfl
  obtain ⟨u2, e2, F2⟩ := hf 2 _ rfl
  obtain ⟨u3, e3, F3⟩ := hf 3 _ rfl
  obtain ⟨d, rfl, _⟩ := F0.int Tryd.underlying3
  obtain ⟨k, rfl, _⟩ := F1.int Tryd.underlying3
  obtain ⟨n, rfl, hn⟩ := F2.int Tryd.underlying3
  obtain ⟨s, rfl, hs⟩ := F3.string Tryd.underlying9
  refine ⟨d, k, n, s, ?_, wf_top hn, hs⟩
  obtain rfl : cs = [.int .i64 d, .int .i64 k, .int .i64 n, .string s] := by
    apply List.ext_getElem?
    intro i
    match i with
    | 0 => exact e0
    | 1 => exact e1
    | 2 => exact e2
    | 3 => exact e3
    | i + 4 => rw [List.getElem?_eq_none (by rw [hlen]; show 4 ≤ i + 4; omega)]; rfl
  rfl
end
end Go.Proofs.YtpfldelmbigmbaaDoor
