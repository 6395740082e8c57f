/- Credentials and a permission as arguments, laid open to their numbers. -/
import Derived.Test.YtpankbmlidnoaaaRows
import Derived.Test.YtpankbmlidnoaaaLaw
import Derived.Test.YtpankbmlidnoaaaArgs
namespace Go.Proofs.Ytpankbmlidnoaaa
open Go.ChangeShapes Go.WideShapes Go.ChangeAt Go.RowKit

section
variable {H : Type} {enc : TypeId × Value → H} {W : World} {r : Reach} {base : Nat} {v : Value} {d : DataW H} {ps : List MemPlace}

theorem open_cred (hv : Value.okWide Try.prog W r base 23 v) (h : DataW.Trod enc Try.prog W 0 (fun _ => true) true 23 v d ps) : ∃ u g : Int, v = .agg #[.int .i64 u, .int .i64 g] := by
  obtain ⟨cs, rfl, hlen, hf⟩ := open_struct Try.underlying23 (by kernel_rfl) (by kernel_rfl) hv h
  obtain ⟨u0, e0, F0⟩ := hf 0 _ rfl
  obtain ⟨u1, e1, F1⟩ := hf 1 _ rfl
  obtain ⟨a0, rfl, _⟩ := F0.int Try.underlying3
  obtain ⟨a1, rfl, _⟩ := F1.int Try.underlying3
  obtain rfl : cs = [.int .i64 a0, .int .i64 a1] := by
    apply List.ext_getElem?
    intro i
    match i with
    | 0 => exact e0
    | 1 => exact e1
    | i + 2 => rw [List.getElem?_eq_none (by rw [hlen]; show 2 ≤ i + 2; omega)]; rfl
  exact ⟨a0, a1, rfl⟩

theorem open_perm (hv : Value.okWide Try.prog W r base 25 v) (h : DataW.Trod enc Try.prog W 0 (fun _ => true) true 25 v d ps) : ∃ a b c e m : Int, v = .agg #[.int .i64 a, .int .i64 b, .int .i64 c, .int .i64 e, .int .i64 m] := by
  obtain ⟨cs, rfl, hlen, hf⟩ := open_struct Try.underlying25 (by kernel_rfl) (by kernel_rfl) hv h
  obtain ⟨u0, e0, F0⟩ := hf 0 _ rfl
  obtain ⟨u1, e1, F1⟩ := hf 1 _ rfl
  obtain ⟨u2, e2, F2⟩ := hf 2 _ rfl
  obtain ⟨u3, e3, F3⟩ := hf 3 _ rfl
  obtain ⟨u4, e4, F4⟩ := hf 4 _ rfl
  obtain ⟨a0, rfl, _⟩ := F0.int Try.underlying3
  obtain ⟨a1, rfl, _⟩ := F1.int Try.underlying3
  obtain ⟨a2, rfl, _⟩ := F2.int Try.underlying3
  obtain ⟨a3, rfl, _⟩ := F3.int Try.underlying3
  obtain ⟨a4, rfl, _⟩ := F4.int Try.underlying3
  obtain rfl : cs = [.int .i64 a0, .int .i64 a1, .int .i64 a2, .int .i64 a3, .int .i64 a4] := by
    apply List.ext_getElem?
    intro i
    match i with
    | 0 => exact e0
    | 1 => exact e1
    | 2 => exact e2
    | 3 => exact e3
    | 4 => exact e4
    | i + 5 => rw [List.getElem?_eq_none (by rw [hlen]; show 5 ≤ i + 5; omega)]; rfl
  exact ⟨a0, a1, a2, a3, a4, rfl⟩
end
end Go.Proofs.Ytpankbmlidnoaaa
