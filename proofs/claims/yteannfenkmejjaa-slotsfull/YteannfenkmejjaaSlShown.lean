/- Layer 11: shown, under Works11S. -/
import Derived.Test.YteannfenkmejjaaSlWorksS
namespace Go.Proofs.Yteannfenkmejjaa
open Go.RowKit

def shT (x y : Option ByteArray × Nat) : SlT ByteArray := [x, y, (none, 0), (none, 0), (none, 0), (none, 0), (none, 0), (none, 0)]
section
variable (a b c : ByteArray)
theorem sq1 : addE (newS ByteArray) = 0 ∧ addN (newS ByteArray) = 0 ∧ addL (newS ByteArray) a = shT (some a, 0) (none, 0) := ⟨rfl, rfl, rfl⟩
theorem sq2 : addE (shT (some a, 0) (none, 0)) = 0 ∧ addN (shT (some a, 0) (none, 0)) = 1 ∧ addL (shT (some a, 0) (none, 0)) b = shT (some a, 0) (some b, 0) := ⟨rfl, rfl, rfl⟩
theorem sq3 : getE (shT (some a, 0) (some b, 0)) 0 = 0 ∧ getV ⟨#[]⟩ (shT (some a, 0) (some b, 0)) 0 = a ∧ remL (shT (some a, 0) (some b, 0)) 0 = shT (none, 1) (some b, 0) := ⟨rfl, rfl, rfl⟩
theorem sq4 : addE (shT (none, 1) (some b, 0)) = 0 ∧ addN (shT (none, 1) (some b, 0)) = 8 ∧ addL (shT (none, 1) (some b, 0)) c = shT (some c, 1) (some b, 0) := ⟨rfl, rfl, rfl⟩
theorem sq5 : getE (shT (some c, 1) (some b, 0)) 0 = 100 ∧ getV ⟨#[]⟩ (shT (some c, 1) (some b, 0)) 0 = ⟨#[]⟩ := ⟨rfl, rfl⟩
end
set_option maxRecDepth 100000 in
set_option maxHeartbeats 4000000 in
theorem shown11 {g : Nat} {Sl : World → (Nat → Prop) → Nat → SlT ByteArray → Prop} (K : Works11S g Sl) (W : World) (N : New11S g Sl W) : Calls Try.prog 9 #[] W fun e W' => e = .returned (.bool true) ∧ Below W.heap.size W W' := by
  have NW := Lib.hid (ss_newS (W0 := W) N (Below.refl _ W))
  have HK := Lib.hid K
  clear K N
  go_enter Try.func9, Try.ntmps9
  go_wp2_with (first
    | (go_at_call 23; refine NW.out.mono ?_; rintro e w1 ⟨q, rfl, h1⟩; have A1 := ss_addS HK.out h1 ⟨#[97]⟩; rw [(sq1 ⟨#[97]⟩).1, (sq1 ⟨#[97]⟩).2.1, (sq1 ⟨#[97]⟩).2.2] at A1; have A1 := Lib.hid A1; clear h1)
    | (go_at_call 24; refine A1.out.mono ?_; rintro e w2 ⟨rfl, h2⟩; have B1 := ss_addS HK.out h2 ⟨#[98]⟩; rw [(sq2 ⟨#[97]⟩ ⟨#[98]⟩).1, (sq2 ⟨#[97]⟩ ⟨#[98]⟩).2.1, (sq2 ⟨#[97]⟩ ⟨#[98]⟩).2.2] at B1; have B1 := Lib.hid B1; clear h2 A1)
    | (go_at_call 24; refine B1.out.mono ?_; rintro e w3 ⟨rfl, h3⟩; have R1 := ss_remS HK.out h3 0; rw [(sq3 ⟨#[97]⟩ ⟨#[98]⟩).1, (sq3 ⟨#[97]⟩ ⟨#[98]⟩).2.1, (sq3 ⟨#[97]⟩ ⟨#[98]⟩).2.2] at R1; have R1 := Lib.hid R1; clear h3 B1)
    | (go_at_call 27; refine R1.out.mono ?_; rintro e w4 ⟨rfl, h4⟩; have C1 := ss_addS HK.out h4 ⟨#[99]⟩; rw [(sq4 ⟨#[98]⟩ ⟨#[99]⟩).1, (sq4 ⟨#[98]⟩ ⟨#[99]⟩).2.1, (sq4 ⟨#[98]⟩ ⟨#[99]⟩).2.2] at C1; have C1 := Lib.hid C1; clear h4 R1)
    | (go_at_call 24; refine C1.out.mono ?_; rintro e w5 ⟨rfl, h5⟩; have G1 := ss_getS HK.out h5 0; rw [(sq5 ⟨#[98]⟩ ⟨#[99]⟩).1, (sq5 ⟨#[98]⟩ ⟨#[99]⟩).2] at G1; have G1 := Lib.hid G1; clear h5 C1)
    | (go_at_call 26; refine G1.out.mono ?_; rintro e w6 ⟨rfl, h6⟩; have H6 := Lib.hid h6; clear h6))
  go_ret
  exact ⟨rfl, H6.out.bel⟩
end Go.Proofs.Yteannfenkmejjaa
