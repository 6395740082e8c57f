/- taffrailref02.Ints of two lists, for any stage. -/
import Derived.Test.YteannfenkmejjaaQuLs
namespace Go.Proofs.Yteannfenkmejjaa
open Go.RowKit

set_option maxRecDepth 100000 in
set_option maxHeartbeats 1000000 in
theorem ints7_row (b b' o o' cap cap' : Nat) (xs : List Int) (w : World) (hl : xs.length ≤ 1000) (hc : ∀ j x, xs[j]? = some x → w.cell? ⟨b, o + j, none⟩ = some (.int .i64 x)) (hc' : ∀ j x, xs[j]? = some x → w.cell? ⟨b', o' + j, none⟩ = some (.int .i64 x)) (hb : b < w.heap.size) (hb' : b' < w.heap.size) :
    Calls Try.prog 21 #[.slice (some ⟨b, o, none⟩) xs.length cap, .slice (some ⟨b', o', none⟩) xs.length cap'] w fun e w' => e = .returned (.bool true) ∧ Below w.heap.size w w' := by
  have HC := Lib.hid hc; have HC' := Lib.hid hc'
  clear hc hc'
  go_enter Try.func21, Try.ntmps21
  go_wp2
  go_loopw [5] (fun i wr => ∃ k : Nat, k ≤ xs.length ∧ i = .int .i64 k ∧ Below w.heap.size w wr) (fun i _ => xs.length - (intOf i).toNat)
  case atStart => exact ⟨0, Nat.zero_le _, rfl, Below.refl _ _⟩
  case round =>
    obtain ⟨k, hk, rfl, hB⟩ := hrel
    by_cases hlt : k < xs.length
    · obtain ⟨x, hx⟩ : ∃ x, xs[k]? = some x := ⟨_, List.getElem?_eq_getElem hlt⟩
      have c := (hB.cell (p := ⟨b, o + k, none⟩) hb).trans (HC.out k x hx)
      have c' := (hB.cell (p := ⟨b', o' + k, none⟩) hb').trans (HC'.out k x hx)
      have i0 : (0 : Int) ≤ (k : Int) := by omega
      have i1 : (k : Int) < (xs.length : Int) := by omega
      have HB := Lib.hid hB; clear hB hx
      go_wp2
      go_quiet (fail)
      go_wp2
      go_roundw
      case rel => exact ⟨k + 1, by omega, by go_num, below_drewN' HB.out⟩
      case measure => simp [intOf]; omega
    · obtain rfl : k = xs.length := by omega
      go_wp2
      go_ret
      exact ⟨rfl, hB⟩

set_option maxRecDepth 100000 in
set_option maxHeartbeats 1000000 in
theorem ints7_zero (a a' : Option Addr) (cap cap' : Nat) (w : World) :
    Calls Try.prog 21 #[.slice a 0 cap, .slice a' 0 cap'] w fun e w' => e = .returned (.bool true) ∧ Below w.heap.size w w' := by
  go_enter Try.func21, Try.ntmps21
  go_wp2
  go_loopw [5] (fun i wr => i = .int .i64 0 ∧ wr = w) (fun _ _ => 0)
  case atStart => exact ⟨rfl, rfl⟩
  case round =>
    obtain ⟨rfl, rfl⟩ := hrel
    go_wp2
    go_ret
    exact ⟨rfl, Below.refl _ _⟩

theorem ints7 {w : World} {n n' : Nat} {v v' : Value} {xs : List Int} (hl : xs.length ≤ 1000) (h : LsI w n v xs) (h' : LsI w n' v' xs) :
    Calls Try.prog 21 #[v, v'] w fun e w' => e = .returned (.bool true) ∧ Below w.heap.size w w' := by
  obtain ⟨a, cap, rfl, hc⟩ := h
  obtain ⟨a', cap', rfl, hc'⟩ := h'
  by_cases h0 : 0 < xs.length
  · obtain ⟨r, o, rfl, _, b1, c1⟩ := hc h0
    obtain ⟨r', o', rfl, _, b2, c2⟩ := hc' h0
    exact ints7_row r r' o o' cap cap' xs w hl c1 c2 b1 b2
  · have hx : xs = [] := List.eq_nil_of_length_eq_zero (by omega)
    subst hx
    exact ints7_zero _ _ _ _ w
end Go.Proofs.Yteannfenkmejjaa
