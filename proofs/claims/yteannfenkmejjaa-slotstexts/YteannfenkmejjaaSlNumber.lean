/- Layer 11: number (of the thing of a place, or as it is), walked. -/
import Derived.Test.YteannfenkmejjaaQuLs
import Derived.Test.YteannfenkmejjaaBox
namespace Go.Proofs.Yteannfenkmejjaa
open Go.RowKit

def numX (ids : List Int) (pl : Bool) (k : Int) : Int := if pl = true ∧ 0 < ids.length then ids[((IntKind.u64.wrap k).toNat % ids.length)]?.getD 0 else k
theorem tmod_nat (k : Int) (n : Nat) (hn : 0 < n) : ∃ j : Nat, j < n ∧ (IntKind.u64.wrap k).tmod (n : Int) = (j : Int) ∧ (IntKind.u64.wrap k).toNat % n = j := by
  have h0 := wrap_u64_nonneg k
  generalize IntKind.u64.wrap k = y at *
  obtain ⟨m, rfl⟩ : ∃ m : Nat, y = m := ⟨y.toNat, by omega⟩
  refine ⟨m % n, Nat.mod_lt _ hn, ?_, by rw [Int.toNat_natCast]⟩
  rw [Int.tmod_eq_emod_of_nonneg (by omega)]
  omega

set_option maxRecDepth 100000 in
set_option maxHeartbeats 2000000 in
theorem number11 {w : World} {lo : Nat} {s : Value} {ids : List Int} (h : LsI w lo s ids) (hl : ids.length ≤ 1000) (d k : Int) (pl : Bool) (z : Int) :
    Calls Try.prog 11 #[s, .agg #[.int .i64 d, .int .i64 k, .bool pl, .int .i64 z]] w fun e w' => e = .returned (.int .i64 (numX ids pl k)) ∧ Below w.heap.size w w' := by
  obtain ⟨a, cap, rfl, hc⟩ := h
  have hB := Lib.hid ((Below.refl w.heap.size w).alloc (Nat.le_refl _) (.cells #[.int .i64 d, .int .i64 k, .bool pl, .int .i64 z] 32))
  unfold numX
  cases pl with
  | false =>
    rw [if_neg (fun c => Bool.noConfusion c.1)]
    clear hc
    go_enter Try.func11, Try.ntmps11
    go_wp2
    go_ret
    exact ⟨rfl, hB.out⟩
  | true =>
    by_cases h0 : 0 < ids.length
    · rw [if_pos ⟨rfl, h0⟩]
      obtain ⟨r, o, rfl, -, hr, hcs⟩ := hc h0
      obtain ⟨j, hj, e1, e2⟩ := tmod_nat k ids.length h0
      rw [e2]
      obtain ⟨x, hx⟩ : ∃ x, ids[j]? = some x := ⟨_, List.getElem?_eq_getElem hj⟩
      have cx := ((Below.refl w.heap.size w).alloc (Nat.le_refl _) (.cells #[.int .i64 d, .int .i64 k, .bool true, .int .i64 z] 32)).cell (p := ⟨r, o + j, none⟩) hr
      rw [hcs j x hx] at cx
      rw [hx]
      obtain ⟨n, hn⟩ : ∃ n, ids.length = n := ⟨_, rfl⟩
      rw [hn] at e1 hj h0 hl ⊢
      have w1 : IntKind.u64.wrap (n : Int) = n := by rw [IntKind.wrap_u64]; omega
      have w2 : IntKind.i64.wrap (j : Int) = j := by rw [IntKind.wrap_i64]; omega
      have l1 : (0 : Int) < (n : Int) := by omega
      have n0 : ((n : Int) == 0) = false := by rw [beq_eq_false_iff_ne]; omega
      have j1 : (j : Int) < (n : Int) := by omega
      clear hcs hc hx hn e2
      go_enter Try.func11, Try.ntmps11
      go_wp2
      go_ret
      exact ⟨rfl, hB.out⟩
    · rw [if_neg (fun c => h0 c.2)]
      have hz : ids.length = 0 := by omega
      rw [hz]
      clear hc
      go_enter Try.func11, Try.ntmps11
      go_wp2
      go_ret
      exact ⟨rfl, hB.out⟩
end Go.Proofs.Yteannfenkmejjaa
