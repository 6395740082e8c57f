/- Package cred: held, among, Right, RightPerm, walked. -/
import Derived.Test.YtpankbmlidnoaaaRows
import Derived.Test.YtpankbmlidnoaaaBox
import Derived.Test.YtpankbmlidnoaaaCredPure
namespace Go.Proofs.Ytpankbmlidnoaaa
open Go.RowKit

theorem ret_i {k : IntKind} {a b : Int} (h : a = b) : Ending.returned (.int k a) = .returned (.int k b) := by rw [h]
theorem ret_b {a b : Bool} (h : a = b) : Ending.returned (.bool a) = .returned (.bool b) := by rw [h]

set_option maxRecDepth 100000 in
set_option maxHeartbeats 400000 in
theorem held_any (n k : Int) (w : World) : Calls Try.prog 25 #[.int .i64 n, .int .i64 k] w fun e w' => e = .returned (.int .i64 (heldN n k)) ∧ w = w' := by
  go_enter Try.func25, Try.ntmps25
  go_wp2
  all_goals
    go_ret
    refine ⟨ret_i ?_, rfl⟩
    unfold heldN
    split at * <;> omega

/-- is a number one of them? -/
def amongB (n : Int) (zs : List Int) : Bool := zs.any (fun k => k == n)

set_option maxRecDepth 100000 in
set_option maxHeartbeats 1000000 in
theorem among_any (n : Int) (b : Nat) (zs : List Int) (w : World) (hz : zs.length ≤ 8)
    (hc : ∀ j, j < zs.length → w.cell? ⟨b, j, none⟩ = some (.int .i64 (zs[j]?.getD 0))) (cap : Nat) :
    Calls Try.prog 29 #[.int .i64 n, .slice (some ⟨b, 0, none⟩) zs.length cap] w fun e w' => e = .returned (.bool (amongB n zs)) ∧ w = w' := by
  go_enter Try.func29, Try.ntmps29
  have HC := Lib.hid hc; clear hc
  go_wp2
  go_loop [9, 6] (fun i _ => ∃ k : Nat, k ≤ zs.length ∧ i = .int .i64 k ∧ ∀ x ∈ zs.take k, x ≠ n) (fun i _ => zs.length - (intOf i).toNat)
  case atStart => exact ⟨0, Nat.zero_le _, rfl, by simp⟩
  case round =>
    obtain ⟨k, hk, rfl, hno⟩ := hrel
    have HN := Lib.hid hno; clear hno
    by_cases hlt : k < zs.length
    · have hck := HC.out k hlt
      have HX : Hid (zs[k]?.getD 0 ∈ zs) := by unfold Hid; rw [List.getElem?_eq_getElem hlt]; exact List.getElem_mem hlt
      have HT : Hid (zs.take (k + 1) = zs.take k ++ [zs[k]?.getD 0]) := by unfold Hid; rw [List.take_succ_eq_append_getElem hlt]; simp [hlt]
      generalize zs[k]?.getD 0 = x at *
      by_cases hx : x = n
      · have hb : (x == n) = true := by simpa using hx
        have HXN := Lib.hid hx; clear hx
        go_wp2
        go_ret
        refine ⟨ret_b ?_, rfl⟩
        symm
        unfold amongB
        rw [List.any_eq_true]
        exact ⟨x, HX.out, hb⟩
      · have hb : (x == n) = false := by simpa using hx
        have HXN := Lib.hid hx; clear hx
        go_wp2
        go_round
        case rel => exact ⟨k + 1, by omega, by go_num, by rw [HT.out]; exact fun y hy => (List.mem_append.1 hy).elim (HN.out y) (fun e => by simp at e; subst e; exact HXN.out)⟩
        case measure => simp [intOf]; omega
    · obtain rfl : k = zs.length := by omega
      go_wp2
      go_ret
      refine ⟨ret_b ?_, rfl⟩
      symm
      unfold amongB
      rw [List.any_eq_false]
      intro y hy
      have := HN.out y (by simpa using hy)
      simpa using this

theorem among_two (n x y : Int) (b cap : Nat) (w : World) (c0 : w.cell? ⟨b, 0, none⟩ = some (.int .i64 x)) (c1 : w.cell? ⟨b, 1, none⟩ = some (.int .i64 y)) :
    Calls Try.prog 29 #[.int .i64 n, .slice (some ⟨b, 0, none⟩) 2 cap] w fun e w' => e = .returned (.bool (decide (n = x ∨ n = y))) ∧ w = w' := by
  refine (among_any n b [x, y] w (by simp) (fun j hj => ?_) cap).mono ?_
  · match j, hj with
    | 0, _ => exact c0
    | 1, _ => exact c1
  · rintro e w' ⟨rfl, rfl⟩
    refine ⟨ret_b ?_, rfl⟩
    unfold amongB
    rw [Bool.eq_iff_iff]
    simp only [List.any_cons, List.any_nil, Bool.or_eq_true, beq_iff_eq, decide_eq_true_eq, Bool.false_eq_true, or_false]
    constructor <;> (intro h; omega)
theorem among_three (n x y z : Int) (b cap : Nat) (w : World) (c0 : w.cell? ⟨b, 0, none⟩ = some (.int .i64 x)) (c1 : w.cell? ⟨b, 1, none⟩ = some (.int .i64 y)) (c2 : w.cell? ⟨b, 2, none⟩ = some (.int .i64 z)) :
    Calls Try.prog 29 #[.int .i64 n, .slice (some ⟨b, 0, none⟩) 3 cap] w fun e w' => e = .returned (.bool (decide (n = x ∨ n = y ∨ n = z))) ∧ w = w' := by
  refine (among_any n b [x, y, z] w (by simp) (fun j hj => ?_) cap).mono ?_
  · match j, hj with
    | 0, _ => exact c0
    | 1, _ => exact c1
    | 2, _ => exact c2
  · rintro e w' ⟨rfl, rfl⟩
    refine ⟨ret_b ?_, rfl⟩
    unfold amongB
    rw [Bool.eq_iff_iff]
    simp only [List.any_cons, List.any_nil, Bool.or_eq_true, beq_iff_eq, decide_eq_true_eq, Bool.false_eq_true, or_false]
    constructor <;> (intro h; omega)

set_option maxRecDepth 100000 in
theorem eql_cred (u g u' g' : Int) (w : World) : (binOp .eql 23 (.agg #[.int .i64 u, .int .i64 g]) (.agg #[.int .i64 u', .int .i64 g'])).run Try.prog w = .ok (.bool ((u == u') && (g == g'))) w := by
  cases h1 : (u == u') <;> cases h2 : (g == g') <;> simp [go_sem, h1, h2]

set_option maxRecDepth 100000 in
theorem eql_perm (a b c d m a' b' c' d' m' : Int) (w : World) : (binOp .eql 25 (.agg #[.int .i64 a, .int .i64 b, .int .i64 c, .int .i64 d, .int .i64 m]) (.agg #[.int .i64 a', .int .i64 b', .int .i64 c', .int .i64 d', .int .i64 m'])).run Try.prog w = .ok (.bool ((a == a') && (b == b') && (c == c') && (d == d') && (m == m'))) w := by
  cases h1 : (a == a') <;> cases h2 : (b == b') <;> cases h3 : (c == c') <;> cases h4 : (d == d') <;> cases h5 : (m == m') <;> simp [go_sem, h1, h2, h3, h4, h5]

end Go.Proofs.Ytpankbmlidnoaaa
