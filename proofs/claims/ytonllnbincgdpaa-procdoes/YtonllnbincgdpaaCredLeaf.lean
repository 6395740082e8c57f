/- Package cred: held, among, Right, RightPerm, walked. -/
import Derived.Test.YtonllnbincgdpaaRows
import Derived.Test.YtonllnbincgdpaaBox
import Derived.Test.YtonllnbincgdpaaCredPure
namespace Go.Proofs.Ytonllnbincgdpaa
open Go.RowKit

theorem ret_i {k : IntKind} {a b : Int} (h : a = b) : Ending.returned (.int k a) = .returned (.int k b) := by rw [h]
theorem ret_b {a b : Bool} (h : a = b) : Ending.returned (.bool a) = .returned (.bool b) := by rw [h]

set_option maxRecDepth 100000 in
set_option maxHeartbeats 400000 in
theorem held_any (n k : Int) (w : World) : Calls Try.prog 50 #[.int .i64 n, .int .i64 k] w fun e w' => e = .returned (.int .i64 (heldN n k)) ∧ w = w' := by
  go_enter Try.func50, Try.ntmps50
  go_wp2
  all_goals
    go_ret
    refine ⟨ret_i ?_, rfl⟩
    unfold heldN
    split at * <;> omega


set_option maxRecDepth 100000 in
theorem eql_cred (u g u' g' : Int) (w : World) : (binOp .eql 30 (.agg #[.int .i64 u, .int .i64 g]) (.agg #[.int .i64 u', .int .i64 g'])).run Try.prog w = .ok (.bool ((u == u') && (g == g'))) w := by
  cases h1 : (u == u') <;> cases h2 : (g == g') <;> simp [go_sem, h1, h2]


end Go.Proofs.Ytonllnbincgdpaa
