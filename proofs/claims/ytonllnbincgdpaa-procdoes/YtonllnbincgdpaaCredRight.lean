/- Package cred: Right, RightPerm, walked. -/
import Derived.Test.YtonllnbincgdpaaCredLeaf
namespace Go.Proofs.Ytonllnbincgdpaa
open Go.RowKit

set_option maxRecDepth 100000 in
set_option maxHeartbeats 1000000 in
theorem right_any (u g : Int) (w : World) : Calls Try.prog 37 #[.agg #[.int .i64 u, .int .i64 g]] w fun e w' => e = .returned (.bool (rightB u g)) ∧ Below w.heap.size w w' := by
  have hq := eql_cred u g (heldN u 65535) (heldN g 65535)
  have HR : Hid (((u == heldN u 65535) && (g == heldN g 65535)) = rightB u g) := by unfold Hid rightB usrB; rw [held_eq _ _ (by omega), held_eq _ _ (by omega)]
  go_enter Try.func37, Try.ntmps37
  go_wp2
  go_quiet ((go_at_call 50; exact Calls.quiet_of_same ((held_any _ _ _).mono fun _ _ h => ⟨h.1, h.2.symm⟩)))
  go_wp2
  go_ret
  exact ⟨ret_b HR.out, below_drewN' ((Below.refl _ _).alloc (Nat.le_refl _) _)⟩


end Go.Proofs.Ytonllnbincgdpaa
