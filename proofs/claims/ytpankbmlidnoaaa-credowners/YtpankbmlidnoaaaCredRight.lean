/- Package cred: Right, RightPerm, walked. -/
import Derived.Test.YtpankbmlidnoaaaCredLeaf
namespace Go.Proofs.Ytpankbmlidnoaaa
open Go.RowKit

set_option maxRecDepth 100000 in
set_option maxHeartbeats 1000000 in
theorem right_any (u g : Int) (w : World) : Calls Try.prog 15 #[.agg #[.int .i64 u, .int .i64 g]] w fun e w' => e = .returned (.bool (rightB u g)) ∧ Below w.heap.size w w' := by
  have hq := eql_cred u g (heldN u 65535) (heldN g 65535)
  have HR : Hid (((u == heldN u 65535) && (g == heldN g 65535)) = rightB u g) := by unfold Hid rightB usrB; rw [held_eq _ _ (by omega), held_eq _ _ (by omega)]
  go_enter Try.func15, Try.ntmps15
  go_wp2
  go_quiet ((go_at_call 25; exact Calls.quiet_of_same ((held_any _ _ _).mono fun _ _ h => ⟨h.1, h.2.symm⟩)))
  go_wp2
  go_ret
  exact ⟨ret_b HR.out, below_drewN' ((Below.refl _ _).alloc (Nat.le_refl _) _)⟩

set_option maxRecDepth 100000 in
set_option maxHeartbeats 1000000 in
theorem perm_any (a b c d m : Int) (w : World) : Calls Try.prog 17 #[.agg #[.int .i64 a, .int .i64 b, .int .i64 c, .int .i64 d, .int .i64 m]] w fun e w' => e = .returned (.bool (permB a b c d m)) ∧ Below w.heap.size w w' := by
  have hq := eql_perm a b c d m (heldN a 65535) (heldN b 65535) (heldN c 65535) (heldN d 65535) (heldN m 511)
  have HR : Hid (((a == heldN a 65535) && (b == heldN b 65535) && (c == heldN c 65535) && (d == heldN d 65535) && (m == heldN m 511)) = permB a b c d m) := by
    unfold Hid permB usrB modB
    rw [held_eq _ _ (by omega), held_eq _ _ (by omega), held_eq _ _ (by omega), held_eq _ _ (by omega), held_eq _ _ (by omega)]
  go_enter Try.func17, Try.ntmps17
  go_wp2
  go_quiet ((go_at_call 25; exact Calls.quiet_of_same ((held_any _ _ _).mono fun _ _ h => ⟨h.1, h.2.symm⟩)))
  go_wp2
  go_ret
  exact ⟨ret_b HR.out, below_drewN' ((Below.refl _ _).alloc (Nat.le_refl _) _)⟩

end Go.Proofs.Ytpankbmlidnoaaa
