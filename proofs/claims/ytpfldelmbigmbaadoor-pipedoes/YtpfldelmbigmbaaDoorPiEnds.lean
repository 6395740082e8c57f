/- Package pipe: Ends. -/
import Derived.Test.YtpfldelmbigmbaaDoorPiAsk
namespace Go.Proofs.YtpfldelmbigmbaaDoor
open Go.RowKit

section
variable {g : Nat} {A : Fin 4 → Addr} {w w' : World} {p q r v b : Nat} {L : List UInt8}

set_option maxRecDepth 100000 in
set_option maxHeartbeats 1000000 in
theorem pi_ends (h : PM g A w p q L r v) : Calls Tryd.prog 21 #[.pointer (some ⟨p, 0, none⟩)] w fun e w' => e = .returned (.tuple #[.int .i64 (r : Nat), .int .i64 (v : Nat)]) ∧ Below w.heap.size w w' := by
  have c1 := h.box.at 1 (v := .int .i64 (r : Int)) rfl
  have c2 := h.box.at 2 (v := .int .i64 (v : Int)) rfl
  have e1 : endP p 1 = .pointer (some ⟨p, 1, none⟩) := rfl
  have e2 : endP p 2 = .pointer (some ⟨p, 2, none⟩) := rfl
  have H1 := Lib.hid (fun (k : Int) w => end_any p k w)
  clear h
  go_enter Tryd.func21, Tryd.ntmps21
  go_wp2
  go_quiet ((go_at_call 33; exact Calls.quiet_of_same (H1.out _ _)))
  go_wp2
  refine bodyPost_ret (v := .tuple #[.int .i64 (r : Int), .int .i64 (v : Int)]) (by simp [results, Tryd.results21, go_sem]) rfl ?_
  exact ⟨rfl, below_drewN' (Below.refl _ _)⟩
end
end Go.Proofs.YtpfldelmbigmbaaDoor
