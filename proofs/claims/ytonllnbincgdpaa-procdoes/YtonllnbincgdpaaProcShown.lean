/- The law's package: shown answers true. -/
import Derived.Test.YtonllnbincgdpaaProcExit
import Derived.Test.YtonllnbincgdpaaProcWait
namespace Go.Proofs.Ytonllnbincgdpaa
open Go.RowKit

def sh1 : List PV := forkL [first1] 1 1
def sh2 : List PV := exL sh1 2 7
def sh3 : List PV := waL sh2 1

section
variable {w : World} {p m : Nat}
theorem sh_fork (h : TabAt w p m [first1] 1) : Calls Try.prog 16 #[.pointer (some ⟨p, 0, none⟩), .int .i64 1] w fun e w' => e = .returned (.tuple #[.int .i64 2, .int .i64 0]) ∧ TabAt w' p m sh1 2 ∧ Turn p m w w' := fork_any h 1
theorem sh_wait (h : TabAt w p m sh1 2) : Calls Try.prog 17 #[.pointer (some ⟨p, 0, none⟩), .int .i64 1] w fun e w' => e = .returned (.tuple #[.int .i64 0, .int .i64 0, .int .i64 63]) ∧ TabAt w' p m sh1 2 ∧ Turn p m w w' := wait_any h 1
theorem sh_exit (h : TabAt w p m sh1 2) : Calls Try.prog 19 #[.pointer (some ⟨p, 0, none⟩), .int .i64 2, .int .i64 7] w fun e w' => e = .returned (.int .i64 0) ∧ TabAt w' p m sh2 2 ∧ Turn p m w w' := exit_any h 2 7
theorem sh_wait2 (h : TabAt w p m sh2 2) : Calls Try.prog 17 #[.pointer (some ⟨p, 0, none⟩), .int .i64 1] w fun e w' => e = .returned (.tuple #[.int .i64 2, .int .i64 7, .int .i64 0]) ∧ TabAt w' p m sh3 2 ∧ Turn p m w w' := wait_any h 1
theorem sh_wait3 (h : TabAt w p m sh3 2) : Calls Try.prog 17 #[.pointer (some ⟨p, 0, none⟩), .int .i64 1] w fun e w' => e = .returned (.tuple #[.int .i64 0, .int .i64 0, .int .i64 62]) ∧ Turn p m w w' := (wait_any h 1).mono (fun _ _ h => ⟨h.1, h.2.2⟩)
end

set_option maxRecDepth 100000 in
set_option maxHeartbeats 2000000 in
theorem shown6_any (w : World) : Calls Try.prog 10 #[] w fun e w' => e = .returned (.bool true) ∧ Below w.heap.size w w' := by
  go_enter Try.func10, Try.ntmps10
  go_wp2_with (first
    | (go_at_call 11; refine (new_any _).mono ?_; rintro e w1 ⟨p, m, rfl, h1, hp, hm, hB⟩; have H1 := Lib.hid h1; have HB := Lib.hid hB; clear h1 hB)
    | (go_at_call 16; refine (sh_fork H1.out).mono ?_; rintro e w2 ⟨rfl, h2, t2⟩; have H2 := Lib.hid h2; have T2 := Lib.hid t2; clear h2 t2)
    | (go_at_call 19; refine (sh_exit H3.out).mono ?_; rintro e w4 ⟨rfl, h4, t4⟩; have H4 := Lib.hid h4; have T4 := Lib.hid (T3.out.trans t4); clear h4 t4)
    | (go_at_call 17; refine (sh_wait3 H5.out).mono ?_; rintro e w6 ⟨rfl, t6⟩; have T6 := Lib.hid (T5.out.trans t6); clear t6)
    | (go_at_call 17; refine (sh_wait2 H4.out).mono ?_; rintro e w5 ⟨rfl, h5, t5⟩; have H5 := Lib.hid h5; have T5 := Lib.hid (T4.out.trans t5); clear h5 t5)
    | (go_at_call 17; refine (sh_wait H2.out).mono ?_; rintro e w3 ⟨rfl, h3, t3⟩; have H3 := Lib.hid h3; have T3 := Lib.hid (T2.out.trans t3); clear h3 t3))
  go_ret
  exact ⟨rfl, T6.out.below HB.out hp hm HB.out.size⟩
end Go.Proofs.Ytonllnbincgdpaa
