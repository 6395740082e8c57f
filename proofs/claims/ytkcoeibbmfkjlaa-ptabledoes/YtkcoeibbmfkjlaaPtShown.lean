/- Layer 2's laws: New, and what 'shown' tells. -/
import Derived.Test.YtkcoeibbmfkjlaaPtMach
namespace Go.Proofs.Ytkcoeibbmfkjlaa
open Go.RowKit

/-- a new root in a new memory. -/
def S0 : PtS := ⟨updR (fun _ => 0) 0 1, updB (fun _ => List.replicate 64 0) 0 zeroPage, fun _ => (0, 0), fun _ => (0, 0)⟩
theorem S0_ok {n : Nat} (h1 : 1 ≤ n) (hn : n ≤ 256) : S0.ok n 0 := Rep.first h1 hn fun _ _ => by simp

set_option maxHeartbeats 400000 in
theorem pnew_any {w : World} {p g n : Nat} (h : MemAt w p g n (fun _ => 0) (fun _ => List.replicate 64 0)) :
    Calls Try.prog 12 #[.pointer (some ⟨p, 0, none⟩)] w fun e w' => e = .returned (.tuple #[.int .i64 0, .int .i64 0]) ∧ S0.at w' p g n ∧ w.grownBy w' (some g) := by
  have h1 := h.h1
  go_enter Try.func12, Try.ntmps12
  go_wp2_with fail
  refine (alloc_at h (t := 0) (by omega) rfl (fun j hj => by omega)).mono ?_
  rintro e w1 ⟨rfl, hM, hG⟩
  have HM := Lib.hid hM; have HG := Lib.hid hG
  clear hM hG
  go_wp2
  go_ret2
  exact ⟨rfl, HM.out, HG.out⟩

theorem below_step {a b c : World} (h : Below a.heap.size a b) (k : Below b.heap.size b c) : Below a.heap.size a c := h.trans (k.mono h.size)

theorem shown_vals : (mapS 9 0 S0 17 5 3).1 = 0 ∧ wkT (mapS 9 0 S0 17 5 3).2.E 17 = 5 ∧ wkF (mapS 9 0 S0 17 5 3).2.E 17 = 3 ∧ wkE (mapS 9 0 S0 17 5 3).2.E 17 = 0 ∧
    wkT (mapS 9 0 S0 17 5 3).2.E 16 = 0 ∧ wkF (mapS 9 0 S0 17 5 3).2.E 16 = 0 ∧ wkE (mapS 9 0 S0 17 5 3).2.E 16 = 30 ∧ leftN 9 (mapS 9 0 S0 17 5 3).2.R = 7 := by decide +kernel

set_option maxRecDepth 100000 in
set_option maxHeartbeats 800000 in
theorem shown_any (w : World) : Calls Try.prog 9 #[] w fun e w' => e = .returned (.bool true) ∧ Below w.heap.size w w' := by
  obtain ⟨a1, b1, b2, b3, c1, c2, c3, d1⟩ := shown_vals
  have HK := Lib.hid (map_ok (S0_ok (n := 9) (by omega) (by omega)) 17 5 3)
  have HMR : Hid (∀ (W : World) (p g : Nat), S0.at W p g 9 → Calls Try.prog 14 #[.pointer (some ⟨p, 0, none⟩), .int .i64 0, .int .i64 17, .int .i64 5, .int .i64 3] W fun r w' => r = .returned (.int .i64 (mapS 9 0 S0 17 5 3).1) ∧ (mapS 9 0 S0 17 5 3).2.at w' p g 9 ∧ W.grownBy w' (some g)) :=
    fun W p g h => map_rep h (S0_ok (by omega) (by omega)) 17 5 3 (by omega) (by omega)
  generalize mapS 9 0 S0 17 5 3 = M at *
  have A1 := Lib.hid a1; have B1 := Lib.hid b1; have B2 := Lib.hid b2; have B3 := Lib.hid b3; have C1 := Lib.hid c1; have C2 := Lib.hid c2; have C3 := Lib.hid c3; have D1 := Lib.hid d1
  clear a1 b1 b2 b3 c1 c2 c3 d1
  go_enter Try.func9, Try.ntmps9
  go_wp2_with fail
  refine (new_ok 9 (by omega) (by omega) _).mono ?_
  rintro e w1 ⟨rfl, hM1, hB1⟩
  have HB1 := Lib.hid hB1; clear hB1
  go_wp2_with fail
  refine (pnew_any hM1).mono ?_
  rintro e w2 ⟨rfl, hM2, hG2⟩
  have HM2 := Lib.hid hM2; have HG2 := Lib.hid hG2; clear hG2 hM1 hM2
  go_wp2_with fail
  refine (HMR.out _ _ _ HM2.out).mono ?_
  rintro e w3 ⟨rfl, hM3, hG3⟩
  rw [A1.out]
  have HM3 := Lib.hid hM3; have HG3 := Lib.hid hG3; clear hG3 hM3
  go_wp2_with fail
  refine (walk_rep HM3.out HK.out 17).mono ?_
  rintro e w4 ⟨rfl, hB4⟩
  rw [B1.out, B2.out, B3.out]
  have HM4 : Hid (MemAt w4 (w.heap.size + 1) w.heap.size 9 M.2.R M.2.B) := MemAt.below HM3.out hB4
  have HG4 := Lib.hid (grown_of_below hB4 (some w.heap.size)); clear hB4
  go_wp2_with fail
  refine (walk_rep HM4.out HK.out 16).mono ?_
  rintro e w5 ⟨rfl, hB5⟩
  rw [C1.out, C2.out, C3.out]
  have HM5 : Hid (MemAt w5 (w.heap.size + 1) w.heap.size 9 M.2.R M.2.B) := MemAt.below HM4.out hB5
  have HG5 := Lib.hid (grown_of_below hB5 (some w.heap.size)); clear hB5
  go_wp2_with fail
  refine (left_any HM5.out).mono ?_
  rintro e w6 ⟨rfl, hB6⟩
  rw [D1.out]
  have HG6 := Lib.hid (grown_of_below hB6 (some w.heap.size)); clear hB6
  go_wp2
  go_ret
  refine ⟨rfl, ?_⟩
  have hg := grown_trans (grown_trans (grown_trans (grown_trans HG2.out HG3.out) HG4.out) HG5.out) HG6.out
  exact HB1.out.trans (below_of_grown hg (by have := HB1.out.size; omega) (fun k e => by cases e; omega))

end Go.Proofs.Ytkcoeibbmfkjlaa
