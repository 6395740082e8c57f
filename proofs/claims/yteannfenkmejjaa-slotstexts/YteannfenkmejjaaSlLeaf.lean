/- Package slots: none, number, next; slices.Contains of one number, walked. -/
import Derived.Test.YteannfenkmejjaaSlMv
import Derived.Test.YteannfenkmejjaaQuKeep
import Derived.Test.YteannfenkmejjaaSlRow
namespace Go.Proofs.Yteannfenkmejjaa
open Go.RowKit

set_option maxRecDepth 100000 in
theorem none_any (b : Bool) (w : World) : Calls Try.prog 44 #[.bool b] w fun e w' => e = .returned (.int .i64 (if b then 100 else 101)) ∧ w' = w := by
  cases b
  all_goals
    go_enter Try.func44, Try.ntmps44
    go_wp2
    go_ret
    exact ⟨rfl, rfl⟩

set_option maxRecDepth 100000 in
theorem number_any (q i : Nat) (hq : q < 4096) (hi : i < 8) (w : World) : Calls Try.prog 46 #[.int .i64 (q : Int), .int .i64 (i : Int)] w fun e w' => e = .returned (.int .i64 (idS i q)) ∧ w' = w := by
  have e : idS i q = (q : Int) * 8 + (i : Int) := by unfold idS; omega
  rw [e]
  clear e
  have h1 : (q : Int) ≤ 4095 := by omega
  have h2 : (i : Int) ≤ 8 := by omega
  go_enter Try.func46, Try.ntmps46
  go_wp2
  go_ret
  exact ⟨rfl, rfl⟩

set_option maxRecDepth 100000 in
theorem next_any (q : Nat) (hq : q < 4096) (w : World) : Calls Try.prog 36 #[.int .i64 (q : Int)] w fun e w' => e = .returned (.int .i64 (((q + 1) % 4096 : Nat) : Int)) ∧ w' = w := by
  have h1 : (q : Int) ≤ 4095 := by omega
  have h2 : (0 : Int) ≤ (q : Int) + 1 := by omega
  have e : (((q + 1) % 4096 : Nat) : Int) = ((q : Int) + 1).tmod 4096 := by
    rw [Int.tmod_eq_emod_of_nonneg h2]; omega
  rw [e]
  clear e
  go_enter Try.func36, Try.ntmps36
  go_wp2
  go_ret
  exact ⟨rfl, rfl⟩

set_option maxRecDepth 100000 in
set_option maxHeartbeats 1000000 in
theorem index11 (b : Nat) (x y : Int) (w : World) (hc : w.cell? ⟨b, 0, none⟩ = some (.int .i64 x)) : Calls Try.prog 49 #[.slice (some ⟨b, 0, none⟩) 1 1, .int .i64 y] w fun e w' => e = .returned (.int .i64 (if y = x then 0 else -1)) ∧ Below w.heap.size w w' := by
  obtain ⟨r, hr⟩ : ∃ r : Int, (if y = x then 0 else -1) = r := ⟨_, rfl⟩
  rw [hr]
  have HR := Lib.hid hr
  clear hr
  have HC : Hid (∀ k, (w.drewN k).cell? ⟨b, 0, none⟩ = some (.int .i64 x)) := fun _ => hc
  clear hc
  go_enter Try.func49, Try.ntmps49
  go_wp2
  go_loopw [8] (fun t wr => ∃ j : Nat, j ≤ 1 ∧ t = .int .i64 (j : Int) ∧ (0 < j → y ≠ x) ∧ ∃ k, wr = w.drewN k) (fun t _ => 1 - (intOf t).toNat)
  case atStart => exact ⟨0, by omega, rfl, fun h => absurd h (by omega), 0, rfl⟩
  case round =>
    obtain ⟨j, hj, rfl, hno, k, rfl⟩ := hrel
    have c0 := HC.out k
    by_cases h0 : j = 0
    · subst h0
      clear hno hj
      by_cases he : y = x
      · subst he
        have hR : r = 0 := by rw [← HR.out, if_pos rfl]
        have HR0 := Lib.hid hR
        clear hR
        go_wp2
        go_ret
        exact ⟨by (first | (rw [HR0.out]; done) | (rw [HR0.out]; rfl)), ⟨rfl, rfl, rfl, Nat.le_refl _, fun _ _ => rfl⟩⟩
      · have hq : (y == x) = false := by simpa using he
        have HE := Lib.hid he
        clear he
        go_wp2
        exact ⟨⟨1, by omega, rfl, fun _ => HE.out, k, rfl⟩, by simp [intOf]⟩
    · obtain rfl : j = 1 := by omega
      have HE := Lib.hid (hno (by omega))
      have hR : r = -1 := by rw [← HR.out, if_neg (hno (by omega))]
      have HR0 := Lib.hid hR
      clear hno hj h0 c0 hR
      go_wp2
      go_ret
      exact ⟨by (first | (rw [HR0.out]; done) | (rw [HR0.out]; rfl)), ⟨rfl, rfl, rfl, Nat.le_refl _, fun _ _ => rfl⟩⟩

set_option maxRecDepth 100000 in
set_option maxHeartbeats 1000000 in
theorem contains11 (b : Nat) (x y : Int) (w : World) (hc : w.cell? ⟨b, 0, none⟩ = some (.int .i64 x)) : Calls Try.prog 47 #[.slice (some ⟨b, 0, none⟩) 1 1, .int .i64 y] w fun e w' => e = .returned (.bool (y == x)) ∧ Below w.heap.size w w' := by
  have HI := Lib.hid (index11 b x y w hc)
  clear hc
  by_cases he : y = x
  · have hq : (y == x) = true := by simpa using he
    rw [if_pos he] at HI
    rw [hq]
    clear hq he
    go_enter Try.func47, Try.ntmps47
    go_wp2_with (go_at_call 49; refine HI.out.mono ?_; rintro e w1 ⟨rfl, hB⟩; have HB := Lib.hid hB; clear hB)
    go_ret
    exact ⟨rfl, HB.out⟩
  · have hq : (y == x) = false := by simpa using he
    rw [if_neg he] at HI
    rw [hq]
    clear hq he
    go_enter Try.func47, Try.ntmps47
    go_wp2_with (go_at_call 49; refine HI.out.mono ?_; rintro e w1 ⟨rfl, hB⟩; have HB := Lib.hid hB; clear hB)
    go_ret
    exact ⟨rfl, HB.out⟩
end Go.Proofs.Yteannfenkmejjaa
