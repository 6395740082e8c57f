/- Package proc: the closures and small functions that make of a process another one, or ask something of it. -/
import Derived.Test.YtonllnbincgdpaaProcMap
import Derived.BigRegion
namespace Go.Proofs.Ytonllnbincgdpaa
open Go.RowKit

theorem below_drew6 {n : Nat} {w w1 : World} (h : Below n w w1) : Below n w w1.drew := ⟨h.os, h.tape, h.output, h.size, h.block⟩

set_option maxRecDepth 100000 in
set_option maxHeartbeats 1000000 in
theorem awake_eq (q : PV) (w : World) : Calls Try.prog 46 #[q.val] w fun e w' => e = .returned (awakeV q).val ∧ w' = (w.alloc (.cells (awakeV q).cells 39)).alloc (.cells (awakeV q).cells 39) := by
  obtain ⟨a0, a1, a2, a3, a4, a5, a6, a7⟩ := q
  unfold PV.val PV.cells awakeV
  dsimp only
  go_enter Try.func46, Try.ntmps46
  go_wp2
  refine bodyPost_ret (v := .agg #[.int .i64 a0, .int .i64 a1, .int .i64 1, .int .i64 a3, .int .i64 a4, .string ⟨#[]⟩, .int .i64 a6, .bool a7]) (by simp [results, Try.results46, go_sem]) rfl ⟨rfl, rfl⟩
theorem awake_any (q : PV) (w : World) : Calls Try.prog 46 #[q.val] w fun e w' => e = .returned (awakeV q).val ∧ Below w.heap.size w w' :=
  (awake_eq q w).mono (by rintro e w' ⟨rfl, rfl⟩; exact ⟨rfl, ((Below.refl _ _).alloc (Nat.le_refl _) _).alloc (by simp) _⟩)

set_option maxRecDepth 100000 in
set_option maxHeartbeats 1000000 in
theorem orph_any (q : PV) (w : World) : Calls Try.prog 40 #[q.val] w fun e w' => e = .returned (orphV q).val ∧ Below w.heap.size w w' := by
  obtain ⟨a0, a1, a2, a3, a4, a5, a6, a7⟩ := q
  unfold PV.val PV.cells orphV
  dsimp only
  go_enter Try.func40, Try.ntmps40
  go_wp2
  refine bodyPost_ret (v := .agg #[.int .i64 a0, .int .i64 1, .int .i64 a2, .int .i64 a3, .int .i64 a4, .string a5, .int .i64 a6, .bool a7]) (by simp [results, Try.results40, go_sem]) rfl ⟨rfl, ((Below.refl _ _).alloc (Nat.le_refl _) _).alloc (by simp) _⟩

set_option maxRecDepth 100000 in
set_option maxHeartbeats 1000000 in
theorem all_any (q : PV) (w : World) : Calls Try.prog 34 #[q.val] w fun e w' => e = .returned (.bool true) ∧ Below w.heap.size w w' := by
  obtain ⟨a0, a1, a2, a3, a4, a5, a6, a7⟩ := q
  unfold PV.val PV.cells
  dsimp only
  go_enter Try.func34, Try.ntmps34
  go_wp2
  go_ret
  exact ⟨rfl, (Below.refl _ _).alloc (Nat.le_refl _) _⟩

set_option maxRecDepth 100000 in
set_option maxHeartbeats 1000000 in
theorem child_any (q : PV) (k : Int) (c : Nat) (w : World) (hc : BoxA w c 3 #[.int .i64 k]) : Calls Try.prog 41 #[q.val, .pointer (some ⟨c, 0, none⟩)] w fun e w' => e = .returned (.bool (q.par == k)) ∧ Below w.heap.size w w' := by
  obtain ⟨a0, a1, a2, a3, a4, a5, a6, a7⟩ := q
  unfold PV.val PV.cells
  dsimp only
  have c0 := (hc.alloc (.cells #[.int .i64 a0, .int .i64 a1, .int .i64 a2, .int .i64 a3, .int .i64 a4, .string a5, .int .i64 a6, .bool a7] 39)).at 0 (v := .int .i64 k) rfl
  go_enter Try.func41, Try.ntmps41
  go_wp2
  go_ret
  exact ⟨by first | rfl | (congr 2; exact Bool.eq_iff_iff.2 (by simp; try omega)), (Below.refl _ _).alloc (Nat.le_refl _) _⟩

set_option maxRecDepth 100000 in
set_option maxHeartbeats 1000000 in
theorem sleeps_any (q : PV) (s : ByteArray) (c : Nat) (w : World) (hc : BoxA w c 9 #[.string s]) : Calls Try.prog 45 #[q.val, .pointer (some ⟨c, 0, none⟩)] w fun e w' => e = .returned (.bool (wakB s q)) ∧ Below w.heap.size w w' := by
  obtain ⟨a0, a1, a2, a3, a4, a5, a6, a7⟩ := q
  unfold PV.val PV.cells wakB
  dsimp only
  have c0 := (hc.alloc (.cells #[.int .i64 a0, .int .i64 a1, .int .i64 a2, .int .i64 a3, .int .i64 a4, .string a5, .int .i64 a6, .bool a7] 39)).at 0 (v := .string s) rfl
  by_cases h2 : a2 = 2
  · subst h2
    go_enter Try.func45, Try.ntmps45
    go_wp2
    go_ret
    exact ⟨by rw [← beq_toListBytes]; rfl, (Below.refl _ _).alloc (Nat.le_refl _) _⟩
  · have e2 : (a2 == 2) = false := by simpa using h2
    go_enter Try.func45, Try.ntmps45
    go_wp2
    go_ret
    exact ⟨by first | rfl | simp [e2], (Below.refl _ _).alloc (Nat.le_refl _) _⟩

set_option maxRecDepth 100000 in
set_option maxHeartbeats 1000000 in
theorem bec_any (q : PV) (u v : Int) (c : Nat) (w : World) (hc : BoxA w c 30 #[.int .i64 u, .int .i64 v]) : Calls Try.prog 39 #[q.val, .pointer (some ⟨c, 0, none⟩)] w fun e w' => e = .returned (becV u v q).val ∧ Below w.heap.size w w' := by
  obtain ⟨a0, a1, a2, a3, a4, a5, a6, a7⟩ := q
  unfold PV.val PV.cells becV
  dsimp only
  have hb := (hc.alloc (.cells #[.int .i64 a0, .int .i64 a1, .int .i64 a2, .int .i64 a3, .int .i64 a4, .string a5, .int .i64 a6, .bool a7] 39)).alloc (.cells #[.int .i64 0, .int .i64 0, .int .i64 0, .int .i64 0, .int .i64 0, .string ⟨#[]⟩, .int .i64 0, .bool false] 39)
  have c0 := hb.at 0 rfl
  have c1 := hb.at 1 rfl
  go_enter Try.func39, Try.ntmps39
  go_wp2
  refine bodyPost_ret (v := .agg #[.int .i64 a0, .int .i64 a1, .int .i64 a2, .int .i64 u, .int .i64 v, .string a5, .int .i64 a6, .bool a7]) (by simp [results, Try.results39, go_sem]) rfl ⟨rfl, ((Below.refl _ _).alloc (Nat.le_refl _) _).alloc (by simp) _⟩

set_option maxRecDepth 100000 in
set_option maxHeartbeats 1000000 in
theorem ex_any (q : PV) (s : Int) (c : Nat) (w : World) (hc : BoxA w c 3 #[.int .i64 s]) : Calls Try.prog 42 #[q.val, .pointer (some ⟨c, 0, none⟩)] w fun e w' => e = .returned (exV s q).val ∧ Below w.heap.size w w' := by
  obtain ⟨a0, a1, a2, a3, a4, a5, a6, a7⟩ := q
  unfold PV.val PV.cells exV
  dsimp only
  have c0 : ∀ xs ys, ((w.alloc (.cells xs 39)).alloc (.cells ys 39)).cell? ⟨c, 0, none⟩ = some (.int .i64 s) := fun xs ys => ((hc.alloc _).alloc _).at 0 (v := .int .i64 s) rfl
  go_enter Try.func42, Try.ntmps42
  go_wp2_with fail
  go_region
  go_wp2
  refine bodyPost_ret (v := .agg #[.int .i64 a0, .int .i64 a1, .int .i64 3, .int .i64 a3, .int .i64 a4, .string a5, .int .i64 s, .bool a7]) (by simp [results, Try.results42, go_sem]) rfl ⟨rfl, below_drew6 (((Below.refl _ _).alloc (Nat.le_refl _) _).alloc (by simp) _)⟩

set_option maxRecDepth 100000 in
set_option maxHeartbeats 1000000 in
theorem sl_any (q : PV) (s : ByteArray) (c : Nat) (w : World) (hc : BoxA w c 9 #[.string s]) : Calls Try.prog 44 #[q.val, .pointer (some ⟨c, 0, none⟩)] w fun e w' => e = .returned (slV s q).val ∧ Below w.heap.size w w' := by
  obtain ⟨a0, a1, a2, a3, a4, a5, a6, a7⟩ := q
  unfold PV.val PV.cells slV
  dsimp only
  have c0 : ∀ xs ys, ((w.alloc (.cells xs 39)).alloc (.cells ys 39)).cell? ⟨c, 0, none⟩ = some (.string s) := fun xs ys => ((hc.alloc _).alloc _).at 0 (v := .string s) rfl
  go_enter Try.func44, Try.ntmps44
  go_wp2_with fail
  go_region
  go_wp2
  refine bodyPost_ret (v := .agg #[.int .i64 a0, .int .i64 a1, .int .i64 2, .int .i64 a3, .int .i64 a4, .string s, .int .i64 a6, .bool a7]) (by simp [results, Try.results44, go_sem]) rfl ⟨rfl, below_drew6 (((Below.refl _ _).alloc (Nat.le_refl _) _).alloc (by simp) _)⟩

set_option maxRecDepth 100000 in
set_option maxHeartbeats 1000000 in
theorem kill_any (q : PV) (w : World) : Calls Try.prog 43 #[q.val] w fun e w' => e = .returned (killV q).val ∧ Below w.heap.size w w' := by
  obtain ⟨a0, a1, a2, a3, a4, a5, a6, a7⟩ := q
  by_cases h2 : a2 = 2
  · subst h2
    have hk : killV ⟨a0, a1, 2, a3, a4, a5, a6, a7⟩ = ⟨a0, a1, 1, a3, a4, ⟨#[]⟩, a6, true⟩ := by simp [killV, awakeV]
    rw [hk]
    unfold PV.val PV.cells
    dsimp only
    go_enter Try.func43, Try.ntmps43
    go_wp2_with fail
    refine (awake_eq ⟨a0, a1, 2, a3, a4, a5, a6, a7⟩ _).mono ?_
    rintro e w1 ⟨rfl, rfl⟩
    unfold awakeV PV.val PV.cells
    dsimp only
    go_wp2
    refine bodyPost_ret (v := .agg #[.int .i64 a0, .int .i64 a1, .int .i64 1, .int .i64 a3, .int .i64 a4, .string ⟨#[]⟩, .int .i64 a6, .bool true]) (by simp [results, Try.results43, go_sem]) rfl ⟨rfl, ((((Below.refl _ _).alloc (Nat.le_refl _) _).alloc (by simp) _).alloc (by simp; omega) _).alloc (by simp; omega) _⟩
  · by_cases h1 : a2 = 1
    · subst h1
      have hk : killV ⟨a0, a1, 1, a3, a4, a5, a6, a7⟩ = ⟨a0, a1, 1, a3, a4, a5, a6, true⟩ := by simp [killV]
      rw [hk]
      unfold PV.val PV.cells
      dsimp only
      go_enter Try.func43, Try.ntmps43
      go_wp2
      refine bodyPost_ret (v := .agg #[.int .i64 a0, .int .i64 a1, .int .i64 1, .int .i64 a3, .int .i64 a4, .string a5, .int .i64 a6, .bool true]) (by simp [results, Try.results43, go_sem]) rfl ⟨rfl, ((Below.refl _ _).alloc (Nat.le_refl _) _).alloc (by simp) _⟩
    · have hk : killV ⟨a0, a1, a2, a3, a4, a5, a6, a7⟩ = ⟨a0, a1, a2, a3, a4, a5, a6, a7⟩ := by simp [killV, h2, h1]
      have e2 : (a2 == 2) = false := by simpa using h2
      have e1 : (a2 == 1) = false := by simpa using h1
      rw [hk]
      unfold PV.val PV.cells
      dsimp only
      go_enter Try.func43, Try.ntmps43
      go_wp2
      refine bodyPost_ret (v := .agg #[.int .i64 a0, .int .i64 a1, .int .i64 a2, .int .i64 a3, .int .i64 a4, .string a5, .int .i64 a6, .bool a7]) (by simp [results, Try.results43, go_sem]) rfl ⟨rfl, ((Below.refl _ _).alloc (Nat.le_refl _) _).alloc (by simp) _⟩

end Go.Proofs.Ytonllnbincgdpaa
