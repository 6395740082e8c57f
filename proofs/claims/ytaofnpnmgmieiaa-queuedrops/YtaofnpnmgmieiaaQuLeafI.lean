/- Package queue, of int: place, New, Len, Push, walked. -/
import Derived.Test.YtaofnpnmgmieiaaQuPure
import Derived.BigRegion
import Derived.Laws.Tables
namespace Go.Proofs.Ytaofnpnmgmieiaa
open Go.RowKit

abbrev encI (x : Int) : Value := (.int .i64 x)

section
variable {w : World} {q f n : Nat} {L : List Int}

set_option maxRecDepth 100000 in
set_option maxHeartbeats 1000000 in
theorem placeI (i : Nat) (hc : w.cell? ⟨q, 64, none⟩ = some (.int .i64 (f : Int))) (hf : f < 64) (hi : i < 64) :
    Calls Try.prog 25 #[.pointer (some ⟨q, 0, none⟩), .int .i64 (i : Int)] w fun e w' => e = .returned (.pointer (some ⟨q, (f + i) % 64, none⟩)) ∧ Below w.heap.size w w' := by
  go_enter Try.func25, Try.ntmps25
  go_wp2
  go_quiet (fail)
  go_wp2
  go_ret
  exact ⟨rfl, below_drewN' (Below.refl _ _)⟩

def zero66I : Array Value := Array.replicate 64 (.int .i64 0) ++ #[.int .i64 0, .int .i64 0]
theorem zeroI (w : World) : (zeroValue 53).run Try.prog w = .ok (.agg zero66I) w := by
  have h : (Try.prog.info? 53).map (·.zero) = some (some (.agg zero66I)) := by kernel_rfl
  obtain ⟨i, hi, hz⟩ := Option.map_eq_some_iff.1 h
  simp [zeroValue, typeInfo, hi, hz]

set_option maxRecDepth 100000 in
set_option maxHeartbeats 1000000 in
theorem newI (w : World) : Calls Try.prog 10 #[] w fun e w' => e = .returned (.pointer (some ⟨w.heap.size, 0, none⟩)) ∧ QAt encI w' w.heap.size 53 0 [] ∧ Below w.heap.size w w' := by
  have hz := zeroI
  go_enter Try.func10, Try.ntmps10
  go_wp2
  go_ret
  exact ⟨rfl, ⟨⟨_, heap_alloc_new _ _, by rfl, by rfl, by rfl, fun i x h => by cases h⟩, by omega, by simp⟩, (Below.refl _ _).alloc (Nat.le_refl _) _⟩

set_option maxHeartbeats 400000 in
theorem lenI (h : QAt encI w q n f L) : Calls Try.prog 19 #[.pointer (some ⟨q, 0, none⟩)] w fun e w' => e = .returned (.int .i64 (L.length : Int)) ∧ w' = w := by
  have c := h.c65
  go_enter Try.func19, Try.ntmps19
  go_wp2
  go_ret
  exact ⟨rfl, rfl⟩
set_option maxHeartbeats 400000 in
theorem len_nilI (w : World) : Calls Try.prog 19 #[.pointer none] w fun e w' => e = .returned (.int .i64 0) ∧ w' = w := by
  go_enter Try.func19, Try.ntmps19
  go_wp2
  go_ret
  exact ⟨rfl, rfl⟩

set_option maxHeartbeats 400000 in
theorem push_nilI (x : Int) (w : World) : Calls Try.prog 11 #[.pointer none, (.int .i64 x)] w fun e w' => e = .returned (.int .i64 1) ∧ w' = w := by
  go_enter Try.func11, Try.ntmps11
  go_wp2
  go_ret
  exact ⟨rfl, rfl⟩

set_option maxRecDepth 100000 in
set_option maxHeartbeats 1000000 in
theorem pushI (h : QAt encI w q 53 f L) (x : Int) : Calls Try.prog 11 #[.pointer (some ⟨q, 0, none⟩), (.int .i64 x)] w fun e w' => e = .returned (.int .i64 (pushE L)) ∧ QAt encI w' q 53 f (pushL L x) ∧ Tur q w w' := by
  unfold pushE pushL
  have c := h.c65
  have c4 := h.c64
  have hf := h.hf
  have hl := h.hl
  by_cases e : L.length < 64
  · rw [if_pos e, if_pos e]
    have e64 : ¬ (L.length : Int) = 64 := by omega
    go_enter Try.func11, Try.ntmps11
    obtain ⟨old, ho⟩ := h.some_at (i := (f + L.length) % 64) (by omega)
    go_wp2_with (go_at_call 25; refine (placeI L.length c4 hf e).mono ?_; rintro e w1 ⟨rfl, hB⟩; have HB := Lib.hid hB; have o1 := (hB.cell (p := ⟨q, (f + L.length) % 64, none⟩) h.lt).trans ho; have f1 := (h.below' hB).fr; have c5 : (w1.setCell ⟨q, (f + L.length) % 64, none⟩ (encI x)).cell? ⟨q, 65, none⟩ = some (.int .i64 (L.length : Int)) := (by rw [cell_set_ne _ (by omega)]; exact (h.below' hB).c65); clear hB)
    go_ret
    exact ⟨rfl, (h.below' HB.out).push e x, ((Tur.of_below HB.out).set _ _).set _ _⟩
  · rw [if_neg e, if_neg e]
    have e64 : (L.length : Int) = 64 := by omega
    rw [e64] at c
    go_enter Try.func11, Try.ntmps11
    go_wp2
    go_ret
    exact ⟨rfl, h, Tur.refl _⟩
end
end Go.Proofs.Ytaofnpnmgmieiaa
