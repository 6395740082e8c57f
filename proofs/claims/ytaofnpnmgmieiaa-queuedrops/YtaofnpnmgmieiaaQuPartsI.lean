/- Package queue, of int: parts, walked. -/
import Derived.Test.YtaofnpnmgmieiaaQuLeafI
namespace Go.Proofs.Ytaofnpnmgmieiaa
open Go.RowKit


section
variable {w : World} {q f n : Nat} {L : List Int}

set_option maxHeartbeats 400000 in
theorem parts_nilI (w : World) : Calls Try.prog 28 #[.pointer none] w fun e w' => e = .returned (.slice none 0 0) ∧ w' = w := by
  go_enter Try.func28, Try.ntmps28
  go_wp2
  go_ret
  exact ⟨rfl, rfl⟩

set_option maxRecDepth 100000 in
set_option maxHeartbeats 2000000 in
theorem partsI (h : QAt encI w q 53 f L) : Calls Try.prog 28 #[.pointer (some ⟨q, 0, none⟩)] w fun e w' =>
    ∃ B o, e = .returned (.slice (some ⟨B, 0, none⟩) 2 2) ∧ w.heap.size ≤ B ∧ (0 < len1 f L.length → o = f) ∧ BoxA w' B 26 #[.slice (some ⟨q, o, none⟩) (len1 f L.length) (len1 f L.length), .slice (some ⟨q, 0, none⟩) (len2 f L.length) (len2 f L.length)] ∧ Below w.heap.size w w' := by
  have hf := h.hf
  have hl := h.hl
  have HH := Lib.hid h
  have c64 := h.c64
  have c65 := h.c65
  have hq := h.lt
  clear h
  by_cases hL : L = []
  · subst hL
    have hc : (f : Int) ≤ 64 := by omega
    have e1 : len1 f 0 = 0 := by unfold len1; omega
    have e2 : len2 f 0 = 0 := by unfold len2; omega
    have c65 : w.cell? ⟨q, 65, none⟩ = some (.int .i64 0) := c65
    rw [List.length_nil, e1, e2]
    go_enter Try.func28, Try.ntmps28
    go_wp2
    go_quiet (fail)
    go_wp2
    go_quiet (fail)
    go_wp2
    go_region
    go_wp2
    go_ret
    exact ⟨w.heap.size, 0, rfl, Nat.le_refl _, fun h => absurd h (by omega), BoxA.new _ _ _, (below_drewN' (Below.refl _ _)).alloc (by simp) _⟩
  have hn : 0 < L.length := List.length_pos_iff.2 hL
  by_cases hc : (f : Int) + (L.length : Int) ≤ 64
  · have b1 : (f : Int) ≤ (f : Int) + (L.length : Int) := by omega
    have e1 : len1 f L.length = L.length := by unfold len1; omega
    have e2 : len2 f L.length = 0 := by unfold len2; omega
    rw [e1, e2]
    go_enter Try.func28, Try.ntmps28
    go_wp2
    go_quiet (fail)
    go_wp2
    go_quiet (fail)
    go_wp2
    go_region
    go_wp2
    go_ret
    exact ⟨w.heap.size, f, rfl, Nat.le_refl _, fun _ => rfl, BoxA.new _ _ _, (below_drewN' (Below.refl _ _)).alloc (by simp) _⟩
  · have hc' : 64 < (f : Int) + (L.length : Int) := by omega
    have b1 : (f : Int) ≤ 64 := by omega
    obtain ⟨r, hr⟩ : ∃ r : Nat, f + L.length - 64 = r := ⟨_, rfl⟩
    have b2 : (f : Int) + (L.length : Int) - 64 = (r : Int) := by omega
    have b3 : (r : Int) ≤ 64 := by omega
    have e1 : len1 f L.length = 64 - f := by unfold len1; omega
    have e2 : len2 f L.length = r := by unfold len2; omega
    rw [e1, e2]
    go_enter Try.func28, Try.ntmps28
    go_wp2
    go_quiet (fail)
    go_wp2
    go_quiet (fail)
    go_wp2
    go_region
    go_wp2
    go_ret
    exact ⟨w.heap.size, f, rfl, Nat.le_refl _, fun _ => rfl, BoxA.new _ _ _, (below_drewN' (Below.refl _ _)).alloc (by simp) _⟩
end
end Go.Proofs.Ytaofnpnmgmieiaa
