/- The laws' own 'shown' and 'text'. -/
import Derived.Test.YtnkoahcneocgiaaRiBytes
namespace Go.Proofs.Ytnkoahcneocgiaa
open Go.RowKit Go.Shelf Go.Lib

def textS8 (s : ByteArray) : ByteArray := s.extract 0 (min s.size 100)
theorem textS8_list (s : ByteArray) : (textS8 s).data.toList = s.data.toList.take 100 := by
  unfold textS8
  rw [ByteArray.data_extract, Array.toList_extract, List.extract_eq_take_drop]
  simp only [Nat.sub_zero, List.drop_zero]
  by_cases c : s.size ≤ 100
  · rw [Nat.min_eq_left c, List.take_of_length_le (by rw [← Lib.size_eq]; exact Nat.le_refl _), List.take_of_length_le (by rw [← Lib.size_eq]; exact c)]
  · rw [Nat.min_eq_right (by omega)]
theorem textS8_size (s : ByteArray) : (textS8 s).size = min s.size 100 := by unfold textS8; rw [ByteArray.size_extract]; omega

set_option maxHeartbeats 400000 in
theorem text8 (s : ByteArray) (hs : s.size ≤ maxLen) (w : World) : Calls Try.prog 12 #[.string s] w fun e w' => e = .returned (.string (textS8 s)) ∧ w' = w := by
  unfold maxLen at hs
  unfold textS8
  by_cases c : s.size ≤ 100
  · rw [Nat.min_eq_left c]
    have hm : ¬ ((100 : Int) < (s.size : Int)) := by omega
    go_enter Try.func12, Try.ntmps12
    go_wp2
    go_ret
    exact ⟨rfl, rfl⟩
  · rw [Nat.min_eq_right (by omega)]
    have hm : (100 : Int) < (s.size : Int) := by omega
    go_enter Try.func12, Try.ntmps12
    go_wp2
    go_ret
    exact ⟨rfl, rfl⟩

set_option maxRecDepth 100000 in
set_option maxHeartbeats 2000000 in
theorem shown8 (w : World) : Calls Try.prog 9 #[] w fun e w' => e = .returned (.bool true) ∧ Below w.heap.size w w' := by
  have N := rnew 4 (by omega) (by omega) w
  have hr := Nat.le_refl w.heap.size
  go_enter Try.func9, Try.ntmps9
  go_wp2_with (first
    | (go_at_call 10; refine N.mono ?_; clear N; rintro e w1 ⟨rfl, h1, b1⟩; have Q1 := rput h1 ⟨#[97, 98, 99, 100, 101, 102]⟩ (by decide); have B1 := Lib.hid b1; clear h1 b1)
    | (go_at_call 11; refine Q1.mono ?_; clear Q1; rintro e w2 ⟨rfl, h1, b1⟩; have h1' : Rg w2 w.heap.size 4 [97, 98, 99, 100] := h1; have Q2 := rget h1' 2 (by omega); have B2 := Lib.hid (b1.below B1.out hr B1.out.size); clear h1 h1' b1 B1)
    | (go_at_call 14; refine Q2.mono ?_; clear Q2; rintro e w3 ⟨rfl, h1, b1⟩; have h1' : Rg w3 w.heap.size 4 [99, 100] := h1; have Q3 := rput h1' ⟨#[103, 104]⟩ (by decide); have B3 := Lib.hid (b1.below B2.out hr B2.out.size); clear h1 h1' b1 B2)
    | (go_at_call 11; refine Q3.mono ?_; clear Q3; rintro e w4 ⟨rfl, h1, b1⟩; have h1' : Rg w4 w.heap.size 4 [99, 100, 103, 104] := h1; have Q4 := rbytes h1'; have B4 := Lib.hid (b1.below B3.out hr B3.out.size); clear h1 h1' b1 B3)
    | (go_at_call 10; refine (new_no 0 (by omega) _).mono ?_; rintro e w5 ⟨rfl, rfl⟩)
    | (go_at_call 16; refine Q4.mono ?_; clear Q4; rintro e w6 ⟨rfl, b1⟩; have B5 := Lib.hid (B4.out.trans (b1.mono B4.out.size)); clear b1 B4))
  go_ret
  exact ⟨rfl, B5.out⟩
end Go.Proofs.Ytnkoahcneocgiaa
