/- Layer 10's laws: 'text' (the first fifty bytes), strings cut and joined. -/
import Derived.Test.YtpfldelmbigmbaaDoorPipeBrokenOf
import Derived.Laws.Concat
namespace Go.Proofs.YtpfldelmbigmbaaDoor
open Go.RowKit

theorem ba_ext {a b : ByteArray} (h : a.data.toList = b.data.toList) : a = b := ByteArray.ext (by simpa using h)
theorem mk_size (l : List UInt8) : (⟨l.toArray⟩ : ByteArray).size = l.length := by simp [ByteArray.size]
theorem cut_list (T : ByteArray) (k : Nat) : (T.extract 0 k).data.toList = T.data.toList.take k := by
  rw [ByteArray.data_extract, Array.toList_extract, List.extract_eq_take_drop, Nat.sub_zero, List.drop_zero]
/-- '+' of two strings, one that is known. -/
theorem join_known {X Y Z : ByteArray} (h : X.data.toList ++ Y.data.toList = Z.data.toList) (hs : Z.size ≤ 1000000) : ∀ W, (Op.stringOp .add X Y).run Tryd.prog W = .ok (.string Z) W := fun W => by
  have hl : X.size + Y.size = Z.size := by have := congrArg List.length h; rw [List.length_append, size_list, size_list, size_list] at this; exact this
  rw [run_string_add_sum W X Y (by omega), show X ++ Y = Z from ba_ext (by rw [ByteArray.data_append, Array.toList_append]; exact h)]
def textS10 (s : ByteArray) : ByteArray := s.extract 0 (min s.size 50)
theorem textS10_size (s : ByteArray) : (textS10 s).size = min s.size 50 := by unfold textS10; rw [ByteArray.size_extract]; omega

set_option maxHeartbeats 400000 in
theorem text10 (s : ByteArray) (hs : s.size ≤ maxLen) (w : World) : Calls Tryd.prog 15 #[.string s] w fun e w' => e = .returned (.string (textS10 s)) ∧ w' = w := by
  unfold maxLen at hs
  unfold textS10
  by_cases c : s.size ≤ 50
  · rw [Nat.min_eq_left c]
    have hm : ¬ ((50 : Int) < (s.size : Int)) := by omega
    go_enter Tryd.func15, Tryd.ntmps15
    go_wp2
    go_ret
    exact ⟨rfl, rfl⟩
  · rw [Nat.min_eq_right (by omega)]
    have hm : (50 : Int) < (s.size : Int) := by omega
    go_enter Tryd.func15, Tryd.ntmps15
    go_wp2
    go_ret
    exact ⟨rfl, rfl⟩
end Go.Proofs.YtpfldelmbigmbaaDoor
