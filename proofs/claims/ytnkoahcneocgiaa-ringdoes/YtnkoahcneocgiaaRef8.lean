/- The document's own Put and Get (taffrailref08), over the same bytes. -/
import Derived.Test.YtnkoahcneocgiaaRiText
namespace Go.Proofs.Ytnkoahcneocgiaa
open Go.RowKit Go.Lib

set_option maxRecDepth 100000 in
set_option maxHeartbeats 1000000 in
theorem ref_put (L : List UInt8) (N : Nat) (T : ByteArray) (hL : L.length ≤ N) (hN : N ≤ 64) (w : World) : Calls Try.prog 13 #[.string ⟨L.toArray⟩, .int .i64 (N : Int), .string T] w fun e w' =>
    e = .returned (.tuple #[.string ⟨(L ++ T.data.toList.take (N - L.length)).toArray⟩, .int .i64 ((min T.size (N - L.length) : Nat) : Int)]) ∧ w' = w := by
  obtain ⟨k, hk⟩ : ∃ k, min T.size (N - L.length) = k := ⟨_, rfl⟩
  have hA : ∀ W, (Op.stringOp .add (⟨L.toArray⟩ : ByteArray) (T.extract 0 k)).run Try.prog W = .ok (.string ⟨(L ++ T.data.toList.take (N - L.length)).toArray⟩) W :=
    add_known (by
      show L ++ _ = L ++ T.data.toList.take (N - L.length)
      rw [take_extract8]
      congr 1
      by_cases c : N - L.length ≤ T.size
      · rw [show k = N - L.length by omega]
      · rw [List.take_of_length_le (by rw [list_size]; omega), List.take_of_length_le (by rw [list_size]; omega)]) (by rw [size_mk, List.length_append, List.length_take]; omega)
  have hsz : (⟨L.toArray⟩ : ByteArray).size = L.length := size_mk L
  rw [hk]
  generalize (⟨(L ++ T.data.toList.take (N - L.length)).toArray⟩ : ByteArray) = Z at *
  generalize (⟨L.toArray⟩ : ByteArray) = H at *
  obtain ⟨t, ht⟩ : ∃ t, T.size = t := ⟨_, rfl⟩
  obtain ⟨l, hl⟩ : ∃ l, L.length = l := ⟨_, rfl⟩
  rw [hl] at hsz hk hL
  rw [ht] at hk
  have hkt : (k : Int) ≤ (t : Int) := by omega
  have hmin : (if (N : Int) - (l : Int) < (t : Int) then (N : Int) - (l : Int) else (t : Int)) = (k : Int) := by split <;> omega
  clear hk hl
  go_enter Try.func13, Try.ntmps13
  go_wp2
  go_ret2
  exact ⟨rfl, rfl⟩

set_option maxRecDepth 100000 in
set_option maxHeartbeats 1000000 in
theorem ref_get (L : List UInt8) (n : Int) (w : World) : Calls Try.prog 15 #[.string ⟨L.toArray⟩, .int .i64 n] w fun e w' =>
    e = .returned (.tuple #[.string ⟨(getT n L).toArray⟩, .string ⟨(getR n L).toArray⟩, .int .i64 (getE n)]) ∧ Below w.heap.size w w' := by
  unfold getT getR getE
  have hsz : (⟨L.toArray⟩ : ByteArray).size = L.length := size_mk L
  by_cases c : n < 0
  · rw [if_pos c, if_pos c, if_pos c]
    generalize (⟨L.toArray⟩ : ByteArray) = H at *
    go_enter Try.func15, Try.ntmps15
    go_wp2
    go_ret3
    exact ⟨rfl, Below.refl _ _⟩
  · rw [if_neg c, if_neg c, if_neg c]
    obtain ⟨m, rfl⟩ : ∃ m : Nat, n = (m : Int) := ⟨n.toNat, by omega⟩
    rw [Int.toNat_natCast]
    by_cases d : m ≤ L.length
    · have e1 : (⟨(L.take m).toArray⟩ : ByteArray) = (⟨L.toArray⟩ : ByteArray).extract 0 m := bytes_ext (by rw [take_extract8])
      have e2 : (⟨(L.drop m).toArray⟩ : ByteArray) = (⟨L.toArray⟩ : ByteArray).extract m (⟨L.toArray⟩ : ByteArray).size := bytes_ext (by rw [drop_extract])
      rw [e1, e2, hsz]
      clear e1 e2
      generalize (⟨L.toArray⟩ : ByteArray) = H at *
      obtain ⟨l, hl⟩ : ∃ l, L.length = l := ⟨_, rfl⟩
      rw [hl] at hsz d ⊢
      have hkl : (m : Int) ≤ (l : Int) := by omega
      have hnl : ¬ ((l : Int) < (m : Int)) := by omega
      clear hl d
      go_enter Try.func15, Try.ntmps15
      go_wp2
      go_quiet (fail)
      go_wp2
      go_ret3
      exact ⟨rfl, below_drewN' (Below.refl _ _)⟩
    · have e1 : (⟨(L.take m).toArray⟩ : ByteArray) = (⟨L.toArray⟩ : ByteArray).extract 0 L.length := bytes_ext (by
        rw [take_extract8]
        show L.take m = L.take L.length
        rw [List.take_of_length_le (by omega), List.take_of_length_le (Nat.le_refl _)])
      have e2 : (⟨(L.drop m).toArray⟩ : ByteArray) = ByteArray.empty := bytes_ext (by
        show L.drop m = []
        exact List.drop_eq_nil_of_le (by omega))
      rw [e1, e2]
      clear e1 e2
      generalize (⟨L.toArray⟩ : ByteArray) = H at *
      obtain ⟨l, hl⟩ : ∃ l, L.length = l := ⟨_, rfl⟩
      rw [hl] at hsz d ⊢
      have hnl : (l : Int) < (m : Int) := by omega
      clear hl d
      go_enter Try.func15, Try.ntmps15
      go_wp2
      go_quiet (fail)
      go_wp2
      go_ret3
      exact ⟨rfl, below_drewN' (Below.refl _ _)⟩
end Go.Proofs.Ytnkoahcneocgiaa
