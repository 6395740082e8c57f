/- Package taffrailref01: Alloc, walked. -/
import Derived.Test.YtkcoeibbmfkjlaaRef1Mut
import Derived.Test.YtkcoeibbmfkjlaaPages
import Derived.BigRegion
namespace Go.Proofs.Ytkcoeibbmfkjlaa
open Go.RowKit

section
variable {w : World} {q gb gr n : Nat} {R : Nat → Int} {B : Nat → List UInt8}

set_option maxRecDepth 100000 in
set_option maxHeartbeats 1000000 in
theorem ralloc_mem (h : RefAt w q gb gr n R B) : Calls Try.prog 30 #[.pointer (some ⟨q, 0, none⟩)] w fun e w' =>
    ((∃ k : Nat, k < n ∧ R k = 0 ∧ (∀ j, j < k → 0 < R j) ∧ e = .returned (.tuple #[.int .i64 k, .int .i64 0]) ∧ RefAt w' q gb gr n (updR R k 1) (updB B k zeroPage)) ∨
      ((∀ j, j < n → 0 < R j) ∧ e = .returned (.tuple #[.int .i64 0, .int .i64 11]) ∧ RefAt w' q gb gr n R B)) ∧ Two w w' gb gr := by
  obtain ⟨cr, hc⟩ := h.cellR
  have hn := h.hn
  go_enter Try.func30, Try.ntmps30
  go_wp2
  go_loop [4] (fun i => ∃ k : Nat, k ≤ n ∧ i = .int .i64 k ∧ (∀ j, j < k → 0 < R j)) (fun i => n - (intOf i).toNat)
  case atStart => exact ⟨0, Nat.zero_le _, rfl, fun j hj => by omega⟩
  case round =>
    obtain ⟨k, hk, rfl, hpos⟩ := hrel
    have HP := Lib.hid hpos; clear hpos
    by_cases hlt : k < n
    · have hcj := h.refs hlt
      have hRk := h.hR k hlt
      by_cases hz : 0 < R k
      · have hbz : (R k == 0) = false := by rw [beq_eq_false_iff_ne]; omega
        go_wp2
        go_round
        case rel => exact ⟨k + 1, by omega, by go_num, fun j hj => by
          rcases Nat.lt_or_ge j k with h1 | h1
          · exact HP.out j h1
          · obtain rfl : j = k := by omega
            exact hz⟩
        case measure => simp [intOf]; omega
      · have hbz : (R k == 0) = true := by rw [beq_iff_eq]; omega
        have HZ : Hid (R k = 0) := by unfold Hid; omega
        have hfr := h.frozenR k
        have h1 := h.setR hlt (r := 1) (by omega) (by omega)
        have hT1 : Two w (w.setCell ⟨gr, k, none⟩ (.int .i64 1)) gb gr := Two.of_right (grown_setCell _ _ _ _)
        go_wp2
        generalize w.setCell ⟨gr, k, none⟩ (.int .i64 1) = W1 at *
        obtain ⟨cb, hcb⟩ := h1.cellB
        have h2 := h1.alloc (.cells zeroCells64 5)
        have hcb2 : (W1.alloc (.cells zeroCells64 5)).cell? ⟨q, 0, none⟩ = some (.slice (some ⟨gb, 0, none⟩) n cb) := (((Below.refl _ W1).alloc (Nat.le_refl _) (.cells zeroCells64 5)).cell (p := ⟨q, 0, none⟩) h1.q_lt).trans hcb
        have htx := h2.text hlt
        have hfx := h2.frozenB k
        have hmk := make_page W1
        have hcv := conv_page (W1.alloc (.cells zeroCells64 5)).drew W1.heap.size (heap_alloc_new _ _)
        have hmk2 := make_page W1.drew
        have hd : RefAt (W1.alloc (.cells zeroCells64 5)).drew q gb gr n (updR R k 1) B := h2.keep rfl rfl rfl
        have HM := Lib.hid (hd.setB hlt (l := zeroPage) (by simp [zeroPage]))
        have HT : Hid (Two w ((W1.alloc (.cells zeroCells64 5)).drew.setCell ⟨gb, k, none⟩ (.string (tx zeroPage))) gb gr) := by
          refine (hT1.trans (Two.of_below gb gr ((Below.refl _ W1).alloc (Nat.le_refl _) (.cells zeroCells64 5)))).trans ?_
          have := grown_setCell (W1.alloc (.cells zeroCells64 5)).drew gb k (.string (tx zeroPage))
          exact Two.of_left (grown_drew this)
        have hjn : (k : Int) < (n : Int) := by omega
        unfold tx at HM HT
        generalize (⟨zeroPage.toArray⟩ : ByteArray) = ZS at *
        generalize zeroCells64 = Z at *
        clear h2 hd
        have HT1 := Lib.hid hT1; clear hT1
        go_region
        go_wp2
        go_ret2
        exact ⟨.inl ⟨k, hlt, HZ.out, HP.out, rfl, HM.out⟩, HT.out⟩
    · obtain rfl : k = n := by omega
      go_wp2
      go_ret2
      exact ⟨.inr ⟨HP.out, rfl, h⟩, Two.refl _ _ _⟩

theorem ralloc (h : RefAt w q gb gr n R B) : Calls Try.prog 30 #[.pointer (some ⟨q, 0, none⟩)] w fun e W' =>
      e = .returned (.tuple #[.int .i64 (allocN n R : Nat), .int .i64 (allocE n R)]) ∧ RefAt W' q gb gr n (allocR n R) (allocB n R B) ∧ Two w W' gb gr := by
  refine (ralloc_mem h).mono ?_
  rintro e W' ⟨⟨k, hk, h0, hj, rfl, hM⟩ | ⟨hj, rfl, hM⟩, hG⟩
  · have hs := allocF_some hk h0 hj
    simp only [allocN, allocE, allocR, allocB, hs, Option.isSome_some, if_true, Option.getD_some]
    exact ⟨trivial, hM, hG⟩
  · have hs := allocF_none hj
    simp only [allocN, allocE, allocR, allocB, hs, Option.isSome_none, Bool.false_eq_true, if_false, Option.getD_none]
    exact ⟨rfl, hM, hG⟩

end
end Go.Proofs.Ytkcoeibbmfkjlaa
