/- The leaves of package frames, walked: the count's methods, within. -/
import Derived.Test.YtdkaaoboipphcaaRows
import Derived.WalkKit
import Derived.WalkSpells
import Derived.WalkLawsBesides
import Derived.Lib.Hide
namespace Go.Proofs.Ytdkaaoboipphcaa
open Go.RowKit

set_option maxHeartbeats 400000 in
theorem inUse_any (g o : Nat) (r : Int) (w : World) (hc : w.cell? ⟨g, o, none⟩ = some (.int .i64 r)) :
    Calls Try.prog 14 #[.pointer (some ⟨g, o, none⟩)] w fun e w' => e = .returned (.bool (decide (0 < r))) ∧ w = w' := by
  go_enter Try.func14, Try.ntmps14
  go_wp2
  go_ret
  exact ⟨rfl, rfl⟩

set_option maxHeartbeats 400000 in
theorem full_any (g o : Nat) (r : Int) (w : World) (hc : w.cell? ⟨g, o, none⟩ = some (.int .i64 r)) :
    Calls Try.prog 66 #[.pointer (some ⟨g, o, none⟩)] w fun e w' => e = .returned (.bool (decide (1000 ≤ r))) ∧ w = w' := by
  go_enter Try.func66, Try.ntmps66
  go_wp2
  go_ret
  exact ⟨rfl, rfl⟩

set_option maxHeartbeats 400000 in
theorem share_any (g o : Nat) (r : Int) (w : World) (hc : w.cell? ⟨g, o, none⟩ = some (.int .i64 r)) (hf : w.frozen? ⟨g, o, none⟩ = false) (h0 : 0 ≤ r) (h1 : r ≤ 1000) :
    Calls Try.prog 16 #[.pointer (some ⟨g, o, none⟩)] w fun e w' => e = .returned (.tuple #[]) ∧ w.setCell ⟨g, o, none⟩ (.int .i64 (r + 1)) = w' := by
  go_enter Try.func16, Try.ntmps16
  go_wp2
  go_end0
  exact ⟨rfl, rfl⟩

set_option maxHeartbeats 400000 in
theorem free_any (g o : Nat) (r : Int) (w : World) (hc : w.cell? ⟨g, o, none⟩ = some (.int .i64 r)) (hf : w.frozen? ⟨g, o, none⟩ = false) (h0 : 0 ≤ r) (h1 : r ≤ 1000) :
    Calls Try.prog 67 #[.pointer (some ⟨g, o, none⟩)] w fun e w' => e = .returned (.tuple #[]) ∧ w.setCell ⟨g, o, none⟩ (.int .i64 (r - 1)) = w' := by
  go_enter Try.func67, Try.ntmps67
  go_wp2
  go_end0
  exact ⟨rfl, rfl⟩


/-- What 'within' tells of a list of numbers. -/
def withinL : Int → List Int → Bool
  | _, [] => true
  | m, x :: r => if x < 0 ∨ m < x then false else withinL (m - x) r

/-- what is left of most behind the numbers. -/
def leftL (m : Int) (l : List Int) : Int := l.foldl (· - ·) m
theorem leftL_snoc (m : Int) (l : List Int) (x : Int) : leftL m (l ++ [x]) = leftL m l - x := by simp [leftL]
/-- all numbers so far were within. -/
def okL : Int → List Int → Prop
  | _, [] => True
  | m, x :: r => 0 ≤ x ∧ x ≤ m ∧ okL (m - x) r
theorem okL_snoc : ∀ (l : List Int) (m x : Int), okL m (l ++ [x]) ↔ okL m l ∧ 0 ≤ x ∧ x ≤ leftL m l
  | [], m, x => by simp [okL, leftL]
  | y :: r, m, x => by
    have ih := okL_snoc r (m - y) x
    simp only [List.cons_append, okL, ih, leftL, List.foldl_cons]
    constructor
    · rintro ⟨a, b, c, d, e⟩; exact ⟨⟨a, b, c⟩, d, e⟩
    · rintro ⟨⟨a, b, c⟩, d, e⟩; exact ⟨a, b, c, d, e⟩
theorem withinL_append : ∀ (l r : List Int) (m : Int), okL m l → withinL m (l ++ r) = withinL (leftL m l) r
  | [], r, m, _ => rfl
  | y :: l, r, m, h => by
    obtain ⟨a, b, c⟩ := h
    have ih := withinL_append l r (m - y) c
    simp only [List.cons_append, withinL, leftL, List.foldl_cons]
    rw [if_neg (by omega)]
    exact ih
theorem leftL_bd : ∀ (l : List Int) (m : Int), okL m l → leftL m l ≤ m ∧ (l = [] ∨ 0 ≤ leftL m l)
  | [], m, _ => by simp [leftL]
  | y :: l, m, h => by
    obtain ⟨a, b, c⟩ := h
    have ih := leftL_bd l (m - y) c
    have e : leftL m (y :: l) = leftL (m - y) l := rfl
    rw [e]
    refine ⟨by omega, .inr ?_⟩
    rcases ih.2 with h | h
    · subst h; simp [leftL]; omega
    · exact h

theorem take_snoc_int (zs : List Int) (k : Nat) (h : k < zs.length) : zs.take (k + 1) = zs.take k ++ [zs[k]?.getD 0] := by
  rw [List.take_succ_eq_append_getElem h]; simp [h]
theorem split_at_int (zs : List Int) (k : Nat) (h : k < zs.length) : zs = zs.take k ++ zs[k]?.getD 0 :: zs.drop (k + 1) := by
  have := List.take_append_drop k zs
  rw [List.drop_eq_getElem_cons h] at this
  simp [h]

set_option maxHeartbeats 1000000 in
theorem within_any (m : Int) (b : Nat) (zs : List Int) (w : World) (hm0 : -1 ≤ m) (hm : m ≤ 1000000) (hz : zs.length ≤ 8)
    (hc : ∀ j, j < zs.length → w.cell? ⟨b, j, none⟩ = some (.int .i64 (zs[j]?.getD 0))) (cap : Nat) :
    Calls Try.prog 65 #[.int .i64 m, .slice (some ⟨b, 0, none⟩) zs.length cap] w fun e w' => e = .returned (.bool (withinL m zs)) ∧ w = w' := by
  go_enter Try.func65, Try.ntmps65
  have HC := Lib.hid hc; clear hc
  go_wp2
  go_loop [5, 11, 7] (fun t i _ => ∃ k : Nat, k ≤ zs.length ∧ i = .int .i64 k ∧ t = .int .i64 (leftL m (zs.take k)) ∧ okL m (zs.take k)) (fun _ i _ => zs.length - (intOf i).toNat)
  case atStart => exact ⟨0, Nat.zero_le _, rfl, rfl, trivial⟩
  case round =>
    obtain ⟨k, hk, rfl, rfl, hok⟩ := hrel
    have HO := Lib.hid hok; clear hok
    have hbd := leftL_bd _ _ HO.out
    have hb1 := hbd.1
    have hb0 : -1 ≤ leftL m (zs.take k) := by
      rcases hbd.2 with h | h
      · rw [h]; exact hm0
      · omega
    clear hbd
    by_cases hlt : k < zs.length
    · have hck := HC.out k hlt
      have hTS := Lib.hid (take_snoc_int zs k hlt)
      have hSP := Lib.hid (split_at_int zs k hlt)
      generalize zs[k]?.getD 0 = x at hck hTS hSP
      generalize hL : leftL m (zs.take k) = L at *
      have HL := Lib.hid hL; clear hL
      have hfin : withinL m zs = if x < 0 ∨ L < x then false else withinL (L - x) (zs.drop (k + 1)) := by
        conv => lhs; rw [hSP.out]
        rw [withinL_append _ _ _ HO.out, HL.out]; rfl
      have HF := Lib.hid hfin; clear hfin
      by_cases hx0 : x < 0
      · go_wp2
        go_ret
        refine ⟨?_, rfl⟩
        rw [HF.out, if_pos (.inl hx0)]; rfl
      · by_cases hxl : L < x
        · have hx0' : ((x : Int) < 0) = False := by simpa using hx0
          go_wp2
          go_ret
          refine ⟨?_, rfl⟩
          rw [HF.out, if_pos (.inr hxl)]; rfl
        · go_wp2
          go_round
          case rel => exact ⟨k + 1, by omega, by go_num, by rw [hTS.out, leftL_snoc, HL.out], by rw [hTS.out, okL_snoc]; exact ⟨HO.out, by omega, by rw [HL.out]; omega⟩⟩
          case measure => simp [intOf]; omega
    · obtain rfl : k = zs.length := by omega
      go_wp2
      go_ret
      refine ⟨?_, rfl⟩
      have : withinL m zs = true := by
        have h2 := withinL_append (zs.take zs.length) [] m HO.out
        simpa [withinL] using h2
      rw [this]; rfl

end Go.Proofs.Ytdkaaoboipphcaa
