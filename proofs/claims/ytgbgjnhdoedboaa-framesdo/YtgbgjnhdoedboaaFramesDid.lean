/- did: an act on both memories: the same is told, and they stay the same. -/
import Derived.Test.YtgbgjnhdoedboaaRef1Both
import Derived.Test.YtgbgjnhdoedboaaFramesActs
import Derived.Deep.RegionHeld3
namespace Go.Proofs.Ytgbgjnhdoedboaa
open Go.RowKit

/-- the first seventy bytes. -/
def textS (s : ByteArray) : ByteArray := if s.size ≤ 70 then s else s.extract 0 70
theorem textS_size (s : ByteArray) : (textS s).size ≤ 70 := by
  unfold textS; split
  · assumption
  · rw [ByteArray.size_extract]; omega

set_option maxHeartbeats 400000 in
theorem text_any (s : ByteArray) (hs : s.size ≤ maxLen) (w : World) : Calls Try.prog 25 #[.string s] w fun e w' => e = .returned (.string (textS s)) ∧ w = w' := by
  unfold maxLen at hs
  by_cases h : s.size ≤ 70
  · have HT : Hid (textS s = s) := by unfold Hid textS; rw [if_pos h]
    go_enter Try.func25, Try.ntmps25
    go_wp2
    all_goals
      go_ret
      refine ⟨?_, rfl⟩
      rw [HT.out]
      first | rfl | (exfalso; omega)
  · have HT : Hid (textS s = s.extract 0 70) := by unfold Hid textS; rw [if_neg h]
    go_enter Try.func25, Try.ntmps25
    go_wp2
    all_goals
      go_ret
      refine ⟨?_, rfl⟩
      rw [HT.out]
      first | rfl | (exfalso; omega)

section
variable {w : World} {p g q gb gr n : Nat} {R : Nat → Int} {B : Nat → List UInt8}

set_option maxRecDepth 100000 in
set_option maxHeartbeats 1000000 in
theorem did_share (h : Both w p g q gb gr n R B) (d f a m : Int) (s : ByteArray) (x0 : ((IntKind.u64.wrap d).tmod 6 == 0) = false) (x1 : ((IntKind.u64.wrap d).tmod 6 == 1) = false) (x2 : ((IntKind.u64.wrap d).tmod 6 == 2) = true) :
    Calls Try.prog 13 #[.pointer (some ⟨p, 0, none⟩), .pointer (some ⟨q, 0, none⟩), .agg #[.int .i64 d, .int .i64 f, .int .i64 a, .int .i64 m, .string s]] w fun e w' =>
      e = .returned (.bool true) ∧ (∃ R' B', Both w' p g q gb gr n R' B') ∧ Three w w' g gb gr := by
  have h0 := h.below ((Below.refl _ w).alloc (Nat.le_refl _) (.cells #[.int .i64 d, .int .i64 f, .int .i64 a, .int .i64 m, .string s] 33))
  have n1 : w.heap.size ≠ g := fun e => by have := h.mem.g_lt; omega
  have n2 : w.heap.size ≠ gb := fun e => by have := h.ref.gb_lt; omega
  have n3 : w.heap.size ≠ gr := fun e => by have := h.ref.gr_lt; omega
  have hc : (w.alloc (.cells #[.int .i64 d, .int .i64 f, .int .i64 a, .int .i64 m, .string s] 33)).cell? ⟨w.heap.size, 1, none⟩ = some (.int .i64 f) := by simp
  have T0 := Lib.hid (Three.of_below g gb gr ((Below.refl _ w).alloc (Nat.le_refl _) (.cells #[.int .i64 d, .int .i64 f, .int .i64 a, .int .i64 m, .string s] 33)))
  have H0 := Lib.hid h0
  go_enter Try.func13, Try.ntmps13
  go_wp2
  generalize w.alloc (.cells #[.int .i64 d, .int .i64 f, .int .i64 a, .int .i64 m, .string s] 33) = W0 at *
  clear h0
  go_region_held3 (fun w' => w'.cell? ⟨w.heap.size, 1, none⟩ = some (.int .i64 f)) (first | exact hc | exact hc1 | exact hc2) (first
    | (go_at_call 22; refine (share_mem H0.out.drew.mem f).mono ?_; rintro e w1 ⟨rfl, hM1, hG1⟩; have hc1 := hG1.cell hc (by intro e; exact n1 (Option.some.inj e)); have hR1 := H0.out.drew.refMem hG1)
    | (go_at_call 27; refine (rshare hR1 f).mono ?_; rintro e w2 ⟨rfl, hR2, hG2⟩; have hc2 := hG2.cell hc1 (by intro e; exact n3 (Option.some.inj e))))
  go_wp2
  go_ret
  exact ⟨rfl, ⟨_, _, ⟨memTwo hM1 hR1 (Two.of_right hG2), hR2⟩⟩, T0.out.trans ((Three.of_mem gb gr (grown_drew hG1)).trans (Three.of_two g (Two.of_right hG2)))⟩

set_option maxRecDepth 100000 in
set_option maxHeartbeats 1000000 in
theorem did_free (h : Both w p g q gb gr n R B) (d f a m : Int) (s : ByteArray) (x0 : ((IntKind.u64.wrap d).tmod 6 == 0) = false) (x1 : ((IntKind.u64.wrap d).tmod 6 == 1) = false) (x2 : ((IntKind.u64.wrap d).tmod 6 == 2) = false) (x3 : ((IntKind.u64.wrap d).tmod 6 == 3) = true) :
    Calls Try.prog 13 #[.pointer (some ⟨p, 0, none⟩), .pointer (some ⟨q, 0, none⟩), .agg #[.int .i64 d, .int .i64 f, .int .i64 a, .int .i64 m, .string s]] w fun e w' =>
      e = .returned (.bool true) ∧ (∃ R' B', Both w' p g q gb gr n R' B') ∧ Three w w' g gb gr := by
  have h0 := h.below ((Below.refl _ w).alloc (Nat.le_refl _) (.cells #[.int .i64 d, .int .i64 f, .int .i64 a, .int .i64 m, .string s] 33))
  have n1 : w.heap.size ≠ g := fun e => by have := h.mem.g_lt; omega
  have n2 : w.heap.size ≠ gb := fun e => by have := h.ref.gb_lt; omega
  have n3 : w.heap.size ≠ gr := fun e => by have := h.ref.gr_lt; omega
  have hc : (w.alloc (.cells #[.int .i64 d, .int .i64 f, .int .i64 a, .int .i64 m, .string s] 33)).cell? ⟨w.heap.size, 1, none⟩ = some (.int .i64 f) := by simp
  have T0 := Lib.hid (Three.of_below g gb gr ((Below.refl _ w).alloc (Nat.le_refl _) (.cells #[.int .i64 d, .int .i64 f, .int .i64 a, .int .i64 m, .string s] 33)))
  have H0 := Lib.hid h0
  go_enter Try.func13, Try.ntmps13
  go_wp2
  generalize w.alloc (.cells #[.int .i64 d, .int .i64 f, .int .i64 a, .int .i64 m, .string s] 33) = W0 at *
  clear h0
  go_region_held3 (fun w' => w'.cell? ⟨w.heap.size, 1, none⟩ = some (.int .i64 f)) (first | exact hc | exact hc1 | exact hc2) (first
    | (go_at_call 23; refine (free_mem H0.out.drew.mem f).mono ?_; rintro e w1 ⟨rfl, hM1, hG1⟩; have hc1 := hG1.cell hc (by intro e; exact n1 (Option.some.inj e)); have hR1 := H0.out.drew.refMem hG1)
    | (go_at_call 28; refine (rfree hR1 f).mono ?_; rintro e w2 ⟨rfl, hR2, hG2⟩; have hc2 := hG2.cell hc1 (by intro e; exact n3 (Option.some.inj e))))
  go_wp2
  go_ret
  exact ⟨rfl, ⟨_, _, ⟨memTwo hM1 hR1 (Two.of_right hG2), hR2⟩⟩, T0.out.trans ((Three.of_mem gb gr (grown_drew hG1)).trans (Three.of_two g (Two.of_right hG2)))⟩

set_option maxRecDepth 100000 in
set_option maxHeartbeats 1000000 in
theorem did_alloc (h : Both w p g q gb gr n R B) (d f a m : Int) (s : ByteArray) (hx : ((IntKind.u64.wrap d).tmod 6 == 0) = true ∨ (((IntKind.u64.wrap d).tmod 6 == 0) = false ∧ ((IntKind.u64.wrap d).tmod 6 == 1) = true)) :
    Calls Try.prog 13 #[.pointer (some ⟨p, 0, none⟩), .pointer (some ⟨q, 0, none⟩), .agg #[.int .i64 d, .int .i64 f, .int .i64 a, .int .i64 m, .string s]] w fun e w' =>
      e = .returned (.bool true) ∧ (∃ R' B', Both w' p g q gb gr n R' B') ∧ Three w w' g gb gr := by
  have h0 := h.below ((Below.refl _ w).alloc (Nat.le_refl _) (.cells #[.int .i64 d, .int .i64 f, .int .i64 a, .int .i64 m, .string s] 33))
  have T0 := Lib.hid (Three.of_below g gb gr ((Below.refl _ w).alloc (Nat.le_refl _) (.cells #[.int .i64 d, .int .i64 f, .int .i64 a, .int .i64 m, .string s] 33)))
  have H0 := Lib.hid h0
  rcases hx with x0 | ⟨x0, x1⟩
  all_goals
    go_enter Try.func13, Try.ntmps13
    go_wp2_with fail
    refine (alloc_fn H0.out.mem).mono ?_
    rintro e w1 ⟨rfl, hM1, hG1⟩
    have hR1 := H0.out.refMem hG1
    have HG1 := Lib.hid hG1; clear hG1
    go_wp2_with fail
    refine (ralloc hR1).mono ?_
    rintro e w2 ⟨rfl, hR2, hT2⟩
    have hM2 := memTwo hM1 hR1 hT2
    have HT2 := Lib.hid hT2; clear hT2
    go_wp2
    go_ret
    exact ⟨rfl, ⟨_, _, ⟨hM2, hR2⟩⟩, T0.out.trans ((Three.of_mem gb gr HG1.out).trans (Three.of_two g HT2.out))⟩

set_option maxRecDepth 100000 in
set_option maxHeartbeats 1000000 in
theorem did_read (h : Both w p g q gb gr n R B) (d f a m : Int) (s : ByteArray) (x0 : ((IntKind.u64.wrap d).tmod 6 == 0) = false) (x1 : ((IntKind.u64.wrap d).tmod 6 == 1) = false) (x2 : ((IntKind.u64.wrap d).tmod 6 == 2) = false) (x3 : ((IntKind.u64.wrap d).tmod 6 == 3) = false) (x4 : ((IntKind.u64.wrap d).tmod 6 == 4) = true) :
    Calls Try.prog 13 #[.pointer (some ⟨p, 0, none⟩), .pointer (some ⟨q, 0, none⟩), .agg #[.int .i64 d, .int .i64 f, .int .i64 a, .int .i64 m, .string s]] w fun e w' =>
      e = .returned (.bool true) ∧ (∃ R' B', Both w' p g q gb gr n R' B') ∧ Three w w' g gb gr := by
  have h0 := h.below ((Below.refl _ w).alloc (Nat.le_refl _) (.cells #[.int .i64 d, .int .i64 f, .int .i64 a, .int .i64 m, .string s] 33))
  have hc1 : (w.alloc (.cells #[.int .i64 d, .int .i64 f, .int .i64 a, .int .i64 m, .string s] 33)).cell? ⟨w.heap.size, 1, none⟩ = some (.int .i64 f) := by simp
  have hc2 : (w.alloc (.cells #[.int .i64 d, .int .i64 f, .int .i64 a, .int .i64 m, .string s] 33)).cell? ⟨w.heap.size, 2, none⟩ = some (.int .i64 a) := by simp
  have hc3 : (w.alloc (.cells #[.int .i64 d, .int .i64 f, .int .i64 a, .int .i64 m, .string s] 33)).cell? ⟨w.heap.size, 3, none⟩ = some (.int .i64 m) := by simp
  have T0 := Lib.hid (Three.of_below g gb gr ((Below.refl _ w).alloc (Nat.le_refl _) (.cells #[.int .i64 d, .int .i64 f, .int .i64 a, .int .i64 m, .string s] 33)))
  have H0 := Lib.hid h0
  have HS : Hid (w.heap.size < (w.alloc (.cells #[.int .i64 d, .int .i64 f, .int .i64 a, .int .i64 m, .string s] 33)).heap.size) := by unfold Hid; simp
  go_enter Try.func13, Try.ntmps13
  go_wp2_with fail
  generalize w.alloc (.cells #[.int .i64 d, .int .i64 f, .int .i64 a, .int .i64 m, .string s] 33) = W0 at *
  refine (read_fn H0.out.mem f a m).mono ?_
  rintro e w1 ⟨rfl, hB1⟩
  have d1 := (hB1.cell (p := ⟨w.heap.size, 1, none⟩) HS.out).trans hc1
  have d2 := (hB1.cell (p := ⟨w.heap.size, 2, none⟩) HS.out).trans hc2
  have d3 := (hB1.cell (p := ⟨w.heap.size, 3, none⟩) HS.out).trans hc3
  have hb1 := H0.out.below hB1
  have HB1 := Lib.hid hB1; clear hB1
  go_wp2_with fail
  refine (rread hb1.ref f a m).mono ?_
  rintro e w' ⟨rfl, rfl⟩
  rw [show tx (readS n R B f a m) = ⟨(readS n R B f a m).toArray⟩ from rfl]
  generalize (⟨(readS n R B f a m).toArray⟩ : ByteArray) = X
  go_wp2
  go_ret
  exact ⟨rfl, ⟨_, _, hb1⟩, T0.out.trans (Three.of_below g gb gr HB1.out)⟩

set_option maxRecDepth 100000 in
set_option maxHeartbeats 2000000 in
theorem did_write (h : Both w p g q gb gr n R B) (d f a m : Int) (s : ByteArray) (hs : s.size ≤ maxLen) (x0 : ((IntKind.u64.wrap d).tmod 6 == 0) = false) (x1 : ((IntKind.u64.wrap d).tmod 6 == 1) = false) (x2 : ((IntKind.u64.wrap d).tmod 6 == 2) = false) (x3 : ((IntKind.u64.wrap d).tmod 6 == 3) = false) (x4 : ((IntKind.u64.wrap d).tmod 6 == 4) = false) :
    Calls Try.prog 13 #[.pointer (some ⟨p, 0, none⟩), .pointer (some ⟨q, 0, none⟩), .agg #[.int .i64 d, .int .i64 f, .int .i64 a, .int .i64 m, .string s]] w fun e w' =>
      e = .returned (.bool true) ∧ (∃ R' B', Both w' p g q gb gr n R' B') ∧ Three w w' g gb gr := by
  have h0 := h.below ((Below.refl _ w).alloc (Nat.le_refl _) (.cells #[.int .i64 d, .int .i64 f, .int .i64 a, .int .i64 m, .string s] 33))
  have n1 : w.heap.size ≠ g := fun e => by have := h.mem.g_lt; omega
  have n2 : w.heap.size ≠ gb := fun e => by have := h.ref.gb_lt; omega
  have n3 : w.heap.size ≠ gr := fun e => by have := h.ref.gr_lt; omega
  have hc1 : (w.alloc (.cells #[.int .i64 d, .int .i64 f, .int .i64 a, .int .i64 m, .string s] 33)).cell? ⟨w.heap.size, 1, none⟩ = some (.int .i64 f) := by simp
  have hc2 : (w.alloc (.cells #[.int .i64 d, .int .i64 f, .int .i64 a, .int .i64 m, .string s] 33)).cell? ⟨w.heap.size, 2, none⟩ = some (.int .i64 a) := by simp
  have hc4 : (w.alloc (.cells #[.int .i64 d, .int .i64 f, .int .i64 a, .int .i64 m, .string s] 33)).cell? ⟨w.heap.size, 4, none⟩ = some (.string s) := by simp
  have T0 := Lib.hid (Three.of_below g gb gr ((Below.refl _ w).alloc (Nat.le_refl _) (.cells #[.int .i64 d, .int .i64 f, .int .i64 a, .int .i64 m, .string s] 33)))
  have H0 := Lib.hid h0
  have HSZ := Lib.hid hs
  have HTM : Hid ((textS s).size ≤ maxLen) := by have := textS_size s; unfold Hid maxLen; omega
  clear hs
  go_enter Try.func13, Try.ntmps13
  go_wp2
  generalize w.alloc (.cells #[.int .i64 d, .int .i64 f, .int .i64 a, .int .i64 m, .string s] 33) = W0 at *
  clear h0
  go_region_held3 (fun w' => w'.cell? ⟨w.heap.size, 1, none⟩ = some (.int .i64 f) ∧ w'.cell? ⟨w.heap.size, 2, none⟩ = some (.int .i64 a) ∧ w'.cell? ⟨w.heap.size, 4, none⟩ = some (.string s)) (first | exact ⟨hc1, hc2, hc4⟩ | exact ⟨d1, d2, d4⟩ | exact ⟨e1, e2, e4⟩) (first
    | (go_at_call 25; refine (text_any s HSZ.out _).mono ?_; rintro e w' ⟨rfl, rfl⟩)
    | (go_at_call 24; refine (write_fn H0.out.drew.mem f a (textS s) HTM.out).mono ?_; rintro e w1 ⟨rfl, hM1, hG1⟩; have d1 := hG1.cell hc1 (by intro e; exact n1 (Option.some.inj e)); have d2 := hG1.cell hc2 (by intro e; exact n1 (Option.some.inj e)); have d4 := hG1.cell hc4 (by intro e; exact n1 (Option.some.inj e)); have hR1 := H0.out.drew.refMem hG1)
    | (go_at_call 29; refine (rwrite hR1 f a (textS s) HTM.out).mono ?_; rintro e w2 ⟨rfl, hR2, hG2⟩; have e1 := hG2.cell d1 (by intro e; exact n2 (Option.some.inj e)); have e2 := hG2.cell d2 (by intro e; exact n2 (Option.some.inj e)); have e4 := hG2.cell d4 (by intro e; exact n2 (Option.some.inj e))))
  go_wp2
  go_ret
  exact ⟨rfl, ⟨_, _, ⟨memTwo hM1 hR1 (Two.of_left hG2), hR2⟩⟩, T0.out.trans ((Three.of_mem gb gr (grown_drew hG1)).trans (Three.of_two g (Two.of_left hG2)))⟩

theorem did_any (h : Both w p g q gb gr n R B) (d f a m : Int) (s : ByteArray) (hs : s.size ≤ maxLen) :
    Calls Try.prog 13 #[.pointer (some ⟨p, 0, none⟩), .pointer (some ⟨q, 0, none⟩), .agg #[.int .i64 d, .int .i64 f, .int .i64 a, .int .i64 m, .string s]] w fun e w' =>
      e = .returned (.bool true) ∧ (∃ R' B', Both w' p g q gb gr n R' B') ∧ Three w w' g gb gr := by
  cases x0 : ((IntKind.u64.wrap d).tmod 6 == 0) with
  | true => exact did_alloc h d f a m s (.inl x0)
  | false =>
    cases x1 : ((IntKind.u64.wrap d).tmod 6 == 1) with
    | true => exact did_alloc h d f a m s (.inr ⟨x0, x1⟩)
    | false =>
      cases x2 : ((IntKind.u64.wrap d).tmod 6 == 2) with
      | true => exact did_share h d f a m s x0 x1 x2
      | false =>
        cases x3 : ((IntKind.u64.wrap d).tmod 6 == 3) with
        | true => exact did_free h d f a m s x0 x1 x2 x3
        | false =>
          cases x4 : ((IntKind.u64.wrap d).tmod 6 == 4) with
          | true => exact did_read h d f a m s x0 x1 x2 x3 x4
          | false => exact did_write h d f a m s hs x0 x1 x2 x3 x4

end
end Go.Proofs.Ytgbgjnhdoedboaa
