/- FramesFirst: for every list of acts the law answers true: the first frame that is not in use is allocated. No conditions. -/
import Derived.Test.YtgbgjnhdoedboaaFramesMach
import Derived.Test.YtgbgjnhdoedboaaFramesActs
namespace Go.Proofs.Ytgbgjnhdoedboaa
open Go.RowKit Go.ChangeShapes Go.WideShapes Go.ChangeAt

theorem refsN_in' {n : Nat} {R : Nat → Int} {k : Nat} (hk : k < n) (h0 : 0 ≤ R k) : refsN n R k = R k := by
  unfold refsN liveB
  simp only [decide_eq_true_eq, Int.toNat_natCast]
  split <;> omega

/-- the ways through a switch of four. -/
theorem sw4' (x : Int) : (x == 0) = true ∨ ((x == 0) = false ∧ (x == 1) = true) ∨ ((x == 0) = false ∧ (x == 1) = false ∧ (x == 2) = true) ∨ ((x == 0) = false ∧ (x == 1) = false ∧ (x == 2) = false ∧ (x == 3) = true) ∨ ((x == 0) = false ∧ (x == 1) = false ∧ (x == 2) = false ∧ (x == 3) = false) := by
  cases (x == 0) <;> cases (x == 1) <;> cases (x == 2) <;> cases (x == 3) <;> simp

section
variable {w : World} {p g n : Nat} {R : Nat → Int} {B : Nat → List UInt8}

/-- Alloc, where j is the first free frame, or n. -/
theorem alloc_first (h : MemAt w p g n R B) (j : Nat) (hj : j ≤ n) (hb : ∀ i, i < j → 0 < R i) (hz : j < n → R j = 0) : Calls Try.prog 21 #[.pointer (some ⟨p, 0, none⟩)] w fun e W' => ∃ (R' : Nat → Int) (B' : Nat → List UInt8),
    ((j < n ∧ e = .returned (.tuple #[.int .i64 j, .int .i64 0]) ∧ R' j = 1) ∨ (j = n ∧ e = .returned (.tuple #[.int .i64 0, .int .i64 11]))) ∧ MemAt W' p g n R' B' ∧ w.grownBy W' (some g) := by
  refine (alloc_mem h).mono ?_
  rintro e W' ⟨⟨k, hk, h0, hlow, rfl, hM⟩ | ⟨hall, rfl, hM⟩, hG⟩
  · have e1 : j = k := by
      rcases Nat.lt_trichotomy j k with h1 | h1 | h1
      · have := hlow j h1; have := hz (by omega); omega
      · exact h1
      · have := hb k h1; omega
    subst e1
    exact ⟨_, _, .inl ⟨hk, rfl, by simp⟩, hM, hG⟩
  · have e1 : j = n := by
      rcases Nat.lt_or_ge j n with h1 | h1
      · have := hall j h1; have := hz h1; omega
      · omega
    exact ⟨_, _, .inr ⟨e1, rfl⟩, hM, hG⟩

theorem share_some (h : MemAt w p g n R B) (k : Int) : Calls Try.prog 22 #[.pointer (some ⟨p, 0, none⟩), .int .i64 k] w fun e W' => ∃ (E : Int) (R' : Nat → Int) (B' : Nat → List UInt8), e = .returned (.int .i64 E) ∧ MemAt W' p g n R' B' ∧ w.grownBy W' (some g) :=
  (share_mem h k).mono fun _ _ ⟨he, hM, hG⟩ => ⟨_, _, _, he, hM, hG⟩
theorem free_some (h : MemAt w p g n R B) (k : Int) : Calls Try.prog 23 #[.pointer (some ⟨p, 0, none⟩), .int .i64 k] w fun e W' => ∃ (E : Int) (R' : Nat → Int) (B' : Nat → List UInt8), e = .returned (.int .i64 E) ∧ MemAt W' p g n R' B' ∧ w.grownBy W' (some g) :=
  (free_mem h k).mono fun _ _ ⟨he, hM, hG⟩ => ⟨_, _, _, he, hM, hG⟩
end

set_option maxRecDepth 100000 in
set_option maxHeartbeats 8000000 in
theorem first_walk (b off len cap : Nat) (_hlen : len ≤ maxLen) (w : World) (hb : b < w.heap.size)
    (hc : ∀ i, i < len → ∃ d f : Int, w.cell? ⟨b, off + i * 5, none⟩ = some (.int .i64 d) ∧ w.cell? ⟨b, off + i * 5 + 1, none⟩ = some (.int .i64 f)) :
    Calls Try.prog 9 #[.slice (some ⟨b, off, none⟩) len cap] w fun e w' => e = .returned (.bool true) ∧ Below w.heap.size w w' := by
  unfold maxLen at _hlen
  have HC := Lib.hid hc; clear hc
  go_enter Try.func9, Try.ntmps9
  go_wp2_with fail
  refine (shown_any _).mono ?_
  rintro e w1 ⟨rfl, hB1⟩
  have HB1 := Lib.hid hB1; clear hB1
  go_wp2_with fail
  refine (new_ok 12 (by omega) (by omega) _).mono ?_
  rintro e w2 ⟨rfl, hM2, hB2⟩
  have HB2 := Lib.hid hB2; clear hB2
  go_wp2_with fail
  have hB3 : Hid (Below w.heap.size w w2) := HB1.out.trans (HB2.out.mono HB1.out.size)
  have hsz : Hid (w.heap.size ≤ w1.heap.size) := HB1.out.size
  generalize w1.heap.size + 1 = p at *
  generalize hgg : w1.heap.size = g at *
  have HGG := Lib.hid hgg; clear hgg
  go_loopw [6] (fun i wr => ∃ (k : Nat) (R : Nat → Int) (B : Nat → List UInt8), k ≤ len ∧ i = .int .i64 k ∧ MemAt wr p g 12 R B ∧ Below w.heap.size w wr) (fun i _ => len - (intOf i).toNat)
  case atStart => exact ⟨0, _, _, Nat.zero_le _, rfl, hM2, hB3.out⟩
  case round =>
    obtain ⟨k, R, B, hk, rfl, hM, hB⟩ := hrel
    by_cases hlt : k < len
    · by_cases h100 : k < 100
      · obtain ⟨d, f, hd, hf⟩ := HC.out k hlt
        have hd' := (hB.cell (p := ⟨b, off + k * 5, none⟩) hb).trans hd
        have hf' := (hB.cell (p := ⟨b, off + k * 5 + 1, none⟩) hb).trans hf
        clear hd hf
        have HB := Lib.hid hB; clear hB
        have hgb : Hid (∀ (W W' : World), Below w.heap.size w W → W.grownBy W' (some g) → Below w.heap.size w W') := fun W W' h1 h => h1.trans (below_of_grown h h1.size (fun j e => by cases e; exact hsz.out))
        rcases sw4' ((IntKind.u64.wrap d).tmod 6) with x0 | ⟨x0, x1⟩ | ⟨x0, x1, x2⟩ | ⟨x0, x1, x2, x3⟩ | ⟨x0, x1, x2, x3⟩
        iterate 2
          · go_wp2_with fail
            clear hd' hf'
            go_loopw [7] (fun t wi => ∃ j : Nat, j ≤ 12 ∧ t = .int .i64 j ∧ (∀ i, i < j → 0 < R i) ∧ MemAt wi p g 12 R B ∧ Below w.heap.size w wi) (fun t _ => 12 - (intOf t).toNat)
            case atStart => exact ⟨0, by omega, rfl, fun i hi => by omega, hM, HB.out⟩
            case round =>
              obtain ⟨j, hj, rfl, hpos, hMi, hBi⟩ := hrel
              have HP := Lib.hid hpos; clear hpos
              have HBi := Lib.hid hBi; clear hBi
              by_cases hj12 : j < 12
              · have hRj := hMi.hR j hj12
                have HV := Lib.hid (refsN_in' (n := 12) hj12 hRj.1)
                by_cases hz : 0 < R j
                · have hdz : decide (0 < R j) = true := by simpa using hz
                  go_wp2_with fail
                  refine (refs_fn hMi _).mono ?_
                  rintro e w5 ⟨rfl, hB5⟩
                  rw [HV.out]
                  have hM5 := hMi.below hB5
                  have HB5 : Hid (Below w.heap.size w w5) := HBi.out.trans (hB5.mono HBi.out.size)
                  clear hB5
                  go_wp2
                  go_roundw
                  case rel => exact ⟨j + 1, by omega, by go_num, fun i hi => by
                    rcases Nat.lt_or_ge i j with h1 | h1
                    · exact HP.out i h1
                    · obtain rfl : i = j := by omega
                      exact hz, hM5, HB5.out⟩
                  case measure => simp [intOf]; omega
                · have hdz : decide (0 < R j) = false := by simpa using hz
                  have HZ : Hid (R j = 0) := by unfold Hid; omega
                  go_wp2_with fail
                  refine (refs_fn hMi _).mono ?_
                  rintro e w5 ⟨rfl, hB5⟩
                  rw [HV.out]
                  have hM5 := hMi.below hB5
                  have HB5 : Hid (Below w.heap.size w w5) := HBi.out.trans (hB5.mono HBi.out.size)
                  clear hB5
                  go_wp2_with fail
                  refine (alloc_first hM5 j (by omega) HP.out (fun _ => HZ.out)).mono ?_
                  rintro e w6 ⟨R', B', ⟨hjn, rfl, hR'⟩ | ⟨hjn, rfl⟩, hM6, hG6⟩
                  · have HB6 := Lib.hid (hgb.out _ _ HB5.out hG6); clear hG6
                    have HV' : Hid (refsN 12 R' j = 1) := by unfold Hid; rw [refsN_in' (n := 12) hj12 (by omega)]; exact hR'
                    have hnn : ((j : Int) != (j : Int)) = false := by simp
                    clear hR'
                    go_wp2_with fail
                    refine (refs_fn hM6 _).mono ?_
                    rintro e w7 ⟨rfl, hB7⟩
                    rw [HV'.out]
                    have hM7 := hM6.below hB7
                    have HB7 : Hid (Below w.heap.size w w7) := HB6.out.trans (hB7.mono HB6.out.size)
                    clear hB7
                    go_wp2
                    go_roundw
                    case rel => exact ⟨k + 1, R', B', by omega, by go_num, hM7, HB7.out⟩
                    case measure => simp [intOf]; omega
                  · exact absurd hjn (by omega)
              · obtain rfl : j = 12 := by omega
                go_wp2_with fail
                refine (alloc_first hMi 12 (by omega) HP.out (fun h => by omega)).mono ?_
                rintro e w6 ⟨R', B', ⟨hjn, rfl, hR'⟩ | ⟨_, rfl⟩, hM6, hG6⟩
                · exact absurd hjn (by omega)
                · have HB6 := Lib.hid (hgb.out _ _ HBi.out hG6); clear hG6
                  go_wp2
                  go_roundw
                  case rel => exact ⟨k + 1, R', B', by omega, by go_num, hM6, HB6.out⟩
                  case measure => simp [intOf]; omega
        · go_wp2_with fail
          refine (share_some hM _).mono ?_
          rintro e w3 ⟨E, R', B', rfl, hM3, hG3⟩
          have HB3 := Lib.hid (hgb.out _ _ HB.out hG3); clear hG3
          go_wp2
          go_roundw
          case rel => exact ⟨k + 1, R', B', by omega, by go_num, hM3, HB3.out⟩
          case measure => simp [intOf]; omega
        · go_wp2_with fail
          refine (free_some hM _).mono ?_
          rintro e w3 ⟨E, R', B', rfl, hM3, hG3⟩
          have HB3 := Lib.hid (hgb.out _ _ HB.out hG3); clear hG3
          go_wp2
          go_roundw
          case rel => exact ⟨k + 1, R', B', by omega, by go_num, hM3, HB3.out⟩
          case measure => simp [intOf]; omega
        · go_wp2
          go_roundw
          case rel => exact ⟨k + 1, R, B, by omega, by go_num, hM, HB.out⟩
          case measure => simp [intOf]; omega
      · go_wp2
        go_ret
        exact ⟨rfl, hB⟩
    · go_wp2
      go_ret
      exact ⟨rfl, hB⟩

set_option maxRecDepth 100000 in
set_option maxHeartbeats 1000000 in
theorem first_empty (a : Option Addr) (cap : Nat) (w : World) :
    Calls Try.prog 9 #[.slice a 0 cap] w fun e w' => e = .returned (.bool true) ∧ Below w.heap.size w w' := by
  go_enter Try.func9, Try.ntmps9
  go_wp2_with fail
  refine (shown_any _).mono ?_
  rintro e w1 ⟨rfl, hB1⟩
  have HB1 := Lib.hid hB1; clear hB1
  go_wp2_with fail
  refine (new_ok 12 (by omega) (by omega) _).mono ?_
  rintro e w2 ⟨rfl, hM2, hB2⟩
  have HB2 := Lib.hid hB2; clear hB2
  go_wp2_with fail
  have hB3 : Hid (Below w.heap.size w w2) := HB1.out.trans (HB2.out.mono HB1.out.size)
  go_loopw [6] (fun i wr => i = .int .i64 0 ∧ Below w.heap.size w wr) (fun _ _ => 0)
  case atStart => exact ⟨rfl, hB3.out⟩
  case round =>
    obtain ⟨rfl, hB⟩ := hrel
    go_wp2
    go_ret
    exact ⟨rfl, hB⟩

set_option maxRecDepth 100000 in
theorem first_lifted (os : Os) (started : os.Started) (H : Type) (enc : TypeId × Value → H) :
    ReturnsInHanded {} Try.checked os 9 .any (Rows.framesFirstSpec.pre6 enc Try.prog Try.f9 Rows.framesFirstRow.domain false) (Rows.framesFirstSpec.post enc Try.prog Try.f9 false true false false) := by
  refine returnsInHanded_of_change (C := Try.checked) own started (by kernel_rfl) Try.func9
    (ChangeSpec.witness6 (enc := enc) (C := Try.checked) false ⟨#[], #[.slice none 0 0], []⟩ 8 (by kernel_rfl) (by kernel_rfl) (by kernel_rfl) (by kernel_rfl)) ?_
  intro W base args ds gs before hval0 hW _ _
  have hval : ∀ (j : Nat) t v, Try.f9.params[j]? = some t → args[j]? = some v → Value.okWide Try.prog W .any base t v := hval0
  have hW' := hW
  obtain ⟨p, q, hA0, hV, rfl, hfz, hnd⟩ := hW
  have hA : DataW.TrodAll enc Try.prog W 0 (fun _ => true) true Try.f9.params.toList args.toList ds p := hA0
  rw [Try.params9] at hA hval
  obtain ⟨v0, vs0, d0, ds0, p0, q0, hargs, rfl, rfl, h0, r0⟩ := trodAll_cons hA
  obtain ⟨rfl, rfl, rfl⟩ := trodAll_nil r0
  obtain rfl : args = #[v0] := by cases args; simp_all
  obtain ⟨a, len, cap, rfl, hlen, hacts⟩ := open_acts (hval 0 22 v0 rfl rfl) h0
  have hwalk : Calls Try.prog 9 #[.slice a len cap] W fun e w' => e = .returned (.bool true) ∧ Below W.heap.size W w' := by
    rcases Nat.eq_zero_or_pos len with rfl | hpos
    · exact first_empty a cap W
    · obtain ⟨b, off, rfl, hb, hc⟩ := hacts hpos
      refine first_walk b off len cap hlen W hb (fun i hi => ?_)
      obtain ⟨d, f, x, n, s, hA⟩ := hc i hi
      exact ⟨d, f, hA.c0, hA.c1⟩
  refine hwalk.mono fun e W' ⟨he, bel⟩ => ⟨_, he, ?_⟩
  exact law_post laidOut (of_decide_eq_true (by kernel_rfl)) rfl Try.underlying4 rfl hW' (fun ds' e => by subst e; rfl) bel

theorem framesFirst_holds : Rows.FramesFirstSaid :=
  OpenClaim.holds_of_wide 9 Try.f9 rfl rfl rfl rfl rfl rfl rfl ⟨rfl, rfl, rfl, rfl, rfl⟩ rfl rfl rfl rfl rfl (by kernel_rfl) Try.func9 (by kernel_rfl)
    (of_decide_eq_true (by kernel_rfl)) (by unfold Func.isWrapper; rw [if_neg (by decide +kernel)]; exact ⟨rfl, rfl⟩)
    (fun os started H enc _ => first_lifted os started H enc)

#print axioms framesFirst_holds
end Go.Proofs.Ytgbgjnhdoedboaa
