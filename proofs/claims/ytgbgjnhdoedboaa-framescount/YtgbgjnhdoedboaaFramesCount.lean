/- FramesCount: for every list of acts the law answers true: references are counted, and what is left is what nobody has. No conditions. -/
import Derived.Test.YtgbgjnhdoedboaaFramesMach
import Derived.Test.YtgbgjnhdoedboaaFramesActs
namespace Go.Proofs.Ytgbgjnhdoedboaa
open Go.RowKit Go.ChangeShapes Go.WideShapes Go.ChangeAt

def sumR (R : Nat → Int) : Nat → Int
  | 0 => 0
  | m + 1 => sumR R m + R m
theorem sumR_same {R R' : Nat → Int} : ∀ {m : Nat}, (∀ j, j < m → R' j = R j) → sumR R' m = sumR R m
  | 0, _ => rfl
  | m + 1, h => by
    unfold sumR
    rw [sumR_same (fun j hj => h j (by omega)), h m (by omega)]
theorem sumR_upd (R : Nat → Int) {k : Nat} (r : Int) : ∀ {m : Nat}, k < m → sumR (updR R k r) m = sumR R m + r - R k
  | m + 1, h => by
    unfold sumR
    by_cases e : k = m
    · subst e
      rw [updR_same, sumR_same (R := R) (R' := updR R k r) (fun j hj => updR_other R r (by omega))]; omega
    · rw [updR_other R r (by omega), sumR_upd R r (by omega)]; omega
theorem sumR_bd {R : Nat → Int} : ∀ {m : Nat}, (∀ j, j < m → 0 ≤ R j ∧ R j ≤ 1000) → 0 ≤ sumR R m ∧ sumR R m ≤ 1000 * m
  | 0, _ => by simp [sumR]
  | m + 1, h => by
    have h1 := sumR_bd (m := m) (fun j hj => h j (by omega))
    have h2 := h m (by omega)
    unfold sumR
    omega

theorem refsN_in {n : Nat} {R : Nat → Int} {k : Nat} (hk : k < n) (h0 : 0 ≤ R k) : refsN n R k = R k := by
  unfold refsN liveB
  simp only [decide_eq_true_eq, Int.toNat_natCast]
  split <;> omega

theorem allocF_facts {n : Nat} {R : Nat → Int} {k : Nat} (h : allocF n R = some k) : k < n ∧ R k = 0 := by
  unfold allocF at h
  have h1 := List.find?_some h
  have h2 := List.mem_of_find?_eq_some h
  exact ⟨List.mem_range.1 h2, by simpa using h1⟩

/-- what each call does to the count. -/
theorem alloc_sum (n : Nat) (R : Nat → Int) : sumR (allocR n R) n = if allocE n R = 0 then sumR R n + 1 else sumR R n := by
  unfold allocR allocE
  cases hF : allocF n R with
  | none => simp
  | some k =>
    obtain ⟨hk, h0⟩ := allocF_facts hF
    simp only [Option.isSome_some, if_true, allocN, hF, Option.getD_some]
    rw [sumR_upd R 1 hk]; omega
theorem share_sum (n : Nat) (R : Nat → Int) (k : Int) : sumR (shareR n R k) n = if shareE n R k = 0 then sumR R n + 1 else sumR R n := by
  unfold shareR
  split
  · rename_i h
    have hl : liveB n R k = true := by
      cases hl : liveB n R k with
      | true => rfl
      | false => unfold shareE at h; rw [hl] at h; simp at h
    obtain ⟨j, rfl, hj, _⟩ := live_nat hl
    rw [Int.toNat_natCast, sumR_upd R _ hj]; omega
  · rfl
theorem free_sum (n : Nat) (R : Nat → Int) (k : Int) : sumR (freeR n R k) n = if freeE n R k = 0 then sumR R n - 1 else sumR R n := by
  unfold freeR freeE
  cases hl : liveB n R k with
  | true =>
    obtain ⟨j, rfl, hj, _⟩ := live_nat hl
    simp only [if_true, Int.toNat_natCast]
    rw [sumR_upd R _ hj]; omega
  | false => simp

theorem freeL_range (R : Nat → Int) (k : Nat) : freeL R (List.range (k + 1)) = freeL R (List.range k) + if 0 < R k then 0 else 1 := by
  rw [List.range_succ, freeL_snoc]

section
variable {w : World} {p g n : Nat} {R : Nat → Int} {B : Nat → List UInt8}

theorem alloc_cnt (h : MemAt w p g n R B) : Calls Try.prog 21 #[.pointer (some ⟨p, 0, none⟩)] w fun e W' => ∃ (R' : Nat → Int) (B' : Nat → List UInt8),
    ((∃ k : Nat, e = .returned (.tuple #[.int .i64 k, .int .i64 0]) ∧ sumR R' n = sumR R n + 1) ∨ (∃ k : Nat, e = .returned (.tuple #[.int .i64 k, .int .i64 11]) ∧ sumR R' n = sumR R n)) ∧ MemAt W' p g n R' B' ∧ w.grownBy W' (some g) := by
  refine (alloc_fn h).mono ?_
  rintro e W' ⟨rfl, hM, hG⟩
  refine ⟨_, _, ?_, hM, hG⟩
  have hs := alloc_sum n R
  by_cases hE : (allocF n R).isSome = true
  · have : allocE n R = 0 := by unfold allocE; rw [if_pos hE]
    rw [if_pos this] at hs
    exact .inl ⟨_, by rw [this], hs⟩
  · have : allocE n R = 11 := by unfold allocE; rw [if_neg hE]
    rw [if_neg (by omega)] at hs
    exact .inr ⟨_, by rw [this], hs⟩

theorem share_cnt (h : MemAt w p g n R B) (k : Int) : Calls Try.prog 22 #[.pointer (some ⟨p, 0, none⟩), .int .i64 k] w fun e W' => ∃ (R' : Nat → Int) (B' : Nat → List UInt8),
    ((e = .returned (.int .i64 0) ∧ sumR R' n = sumR R n + 1) ∨ (∃ E : Int, (E == 0) = false ∧ e = .returned (.int .i64 E) ∧ sumR R' n = sumR R n)) ∧ MemAt W' p g n R' B' ∧ w.grownBy W' (some g) := by
  refine (share_mem h k).mono ?_
  rintro e W' ⟨rfl, hM, hG⟩
  refine ⟨_, _, ?_, hM, hG⟩
  have hs := share_sum n R k
  by_cases hE : shareE n R k = 0
  · rw [if_pos hE] at hs
    exact .inl ⟨by rw [hE], hs⟩
  · rw [if_neg hE] at hs
    exact .inr ⟨_, by rw [beq_eq_false_iff_ne]; exact hE, rfl, hs⟩

theorem free_cnt (h : MemAt w p g n R B) (k : Int) : Calls Try.prog 23 #[.pointer (some ⟨p, 0, none⟩), .int .i64 k] w fun e W' => ∃ (R' : Nat → Int) (B' : Nat → List UInt8),
    ((e = .returned (.int .i64 0) ∧ sumR R' n = sumR R n - 1) ∨ (∃ E : Int, (E == 0) = false ∧ e = .returned (.int .i64 E) ∧ sumR R' n = sumR R n)) ∧ MemAt W' p g n R' B' ∧ w.grownBy W' (some g) := by
  refine (free_mem h k).mono ?_
  rintro e W' ⟨rfl, hM, hG⟩
  refine ⟨_, _, ?_, hM, hG⟩
  have hs := free_sum n R k
  by_cases hE : freeE n R k = 0
  · rw [if_pos hE] at hs
    exact .inl ⟨by rw [hE], hs⟩
  · rw [if_neg hE] at hs
    exact .inr ⟨_, by rw [beq_eq_false_iff_ne]; exact hE, rfl, hs⟩
end

/-- the ways through a switch of four. -/
theorem sw4 (x : Int) : (x == 0) = true ∨ ((x == 0) = false ∧ (x == 1) = true) ∨ ((x == 0) = false ∧ (x == 1) = false ∧ (x == 2) = true) ∨ ((x == 0) = false ∧ (x == 1) = false ∧ (x == 2) = false ∧ (x == 3) = true) ∨ ((x == 0) = false ∧ (x == 1) = false ∧ (x == 2) = false ∧ (x == 3) = false) := by
  cases (x == 0) <;> cases (x == 1) <;> cases (x == 2) <;> cases (x == 3) <;> simp

set_option maxRecDepth 100000 in
set_option maxHeartbeats 8000000 in
theorem count_walk (b off len cap : Nat) (_hlen : len ≤ maxLen) (w : World) (hb : b < w.heap.size)
    (hc : ∀ i, i < len → ∃ d f : Int, w.cell? ⟨b, off + i * 5, none⟩ = some (.int .i64 d) ∧ w.cell? ⟨b, off + i * 5 + 1, none⟩ = some (.int .i64 f)) :
    Calls Try.prog 5 #[.slice (some ⟨b, off, none⟩) len cap] w fun e w' => e = .returned (.bool true) ∧ Below w.heap.size w w' := by
  unfold maxLen at _hlen
  have HC := Lib.hid hc; clear hc
  go_enter Try.func5, Try.ntmps5
  go_wp2_with fail
  refine (shown_any _).mono ?_
  rintro e w1 ⟨rfl, hB1⟩
  have HB1 := Lib.hid hB1; clear hB1
  go_wp2_with fail
  refine (new_ok 12 (by omega) (by omega) _).mono ?_
  rintro e w2 ⟨rfl, hM2, hB2⟩
  have HB2 := Lib.hid hB2; clear hB2
  go_wp2_with fail
  have hB3 : Hid (Below w.heap.size w w2) := HB1.out.trans (HB2.out.mono HB1.out.size)
  have hsz : Hid (w.heap.size ≤ w1.heap.size) := HB1.out.size
  generalize w1.heap.size + 1 = p at *
  generalize hgg : w1.heap.size = g at *
  have HGG := Lib.hid hgg; clear hgg
  go_loopw [6, 7] (fun n i wr => ∃ (k : Nat) (R : Nat → Int) (B : Nat → List UInt8), k ≤ len ∧ i = .int .i64 k ∧ n = .int .i64 (sumR R 12) ∧ MemAt wr p g 12 R B ∧ Below w.heap.size w wr) (fun _ i _ => len - (intOf i).toNat)
  case atStart => exact ⟨0, _, _, Nat.zero_le _, rfl, rfl, hM2, hB3.out⟩
  case round =>
    obtain ⟨k, R, B, hk, rfl, rfl, hM, hB⟩ := hrel
    have hbd := sumR_bd (m := 12) hM.hR
    by_cases hlt : k < len
    · by_cases h100 : k < 100
      · obtain ⟨d, f, hd, hf⟩ := HC.out k hlt
        have hd' := (hB.cell (p := ⟨b, off + k * 5, none⟩) hb).trans hd
        have hf' := (hB.cell (p := ⟨b, off + k * 5 + 1, none⟩) hb).trans hf
        clear hd hf
        have HB := Lib.hid hB; clear hB
        have hgb : Hid (∀ (W : World), wr.grownBy W (some g) → Below w.heap.size w W) := fun W h => HB.out.trans (below_of_grown h HB.out.size (fun j e => by cases e; exact hsz.out))
        rcases sw4 ((IntKind.u64.wrap d).tmod 6) with x0 | ⟨x0, x1⟩ | ⟨x0, x1, x2⟩ | ⟨x0, x1, x2, x3⟩ | ⟨x0, x1, x2, x3⟩
        all_goals (go_wp2_with fail)
        all_goals first
          | ((with_reducible refine (alloc_cnt hM).mono ?_); rintro e w3 ⟨R', B', ⟨kk, rfl, hN⟩ | ⟨kk, rfl, hN⟩, hM3, hG3⟩ <;> (have HN := Lib.hid hN; clear hN; have HB3 := Lib.hid (hgb.out _ hG3); clear hG3; go_wp2_with fail; rw [← HN.out]))
          | ((with_reducible refine (share_cnt hM _).mono ?_); rintro e w3 ⟨R', B', ⟨rfl, hN⟩ | ⟨E, hE, rfl, hN⟩, hM3, hG3⟩ <;> (have HN := Lib.hid hN; clear hN; have HB3 := Lib.hid (hgb.out _ hG3); clear hG3; go_wp2_with fail; rw [← HN.out]))
          | ((with_reducible refine (free_cnt hM _).mono ?_); rintro e w3 ⟨R', B', ⟨rfl, hN⟩ | ⟨E, hE, rfl, hN⟩, hM3, hG3⟩ <;> (have HN := Lib.hid hN; clear hN; have HB3 := Lib.hid (hgb.out _ hG3); clear hG3; go_wp2_with fail; rw [← HN.out]))
          | (obtain ⟨R', hR'⟩ : ∃ R', R' = R := ⟨_, rfl⟩; subst hR'; obtain ⟨B', hB'⟩ : ∃ B', B' = B := ⟨_, rfl⟩; subst hB'; have hM3 := hM; have HB3 := HB)
        all_goals
          clear hM hd' hf'
          go_loopw [10, 11, 12] (fun a c i wi => ∃ j : Nat, j ≤ 12 ∧ i = .int .i64 j ∧ a = .int .i64 (sumR R' j) ∧ c = .int .i64 (freeL R' (List.range j) : Nat) ∧ MemAt wi p g 12 R' B' ∧ Below w.heap.size w wi) (fun _ _ i _ => 12 - (intOf i).toNat)
          case atStart => exact ⟨0, by omega, rfl, rfl, rfl, hM3, HB3.out⟩
          case round =>
            obtain ⟨j, hj, rfl, rfl, rfl, hMi, hBi⟩ := hrel
            have HBi := Lib.hid hBi; clear hBi
            by_cases hj12 : j < 12
            · have hRj := hM3.hR j hj12
              have hsb := sumR_bd (m := j) (fun i hi => hM3.hR i (by omega))
              have hfl := freeL_le R' (List.range j)
              rw [List.length_range] at hfl
              have HV := Lib.hid (refsN_in (n := 12) hj12 hRj.1)
              have HS : Hid (sumR R' (j + 1) = sumR R' j + R' j) := rfl
              have HF := Lib.hid (freeL_range R' j)
              go_wp2_with fail
              refine (refs_fn hMi _).mono ?_
              rintro e w5 ⟨rfl, hB5⟩
              rw [HV.out]
              have hM5 := hMi.below hB5
              have HB5 := Lib.hid hB5; clear hB5
              go_wp2_with fail
              refine (refs_fn hM5 _).mono ?_
              rintro e w6 ⟨rfl, hB6⟩
              rw [HV.out]
              have hM6 := hM5.below hB6
              have HB6 := Lib.hid hB6; clear hB6
              have HBB : Hid (Below w.heap.size w w6) := (HBi.out.trans (HB5.out.mono HBi.out.size)).trans (HB6.out.mono (HBi.out.trans (HB5.out.mono HBi.out.size)).size)
              by_cases hz : 0 < R' j
              · have hbz : (R' j == 0) = false := by rw [beq_eq_false_iff_ne]; omega
                go_wp2
                go_roundw
                case rel => exact ⟨j + 1, by omega, by go_num, by rw [HS.out], by rw [HF.out, if_pos hz]; rfl, hM6, HBB.out⟩
                case measure => simp [intOf]; omega
              · have hbz : (R' j == 0) = true := by rw [beq_iff_eq]; omega
                go_wp2
                go_roundw
                case rel => exact ⟨j + 1, by omega, by go_num, by rw [HS.out], by rw [HF.out, if_neg (by omega)]; rfl, hM6, HBB.out⟩
                case measure => simp [intOf]; omega
            · obtain rfl : j = 12 := by omega
              have HL : Hid (leftN 12 R' = freeL R' (List.range 12)) := rfl
              generalize freeL R' (List.range 12) = F0 at *
              go_wp2_with fail
              refine (left_any hMi).mono ?_
              rintro e w5 ⟨rfl, hB5⟩
              rw [HL.out]
              have hM5 := hMi.below hB5
              have HB5 : Hid (Below w.heap.size w w5) := HBi.out.trans (hB5.mono HBi.out.size)
              clear hB5
              go_wp2
              go_roundw
              case rel => exact ⟨k + 1, R', B', by omega, by go_num, rfl, hM5, HB5.out⟩
              case measure => simp [intOf]; omega
      · go_wp2
        go_ret
        exact ⟨rfl, hB⟩
    · go_wp2
      go_ret
      exact ⟨rfl, hB⟩


set_option maxRecDepth 100000 in
set_option maxHeartbeats 1000000 in
theorem count_empty (a : Option Addr) (cap : Nat) (w : World) :
    Calls Try.prog 5 #[.slice a 0 cap] w fun e w' => e = .returned (.bool true) ∧ Below w.heap.size w w' := by
  go_enter Try.func5, Try.ntmps5
  go_wp2_with fail
  refine (shown_any _).mono ?_
  rintro e w1 ⟨rfl, hB1⟩
  have HB1 := Lib.hid hB1; clear hB1
  go_wp2_with fail
  refine (new_ok 12 (by omega) (by omega) _).mono ?_
  rintro e w2 ⟨rfl, hM2, hB2⟩
  have HB2 := Lib.hid hB2; clear hB2
  go_wp2_with fail
  have hB3 : Hid (Below w.heap.size w w2) := HB1.out.trans (HB2.out.mono HB1.out.size)
  go_loopw [6, 7] (fun n i wr => n = .int .i64 0 ∧ i = .int .i64 0 ∧ Below w.heap.size w wr) (fun _ _ _ => 0)
  case atStart => exact ⟨rfl, rfl, hB3.out⟩
  case round =>
    obtain ⟨rfl, rfl, hB⟩ := hrel
    go_wp2
    go_ret
    exact ⟨rfl, hB⟩

set_option maxRecDepth 100000 in
theorem count_lifted (os : Os) (started : os.Started) (H : Type) (enc : TypeId × Value → H) :
    ReturnsInHanded {} Try.checked os 5 .any (Rows.framesCountSpec.pre6 enc Try.prog Try.f5 Rows.framesCountRow.domain false) (Rows.framesCountSpec.post enc Try.prog Try.f5 false true false false) := by
  refine returnsInHanded_of_change (C := Try.checked) own started (by kernel_rfl) Try.func5
    (ChangeSpec.witness6 (enc := enc) (C := Try.checked) false ⟨#[], #[.slice none 0 0], []⟩ 8 (by kernel_rfl) (by kernel_rfl) (by kernel_rfl) (by kernel_rfl)) ?_
  intro W base args ds gs before hval0 hW _ _
  have hval : ∀ (j : Nat) t v, Try.f5.params[j]? = some t → args[j]? = some v → Value.okWide Try.prog W .any base t v := hval0
  have hW' := hW
  obtain ⟨p, q, hA0, hV, rfl, hfz, hnd⟩ := hW
  have hA : DataW.TrodAll enc Try.prog W 0 (fun _ => true) true Try.f5.params.toList args.toList ds p := hA0
  rw [Try.params5] at hA hval
  obtain ⟨v0, vs0, d0, ds0, p0, q0, hargs, rfl, rfl, h0, r0⟩ := trodAll_cons hA
  obtain ⟨rfl, rfl, rfl⟩ := trodAll_nil r0
  obtain rfl : args = #[v0] := by cases args; simp_all
  obtain ⟨a, len, cap, rfl, hlen, hacts⟩ := open_acts (hval 0 22 v0 rfl rfl) h0
  have hwalk : Calls Try.prog 5 #[.slice a len cap] W fun e w' => e = .returned (.bool true) ∧ Below W.heap.size W w' := by
    rcases Nat.eq_zero_or_pos len with rfl | hpos
    · exact count_empty a cap W
    · obtain ⟨b, off, rfl, hb, hc⟩ := hacts hpos
      refine count_walk b off len cap hlen W hb (fun i hi => ?_)
      obtain ⟨d, f, x, n, s, hA⟩ := hc i hi
      exact ⟨d, f, hA.c0, hA.c1⟩
  refine hwalk.mono fun e W' ⟨he, bel⟩ => ⟨_, he, ?_⟩
  exact law_post laidOut (of_decide_eq_true (by kernel_rfl)) rfl Try.underlying4 rfl hW' (fun ds' e => by subst e; rfl) bel

theorem framesCount_holds : Rows.FramesCountSaid :=
  OpenClaim.holds_of_wide 5 Try.f5 rfl rfl rfl rfl rfl rfl rfl ⟨rfl, rfl, rfl, rfl, rfl⟩ rfl rfl rfl rfl rfl (by kernel_rfl) Try.func5 (by kernel_rfl)
    (of_decide_eq_true (by kernel_rfl)) (by unfold Func.isWrapper; rw [if_neg (by decide +kernel)]; exact ⟨rfl, rfl⟩)
    (fun os started H enc _ => count_lifted os started H enc)

#print axioms framesCount_holds
end Go.Proofs.Ytgbgjnhdoedboaa
