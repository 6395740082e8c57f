/- FramesZero: for every text and number of frames the law answers true: a frame that is allocated anew has bytes 0. No conditions. -/
import Derived.Test.YtgbgjnhdoedboaaFramesMach
import Derived.Test.YtgbgjnhdoedboaaLaw
namespace Go.Proofs.Ytgbgjnhdoedboaa
open Go.RowKit Go.ChangeShapes Go.WideShapes Go.ChangeAt
open Go.ChangeMaps (open_string shut_string)

theorem Try.infoByte : (Try.prog.info? 5).map (fun i => (i.zero, i.size, i.bytes)) = some (some (.int .u8 0), 1, 1) := by kernel_rfl
theorem made_page : madeCells #[.int .u8 0] 64 = zeroCells64 := by kernel_rfl
theorem make_page (W : World) : (Instr.makeSlice 52 (.int .i64 64) (.int .i64 64)).run Try.prog W = .ok (.slice (some ⟨W.heap.size, 0, none⟩) 64 64) (W.alloc (.cells zeroCells64 5)) := by
  obtain ⟨i0, hi, hz0, hz1, hz2⟩ := info_parts Try.infoByte
  have h := run_make (P := Try.prog) W 52 5 i0 _ Try.underlying52 hi hz0 .i64 .i64 64 64 (by omega) (by omega) (by rw [hz2]; omega) (by omega)
  rw [hz1] at h
  rw [h]
  simp only [Value.cells, Nat.mul_one]
  rw [← made_page]
  rfl
theorem conv_page (W : World) : (convert 52 9 (.slice (some ⟨W.heap.size, 0, none⟩) 64 64)).run Try.prog (W.alloc (.cells zeroCells64 5)) = .ok (.string ⟨zeroPage.toArray⟩) (W.alloc (.cells zeroCells64 5)) := by
  refine conv_range _ _ _ _ _ zeroPage (by simp [zeroPage]) ?_
  intro j v hv
  rw [cell_of_row _ _ _ zeroCells64 5 (0, 0) (heap_alloc_new _ _)]
  simpa [zeroCells64] using hv

theorem extract_size_le (s : ByteArray) (a b : Nat) (h : s.size ≤ maxLen) : (s.extract a b).size ≤ maxLen := by
  rw [ByteArray.size_extract]; omega

set_option maxRecDepth 100000 in
set_option maxHeartbeats 1000000 in
theorem zero_in (s : ByteArray) (n : Nat) (hs : s.size ≤ maxLen) (h1 : 1 ≤ n) (hn : n ≤ 20) (w : World) :
    Calls Try.prog 7 #[.string s, .int .i64 n] w fun e w' => e = .returned (.bool true) ∧ Below w.heap.size w w' := by
  have HS := Lib.hid hs
  have hs' := hs
  unfold maxLen at hs'
  clear hs
  go_enter Try.func7, Try.ntmps7
  go_wp2_with fail
  refine (shown_any _).mono ?_
  rintro e w1 ⟨rfl, hB1⟩
  have HB1 := Lib.hid hB1; clear hB1
  go_wp2_with fail
  refine (new_ok n h1 (by omega) _).mono ?_
  rintro e w2 ⟨rfl, hM2, hB2⟩
  have HB2 := Lib.hid hB2; clear hB2
  go_wp2_with fail
  have hB3 : Hid (Below w.heap.size w w2) := HB1.out.trans (HB2.out.mono HB1.out.size)
  have hsz : Hid (w.heap.size ≤ w1.heap.size) := HB1.out.size
  go_loopw [8] (fun i wr => ∃ (k : Nat) (R : Nat → Int) (B : Nat → List UInt8), k ≤ n ∧ i = .int .i64 k ∧ (∀ j, j < k → R j = 1) ∧ (∀ j, k ≤ j → j < n → R j = 0) ∧ MemAt wr (w1.heap.size + 1) w1.heap.size n R B ∧ Below w.heap.size w wr) (fun i _ => n - (intOf i).toNat)
  case atStart => exact ⟨0, _, _, Nat.zero_le _, rfl, fun j hj => by omega, fun j _ _ => rfl, hM2, hB3.out⟩
  case round =>
    obtain ⟨k, R, B, hk, rfl, hR1, hR0, hM, hB⟩ := hrel
    have HB := Lib.hid hB; clear hB
    by_cases hlt : k < n
    · have hF : allocF n R = some k := allocF_some hlt (hR0 k (Nat.le_refl _) hlt) (fun j hj => by rw [hR1 j hj]; omega)
      have hRR : Hid (allocR n R = updR R k 1) := by unfold Hid; simp [allocR, allocN, hF]
      have HR1 := Lib.hid hR1
      have HR0 := Lib.hid hR0
      clear hR1 hR0 hF
      go_wp2_with fail
      refine (alloc_fn hM).mono ?_
      rintro e w3 ⟨rfl, hM3, hG3⟩
      rw [hRR.out] at hM3
      have HG3 := Lib.hid hG3; clear hG3
      go_wp2_with fail
      all_goals
        refine (write_fn hM3 _ _ _ (by first | exact HS.out | exact extract_size_le _ _ _ HS.out)).mono ?_
        rintro e w4 ⟨rfl, hM4, hG4⟩
        have HG4 := Lib.hid hG4; clear hG4
        go_wp2
        go_roundw
        case rel =>
          refine ⟨k + 1, _, _, by omega, by go_num, fun j hj => ?_, fun j hj hjn => ?_, hM4, HB.out.trans (below_of_grown (grown_trans HG3.out HG4.out) HB.out.size (fun j e => by cases e; exact hsz.out))⟩
          · by_cases e : j = k
            · subst e; simp
            · rw [updR_other _ _ e]; exact HR1.out j (by omega)
          · rw [updR_other _ _ (by omega)]; exact HR0.out j (by omega) hjn
        case measure => simp [intOf]; omega
    · obtain rfl : k = n := by omega
      have hcast : ((k : Int) - 1).toNat = k - 1 := by omega
      have hlive : liveB k R ((k : Int) - 1) = true := by
        simp only [liveB, decide_eq_true_eq]
        refine ⟨by omega, by omega, ?_⟩
        rw [hcast, hR1 (k - 1) (by omega)]; omega
      have hfE : Hid (freeE k R ((k : Int) - 1) = 0) := by unfold Hid freeE; rw [if_pos hlive]
      have hfR : Hid (freeR k R ((k : Int) - 1) = updR R (k - 1) 0) := by unfold Hid freeR; rw [if_pos hlive, hcast, hR1 (k - 1) (by omega)]; rfl
      have hF : allocF k (updR R (k - 1) 0) = some (k - 1) := allocF_some (by omega) (by simp) (fun j hj => by rw [updR_other _ _ (by omega), hR1 j (by omega)]; omega)
      have hRR : Hid (allocR k (updR R (k - 1) 0) = updR (updR R (k - 1) 0) (k - 1) 1) := by unfold Hid; simp [allocR, allocN, hF]
      have hBB : Hid (allocB k (updR R (k - 1) 0) B = updB B (k - 1) zeroPage) := by unfold Hid; simp [allocB, allocN, hF]
      have hN : Hid (((allocN k (updR R (k - 1) 0) : Nat) : Int) = (k : Int) - 1) := by unfold Hid; simp [allocN, hF]; omega
      have hE : Hid (allocE k (updR R (k - 1) 0) = 0) := by unfold Hid; simp [allocE, hF]
      have hlive2 : liveB k (updR (updR R (k - 1) 0) (k - 1) 1) ((k : Int) - 1) = true := by
        simp only [liveB, decide_eq_true_eq]
        refine ⟨by omega, by omega, ?_⟩
        rw [hcast, updR_same]; omega
      have hrE : readE k (updR (updR R (k - 1) 0) (k - 1) 1) ((k : Int) - 1) 0 64 = 0 := by unfold readE; rw [if_pos hlive2]; rfl
      have hrS : Hid (readS k (updR (updR R (k - 1) 0) (k - 1) 1) (updB B (k - 1) zeroPage) ((k : Int) - 1) 0 64 = zeroPage) := by
        unfold Hid readS; rw [if_pos hrE, hcast, updB_same]; rfl
      have HrE := Lib.hid hrE
      clear hcast hlive hF hlive2 hrE hR1 hR0
      go_wp2_with fail
      refine (free_mem hM _).mono ?_
      rintro e w3 ⟨rfl, hM3, hG3⟩
      rw [hfR.out] at hM3
      rw [hfE.out]
      have HG3 := Lib.hid hG3; clear hG3
      go_wp2_with fail
      refine (alloc_fn hM3).mono ?_
      rintro e w4 ⟨rfl, hM4, hG4⟩
      rw [hRR.out, hBB.out] at hM4
      rw [hN.out, hE.out]
      have HG4 := Lib.hid hG4; clear hG4
      go_wp2_with fail
      refine (read_fn hM4 _ _ _).mono ?_
      rintro e w5 ⟨rfl, hB5⟩
      rw [hrS.out, HrE.out]
      have HB5 := Lib.hid hB5; clear hB5
      have hmk := make_page w5
      have hcv := conv_page w5
      have hB6 : Hid (Below w.heap.size w (w5.alloc (.cells zeroCells64 5))) := by
        have ha : Below w.heap.size w w4 := HB.out.trans (below_of_grown (grown_trans HG3.out HG4.out) HB.out.size (fun j e => by cases e; exact hsz.out))
        exact (ha.trans (HB5.out.mono ha.size)).alloc (by have := ha.size; have := HB5.out.size; omega) _
      generalize (⟨zeroPage.toArray⟩ : ByteArray) = Z at *
      generalize zeroCells64 = C at *
      go_wp2
      go_ret
      exact ⟨rfl, hB6.out⟩

set_option maxRecDepth 100000 in
set_option maxHeartbeats 1000000 in
theorem zero_walk (s : ByteArray) (n : Int) (hs : s.size ≤ maxLen) (w : World) :
    Calls Try.prog 7 #[.string s, .int .i64 n] w fun e w' => e = .returned (.bool true) ∧ Below w.heap.size w w' := by
  by_cases hn : 1 ≤ n ∧ n ≤ 20
  · obtain ⟨k, rfl⟩ := Int.eq_ofNat_of_zero_le (show 0 ≤ n by omega)
    exact zero_in s k hs (by omega) (by omega) w
  · have hc : n < 1 ∨ (1 ≤ n ∧ 20 < n) := by omega
    clear hn
    rcases hc with c | ⟨c1, c2⟩
    all_goals
      go_enter Try.func7, Try.ntmps7
      go_wp2_with fail
      refine (shown_any _).mono ?_
      rintro e w1 ⟨rfl, hB1⟩
      have HB1 := Lib.hid hB1; clear hB1
      go_wp2
      go_ret
      exact ⟨rfl, HB1.out⟩

set_option maxRecDepth 100000 in
theorem zero_lifted (os : Os) (started : os.Started) (H : Type) (enc : TypeId × Value → H) :
    ReturnsInHanded {} Try.checked os 7 .any (Rows.framesZeroSpec.pre6 enc Try.prog Try.f7 Rows.framesZeroRow.domain false) (Rows.framesZeroSpec.post enc Try.prog Try.f7 false true false false) := by
  refine returnsInHanded_of_change (C := Try.checked) own started (by kernel_rfl) Try.func7
    (ChangeSpec.witness6 (enc := enc) (C := Try.checked) false ⟨#[], #[.string ⟨#[]⟩, .int .i64 0], []⟩ 8 (by kernel_rfl) (by kernel_rfl) (by kernel_rfl) (by kernel_rfl)) ?_
  intro W base args ds gs before hval0 hW _ _
  have hval : ∀ (j : Nat) t v, Try.f7.params[j]? = some t → args[j]? = some v → Value.okWide Try.prog W .any base t v := hval0
  have hW' := hW
  obtain ⟨p, q, hA0, hV, rfl, hfz, hnd⟩ := hW
  have hA : DataW.TrodAll enc Try.prog W 0 (fun _ => true) true Try.f7.params.toList args.toList ds p := hA0
  rw [Try.params7] at hA hval
  obtain ⟨v0, vs0, d0, ds0, p0, q0, hargs, rfl, rfl, h0, r0⟩ := trodAll_cons hA
  obtain ⟨v1, vs1, d1, ds1, p1, q1, rfl, rfl, rfl, h1, r1⟩ := trodAll_cons r0
  obtain ⟨rfl, rfl, rfl⟩ := trodAll_nil r1
  obtain rfl : args = #[v0, v1] := by cases args; simp_all
  obtain ⟨s, rfl, -, -, hs⟩ := open_string Try.underlying9 (hval 0 9 v0 rfl rfl) h0
  obtain ⟨a1, rfl, -, -, w1⟩ := open_int Try.underlying3 (hval 1 3 v1 rfl rfl) h1
  refine (zero_walk s a1 hs W).mono fun e W' ⟨he, bel⟩ => ⟨_, he, ?_⟩
  exact law_post laidOut (of_decide_eq_true (by kernel_rfl)) rfl Try.underlying4 rfl hW' (fun ds' e => by subst e; rfl) bel

theorem framesZero_holds : Rows.FramesZeroSaid :=
  OpenClaim.holds_of_wide 7 Try.f7 rfl rfl rfl rfl rfl rfl rfl ⟨rfl, rfl, rfl, rfl, rfl⟩ rfl rfl rfl rfl rfl (by kernel_rfl) Try.func7 (by kernel_rfl)
    (of_decide_eq_true (by kernel_rfl)) (by unfold Func.isWrapper; rw [if_neg (by decide +kernel)]; exact ⟨rfl, rfl⟩)
    (fun os started H enc _ => zero_lifted os started H enc)

#print axioms framesZero_holds
end Go.Proofs.Ytgbgjnhdoedboaa
