/- FramesDo: for every number of frames and every list of acts the law answers true: what acts tell, and all frames behind each of them, are the document's. No conditions. -/
import Derived.Test.YtgbgjnhdoedboaaFramesDid
namespace Go.Proofs.Ytgbgjnhdoedboaa
open Go.RowKit Go.ChangeShapes Go.WideShapes Go.ChangeAt

set_option maxRecDepth 100000 in
set_option maxHeartbeats 4000000 in
theorem do_walk (n : Nat) (h1 : 1 ≤ n) (hn : n ≤ 40) (b off len cap : Nat) (_hlen : len ≤ maxLen) (w : World) (hb : b < w.heap.size)
    (hc : ∀ i, i < len → ∃ (d f x m : Int) (s : ByteArray), ActAt w b (off + i * 5) d f x m s) :
    Calls Try.prog 3 #[.int .i64 n, .slice (some ⟨b, off, none⟩) len cap] w fun e w' => e = .returned (.bool true) ∧ Below w.heap.size w w' := by
  unfold maxLen at _hlen
  have HC := Lib.hid hc; clear hc
  have d40 : decide (40 < (n : Int)) = false := by simp; omega
  go_enter Try.func3, Try.ntmps3
  go_wp2_with fail
  refine (shown_any _).mono ?_
  rintro e w1 ⟨rfl, hB1⟩
  have HB1 := Lib.hid hB1; clear hB1
  go_wp2_with fail
  refine (new_ok n h1 (by omega) _).mono ?_
  rintro e w2 ⟨rfl, hM2, hB2⟩
  have HB2 := Lib.hid hB2; clear hB2
  go_wp2_with fail
  refine (rnew_ok n h1 (by omega) _).mono ?_
  rintro e w3 ⟨rfl, ⟨gb, gr, hgb, hgr, hR3⟩, hB3⟩
  have hboth : Both w3 (w1.heap.size + 1) w1.heap.size w2.heap.size gb gr n (fun _ => 0) (fun _ => zeroPage) := ⟨hM2.below hB3, hR3⟩
  have hBB : Hid (Below w.heap.size w w3) := (HB1.out.trans (HB2.out.mono HB1.out.size)).trans (hB3.mono (by have := HB1.out.size; have := HB2.out.size; omega))
  have hs1 : Hid (w.heap.size ≤ w1.heap.size ∧ w.heap.size ≤ gb ∧ w.heap.size ≤ gr) := by have := HB1.out.size; have := HB2.out.size; exact ⟨by omega, by omega, by omega⟩
  have HBO := Lib.hid hboth
  clear hboth hR3 hB3 hM2 hgb hgr
  generalize w2.heap.size = q at *
  generalize w1.heap.size + 1 = p at *
  generalize w1.heap.size = g at *
  go_wp2_with fail
  go_loopw [10] (fun i wr => ∃ (k : Nat) (R : Nat → Int) (B : Nat → List UInt8), k ≤ len ∧ i = .int .i64 k ∧ Both wr p g q gb gr n R B ∧ Below w.heap.size w wr) (fun i _ => len - (intOf i).toNat)
  case atStart => exact ⟨0, _, _, Nat.zero_le _, rfl, HBO.out, hBB.out⟩
  case round =>
    obtain ⟨k, R, B, hk, rfl, hbo, hB⟩ := hrel
    by_cases hlt : k < len
    · by_cases h100 : k < 100
      · obtain ⟨d, f, x, m, s, hA⟩ := HC.out k hlt
        have hA' := hA.below hB hb
        obtain ⟨c0, c1, c2, c3, c4, hs⟩ := hA'
        have HS := Lib.hid hs
        have HB := Lib.hid hB; clear hB hA hs
        have HO := Lib.hid hbo
        clear hbo
        go_wp2_with fail
        refine (did_any HO.out d f x m s HS.out).mono ?_
        rintro e w4 ⟨rfl, ⟨R', B', hbo4⟩, hT4⟩
        have HB4 : Hid (Below w.heap.size w w4) := HB.out.trans (hT4.below HB.out.size hs1.out.1 hs1.out.2.1 hs1.out.2.2)
        clear hT4 c0 c1 c2 c3 c4
        obtain ⟨cr, hcr⟩ := hbo4.ref.cellR
        have hql := Lib.hid hbo4.ref.q_lt
        go_wp2_with fail
        have HO4 := Lib.hid hbo4; clear hbo4
        go_region_held3 (fun w' => w'.cell? ⟨q, 1, none⟩ = some (.slice (some ⟨gr, 0, none⟩) n cr)) (first | exact hcr | exact hcr5) (first
          | (go_at_call 14; refine (left_any HO4.out.drew.mem).mono ?_; rintro e w5 ⟨rfl, hB5⟩; have hcr5 := (hB5.cell (p := ⟨q, 1, none⟩) hql.out).trans hcr; have HO5 := Lib.hid (HO4.out.drew.below hB5); have HB5 := Lib.hid hB5; clear hB5)
          | (go_at_call 15; refine (rleft HO5.out.ref).mono ?_; rintro e w' ⟨rfl, rfl⟩)
          | (go_at_call 16; refine (total_any HO5.out.mem).mono ?_; rintro e w' ⟨rfl, rfl⟩))
        have HB6 : Hid (Below w.heap.size w w5) := by
          have h5 : Below w4.heap.size w4 w5 := ⟨HB5.out.os, HB5.out.tape, HB5.out.output, HB5.out.size, HB5.out.block⟩
          exact HB4.out.trans (h5.mono HB4.out.size)
        clear HB5 HB4 HB HO
        go_wp2_with fail
        go_loopw [12] (fun t wi => ∃ j : Nat, j ≤ n + 2 ∧ t = .int .i64 ((j : Int) - 1) ∧ Both wi p g q gb gr n R' B' ∧ Below w.heap.size w wi) (fun t _ => n + 2 - (intOf t + 1).toNat)
        case atStart => exact ⟨0, by omega, rfl, HO5.out, HB6.out⟩
        case round =>
          obtain ⟨j, hj, rfl, hboi, hBi⟩ := hrel
          have HBi := Lib.hid hBi; clear hBi
          obtain ⟨ci, hci⟩ := hboi.ref.cellR
          by_cases hjn : j ≤ n + 1
          · have hle : (j : Int) - 1 ≤ (n : Int) := by omega
            have hge : -1 ≤ (j : Int) - 1 := by omega
            generalize ht : (j : Int) - 1 = t at *
            have HT := Lib.hid ht; clear ht
            have HOi := Lib.hid hboi; clear hboi
            go_wp2_with fail
            refine (read_fn HOi.out.mem t 0 64).mono ?_
            rintro e w6 ⟨rfl, hB7⟩
            have HO7 := Lib.hid (HOi.out.below hB7)
            have HB7 : Hid (Below w.heap.size w w6) := HBi.out.trans (hB7.mono HBi.out.size)
            clear hB7
            go_wp2_with fail
            refine (rread HO7.out.ref t 0 64).mono ?_
            rintro e w' ⟨rfl, rfl⟩
            rw [show tx (readS n R' B' t 0 64) = ⟨(readS n R' B' t 0 64).toArray⟩ from rfl]
            generalize (⟨(readS n R' B' t 0 64).toArray⟩ : ByteArray) = X
            generalize readE n R' t 0 64 = E
            go_wp2_with fail
            refine (refs_fn HO7.out.mem t).mono ?_
            rintro e w7 ⟨rfl, hB8⟩
            have HO8 := Lib.hid (HO7.out.below hB8)
            have HB8 : Hid (Below w.heap.size w w7) := HB7.out.trans (hB8.mono HB7.out.size)
            clear hB8
            go_wp2_with fail
            refine (rrefs HO8.out.ref t).mono ?_
            rintro e w' ⟨rfl, rfl⟩
            generalize refsN n R' t = V
            go_wp2
            go_roundw
            case rel => exact ⟨j + 1, by omega, by rw [← HT.out]; go_num, HO8.out, HB8.out⟩
            case measure => simp [intOf]; omega
          · obtain rfl : j = n + 2 := by omega
            have hgt : decide ((((n + 2 : Nat) : Int) - 1) ≤ (n : Int)) = false := by simp; omega
            go_wp2
            go_roundw
            case rel => exact ⟨k + 1, R', B', by omega, by go_num, hboi, HBi.out⟩
            case measure => simp [intOf]; omega
      · go_wp2
        go_ret
        exact ⟨rfl, hB⟩
    · go_wp2
      go_ret
      exact ⟨rfl, hB⟩


set_option maxRecDepth 100000 in
set_option maxHeartbeats 1000000 in
theorem do_empty (n : Nat) (h1 : 1 ≤ n) (hn : n ≤ 40) (a : Option Addr) (cap : Nat) (w : World) :
    Calls Try.prog 3 #[.int .i64 n, .slice a 0 cap] w fun e w' => e = .returned (.bool true) ∧ Below w.heap.size w w' := by
  have d40 : decide (40 < (n : Int)) = false := by simp; omega
  go_enter Try.func3, Try.ntmps3
  go_wp2_with fail
  refine (shown_any _).mono ?_
  rintro e w1 ⟨rfl, hB1⟩
  have HB1 := Lib.hid hB1; clear hB1
  go_wp2_with fail
  refine (new_ok n h1 (by omega) _).mono ?_
  rintro e w2 ⟨rfl, hM2, hB2⟩
  have HB2 := Lib.hid hB2; clear hB2
  go_wp2_with fail
  refine (rnew_ok n h1 (by omega) _).mono ?_
  rintro e w3 ⟨rfl, ⟨gb, gr, hgb, hgr, hR3⟩, hB3⟩
  have hBB : Hid (Below w.heap.size w w3) := (HB1.out.trans (HB2.out.mono HB1.out.size)).trans (hB3.mono (by have := HB1.out.size; have := HB2.out.size; omega))
  clear hR3 hB3 hM2 hgb hgr
  go_wp2_with fail
  go_loopw [10] (fun i wr => i = .int .i64 0 ∧ Below w.heap.size w wr) (fun _ _ => 0)
  case atStart => exact ⟨rfl, hBB.out⟩
  case round =>
    obtain ⟨rfl, hB⟩ := hrel
    go_wp2
    go_ret
    exact ⟨rfl, hB⟩

set_option maxRecDepth 100000 in
set_option maxHeartbeats 1000000 in
theorem do_bad (n : Int) (hn : n < 1 ∨ 40 < n) (a : Option Addr) (len cap : Nat) (w : World) :
    Calls Try.prog 3 #[.int .i64 n, .slice a len cap] w fun e w' => e = .returned (.bool true) ∧ Below w.heap.size w w' := by
  by_cases hm : 40 < n ∧ n ≤ 256
  · obtain ⟨m1, m2⟩ := hm
    clear hn
    go_enter Try.func3, Try.ntmps3
    go_wp2_with fail
    refine (shown_any _).mono ?_
    rintro e w1 ⟨rfl, hB1⟩
    have HB1 := Lib.hid hB1; clear hB1
    go_wp2
    go_ret
    exact ⟨rfl, HB1.out⟩
  · have hbad : n < 1 ∨ 256 < n := by omega
    have hc : (n ≤ 40 ∧ n < 1) ∨ (40 < n ∧ 256 < n) := by omega
    clear hm hn
    rcases hc with ⟨c1, c2⟩ | ⟨c1, c2⟩
    all_goals
      go_enter Try.func3, Try.ntmps3
      go_wp2_with fail
      refine (shown_any _).mono ?_
      rintro e w1 ⟨rfl, hB1⟩
      have HB1 := Lib.hid hB1; clear hB1
      go_wp2_with fail
      refine (new_bad n hbad _).mono ?_
      rintro e w' ⟨rfl, rfl⟩
      go_wp2_with fail
      refine (rnew_bad n hbad _).mono ?_
      rintro e w' ⟨rfl, rfl⟩
      go_wp2
      go_ret
      exact ⟨rfl, HB1.out⟩

set_option maxRecDepth 100000 in
theorem do_lifted (os : Os) (started : os.Started) (H : Type) (enc : TypeId × Value → H) :
    ReturnsInHanded {} Try.checked os 3 .any (Rows.framesDoSpec.pre6 enc Try.prog Try.f3 Rows.framesDoRow.domain false) (Rows.framesDoSpec.post enc Try.prog Try.f3 false true false false) := by
  refine returnsInHanded_of_change (C := Try.checked) own started (by kernel_rfl) Try.func3
    (ChangeSpec.witness6 (enc := enc) (C := Try.checked) false ⟨#[], #[.int .i64 0, .slice none 0 0], []⟩ 8 (by kernel_rfl) (by kernel_rfl) (by kernel_rfl) (by kernel_rfl)) ?_
  intro W base args ds gs before hval0 hW _ _
  have hval : ∀ (j : Nat) t v, Try.f3.params[j]? = some t → args[j]? = some v → Value.okWide Try.prog W .any base t v := hval0
  have hW' := hW
  obtain ⟨p, q, hA0, hV, rfl, hfz, hnd⟩ := hW
  have hA : DataW.TrodAll enc Try.prog W 0 (fun _ => true) true Try.f3.params.toList args.toList ds p := hA0
  rw [Try.params3] at hA hval
  obtain ⟨v0, vs0, d0, ds0, p0, q0, hargs, rfl, rfl, h0, r0⟩ := trodAll_cons hA
  obtain ⟨v1, vs1, d1, ds1, p1, q1, rfl, rfl, rfl, h1, r1⟩ := trodAll_cons r0
  obtain ⟨rfl, rfl, rfl⟩ := trodAll_nil r1
  obtain rfl : args = #[v0, v1] := by cases args; simp_all
  obtain ⟨n, rfl, -, -, _⟩ := open_int Try.underlying3 (hval 0 3 v0 rfl rfl) h0
  obtain ⟨a, len, cap, rfl, hlen, hacts⟩ := open_acts (hval 1 22 v1 rfl rfl) h1
  have hwalk : Calls Try.prog 3 #[.int .i64 n, .slice a len cap] W fun e w' => e = .returned (.bool true) ∧ Below W.heap.size W w' := by
    by_cases hn : 1 ≤ n ∧ n ≤ 40
    · obtain ⟨m, rfl⟩ := Int.eq_ofNat_of_zero_le (show 0 ≤ n by omega)
      rcases Nat.eq_zero_or_pos len with rfl | hpos
      · exact do_empty m (by omega) (by omega) a cap W
      · obtain ⟨b, off, rfl, hb, hc⟩ := hacts hpos
        exact do_walk m (by omega) (by omega) b off len cap hlen W hb hc
    · exact do_bad n (by omega) a len cap W
  refine hwalk.mono fun e W' ⟨he, bel⟩ => ⟨_, he, ?_⟩
  exact law_post laidOut (of_decide_eq_true (by kernel_rfl)) rfl Try.underlying4 rfl hW' (fun ds' e => by subst e; rfl) bel

theorem framesDo_holds : Rows.FramesDoSaid :=
  OpenClaim.holds_of_wide 3 Try.f3 rfl rfl rfl rfl rfl rfl rfl ⟨rfl, rfl, rfl, rfl, rfl⟩ rfl rfl rfl rfl rfl (by kernel_rfl) Try.func3 (by kernel_rfl)
    (of_decide_eq_true (by kernel_rfl)) (by unfold Func.isWrapper; rw [if_neg (by decide +kernel)]; exact ⟨rfl, rfl⟩)
    (fun os started H enc _ => do_lifted os started H enc)

#print axioms framesDo_holds
end Go.Proofs.Ytgbgjnhdoedboaa
