/- SlotsTexts, under Works11: slots of texts do with them what slots of numbers do with their places. -/
import Derived.Test.YteannfenkmejjaaSlBs
import Derived.Test.YteannfenkmejjaaSlShown
import Derived.Test.YteannfenkmejjaaSlNumber
import Derived.Test.YteannfenkmejjaaSlActs
import Derived.Test.YteannfenkmejjaaQuInts
import Derived.Test.YteannfenkmejjaaAnd
namespace Go.Proofs.Yteannfenkmejjaa
open Go.RowKit

set_option maxRecDepth 100000 in
set_option maxHeartbeats 16000000 in
theorem texts_of {g : Nat} {SI : World → (Nat → Prop) → Nat → SlT Int → Prop} {SS : World → (Nat → Prop) → Nat → SlT ByteArray → Prop} (K : Works11I g SI) (K2 : Works11S g SS) (w0 : World) (N : New11I g SI w0) (N2 : New11S g SS w0) (a : Option Addr) (len cap : Nat) (hA : ActsAt w0 a len) :
    Calls Try.prog 4 #[.slice a len cap] w0 fun e w' => e = .returned (.bool true) ∧ Below w0.heap.size w0 w' := by
  have HA := Lib.hid hA.2
  have hlen := hA.1
  have HS := Lib.hid (shown11 K2 w0 N2)
  have HK := Lib.hid K
  have HK2 := Lib.hid K2
  have HN := Lib.hid N
  have HN2 := Lib.hid N2
  unfold maxLen at hlen
  clear hA K N K2 N2
  go_enter Try.func4, Try.ntmps4
  go_wp2_with (first
    | (go_at_call 9; refine HS.out.mono ?_; rintro e w1 ⟨rfl, hB⟩; have HB := Lib.hid (hB.alloc hB.size (.cells namesV 9)); have HNm := Lib.hid (BoxA.new w1 9 namesV); clear hB)
    | (go_at_call 10; refine (bs_newI HN.out HB.out HNm.out).mono ?_; rintro e w2 ⟨p, rfl, h2⟩; have H2 := Lib.hid h2; clear h2)
    | (go_at_call 23; refine (bs_newS HK.out HN2.out H2.out).mono ?_; rintro e w3 ⟨t, rfl, h3⟩; have H3 := Lib.hid h3; clear h3))
  generalize w1.heap.size = nb at *
  go_loopw [7] (fun i wr => ∃ j : Nat, j ≤ len ∧ j ≤ 150 ∧ i = .int .i64 (j : Int) ∧ ∃ L : SlT Int, BsP g SI SS w0 wr p t nb L (mapS nameF L) ∧ Four L) (fun i _ => 150 - (intOf i).toNat)
  case atStart => exact ⟨0, Nat.zero_le _, by omega, rfl, _, by rw [newS_map]; exact H3.out, four_new⟩
  case round =>
    obtain ⟨j, hj, hj2, rfl, L, hR, h4⟩ := hrel
    have HR := Lib.hid hR
    have HO := Lib.hid (hR.ok HK.out)
    have H4F := Lib.hid h4
    clear hR h4
    by_cases hlt : j < len ∧ j < 150
    · obtain ⟨l1, l2⟩ := hlt
      have l3 : (j : Int) < (len : Int) := by omega
      have l4 : (j : Int) < 150 := by omega
      obtain ⟨b, off, rfl, hb, hcs⟩ := HA.out (by omega)
      obtain ⟨d, k, pl, z, hA⟩ := hcs j l1
      have hA0 := hA.below HR.out.bel hb
      have c0 := hA0.c0
      have c1 := hA0.c1
      have c2 := hA0.c2
      have c3 := hA0.c3
      obtain ⟨M, hM⟩ : ∃ M, mapS nameF L = M := ⟨_, rfl⟩
      have HM := Lib.hid hM
      have HX := Lib.hid (HR.out.box HK.out HK2.out #[.int .i64 d, .int .i64 k, .bool pl, .int .i64 z])
      rw [hM] at HX
      obtain ⟨y, hy, hd⟩ := mod6 d
      have hx := six d y hd
      clear hcs hA hA0 hd hM
      have hn8 := idsL_len L
      obtain ⟨m, hm⟩ : ∃ m : Nat, z % 4 = (m : Int) := ⟨(z % 4).toNat, by omega⟩
      have hand : bits .and .i64 z 3 = (m : Int) := by rw [i64_and3, hm]
      have hm4 : m < 4 := by omega
      have hm4i : (m : Int) < 4 := by omega
      obtain ⟨id, hid⟩ : ∃ id, numX (idsL L) pl k = id := ⟨_, rfl⟩
      have N1 : ∀ (w5 : World) (v : Value), LsI w5 0 v (idsL L) → Calls Try.prog 11 #[v, .agg #[.int .i64 d, .int .i64 k, .bool pl, .int .i64 z]] w5 fun e w' => e = .returned (.int .i64 id) ∧ Below w5.heap.size w5 w' := fun w5 v h => by rw [← hid]; exact number11 h (by omega) d k pl z
      have HN1 := Lib.hid N1
      have PC : ∀ w5, BsX g SI SS w0 w5 p t nb wr.heap.size #[.int .i64 d, .int .i64 k, .bool pl, .int .i64 z] L M → w5.cell? ⟨wr.heap.size, 0, none⟩ = some (.int .i64 d) ∧ w5.cell? ⟨wr.heap.size, 1, none⟩ = some (.int .i64 k) ∧ w5.cell? ⟨wr.heap.size, 2, none⟩ = some (.bool pl) ∧ w5.cell? ⟨wr.heap.size, 3, none⟩ = some (.int .i64 z) := fun w5 h => ⟨h.bx.at 0 rfl, h.bx.at 1 rfl, h.bx.at 2 rfl, h.bx.at 3 rfl⟩
      have HPC := Lib.hid PC
      have Z0 := Lib.hid (PC _ HX.out)
      have y3 := HX.out.bx.at 3 (v := .int .i64 z) rfl
      clear N1 PC hid hn8 hm
      go_wp2_with fail
      go_region_held3 (fun w' => w'.cell? ⟨wr.heap.size, 0, none⟩ = some (.int .i64 d) ∧ w'.cell? ⟨wr.heap.size, 1, none⟩ = some (.int .i64 k) ∧ w'.cell? ⟨wr.heap.size, 2, none⟩ = some (.bool pl) ∧ w'.cell? ⟨wr.heap.size, 3, none⟩ = some (.int .i64 z)) (first | exact Z0.out | exact Z1.out | exact Z2.out) (first
        | (go_at_call 22; refine (bi_ids HK.out HK2.out (HX.out.drew HK.out HK2.out)).mono ?_; rintro e w5 ⟨v, rfl, hl5, h5⟩; have HL5 := Lib.hid hl5; have H5 := Lib.hid h5; have Z1 := Lib.hid (HPC.out _ h5); clear hl5 h5)
        | (go_at_call 11; refine (HN1.out _ _ HL5.out).mono ?_; rintro e w4 ⟨rfl, h4⟩; have H4 := Lib.hid (H5.out.below HK.out HK2.out h4); have Z2 := Lib.hid (HPC.out _ H4.out); clear h4))
      have y0 := Z2.out.1
      clear Z0 Z1 HL5 H5 HN1 HX c0 c1 c2 c3 y3
      have hns := Lib.hid (names_at m hm4)
      obtain ⟨X, hX⟩ : ∃ X, nameF (m : Int) = X := ⟨_, rfl⟩
      have HXX := Lib.hid hX
      rcases (show (y = 0 ∨ y = 1) ∨ (y = 2 ∨ y = 3) ∨ (y = 4 ∨ y = 5) by omega) with hyy | hyy | hyy
      · obtain ⟨n1, hn1⟩ : ∃ n1, addN L = n1 := ⟨_, rfl⟩
        obtain ⟨e1, he1⟩ : ∃ e1, addE L = e1 := ⟨_, rfl⟩
        obtain ⟨L1, hL1⟩ : ∃ L1, addL L (m : Int) = L1 := ⟨_, rfl⟩
        have KA : ∀ w5, BsX g SI SS w0 w5 p t nb wr.heap.size #[.int .i64 d, .int .i64 k, .bool pl, .int .i64 z] L M → Calls Try.prog 13 #[.pointer (some ⟨p, 0, none⟩), .int .i64 (m : Int)] w5 fun e w' => e = .returned (.tuple #[.int .i64 n1, .int .i64 e1]) ∧ BsX g SI SS w0 w' p t nb wr.heap.size #[.int .i64 d, .int .i64 k, .bool pl, .int .i64 z] L1 M := fun w5 h => by have := bi_add HK.out HK2.out h (m : Int); rw [hn1, he1, hL1] at this; exact this
        have KB : ∀ w5, BsX g SI SS w0 w5 p t nb wr.heap.size #[.int .i64 d, .int .i64 k, .bool pl, .int .i64 z] L1 M → Calls Try.prog 24 #[.pointer (some ⟨t, 0, none⟩), .string X] w5 fun e w' => e = .returned (.tuple #[.int .i64 n1, .int .i64 e1]) ∧ BsX g SI SS w0 w' p t nb wr.heap.size #[.int .i64 d, .int .i64 k, .bool pl, .int .i64 z] L1 (mapS nameF L1) := fun w5 h => by
          have := bt_add HK.out HK2.out h X
          rw [← HM.out, addN_map, addE_map, ← HXX.out, addL_map, hn1, he1, hL1, HXX.out] at this
          rw [← HM.out] at h
          exact this
        have hF1 := Lib.hid (show Four L1 by rw [← hL1]; exact four_add H4F.out HO.out (by omega))
        have HKA := Lib.hid KA; have HKB := Lib.hid KB
        clear KA KB hn1 he1 hL1 hX
        rcases hyy with rfl | rfl
        all_goals
          obtain ⟨x0, x1, x2, x3, x4, x5⟩ := hx
          simp only [Nat.reduceEqDiff, decide_true, decide_false, Nat.zero_ne_one, Nat.one_ne_zero] at x0 x1 x2 x3 x4 x5
          go_wp2_with (first
            | (go_at_call 13; refine (HKA.out _ H4.out).mono ?_; rintro e w6 ⟨rfl, h6⟩; have cn := h6.nm.at m (by rw [hns.out, HXX.out]); have H6 := Lib.hid h6; clear h6)
            | (go_at_call 24; refine (HKB.out _ H6.out).mono ?_; rintro e w7 ⟨rfl, h7⟩; have H7 := Lib.hid h7; clear h7))
          go_roundw
          case rel => exact ⟨j + 1, by omega, by omega, by go_num, _, H7.out.un, hF1.out⟩
          case measure => simp [intOf]; omega
      · obtain ⟨e1, he1⟩ : ∃ e1, getE L id = e1 := ⟨_, rfl⟩
        obtain ⟨L1, hL1⟩ : ∃ L1, setL L id (m : Int) = L1 := ⟨_, rfl⟩
        have KA : ∀ w5, BsX g SI SS w0 w5 p t nb wr.heap.size #[.int .i64 d, .int .i64 k, .bool pl, .int .i64 z] L M → Calls Try.prog 17 #[.pointer (some ⟨p, 0, none⟩), .int .i64 id, .int .i64 (m : Int)] w5 fun e w' => e = .returned (.int .i64 e1) ∧ BsX g SI SS w0 w' p t nb wr.heap.size #[.int .i64 d, .int .i64 k, .bool pl, .int .i64 z] L1 M := fun w5 h => by have := bi_set HK.out HK2.out h id (m : Int); rw [he1, hL1] at this; exact this
        have KB : ∀ w5, BsX g SI SS w0 w5 p t nb wr.heap.size #[.int .i64 d, .int .i64 k, .bool pl, .int .i64 z] L1 M → Calls Try.prog 25 #[.pointer (some ⟨t, 0, none⟩), .int .i64 id, .string X] w5 fun e w' => e = .returned (.int .i64 e1) ∧ BsX g SI SS w0 w' p t nb wr.heap.size #[.int .i64 d, .int .i64 k, .bool pl, .int .i64 z] L1 (mapS nameF L1) := fun w5 h => by
          have := bt_set HK.out HK2.out h id X
          rw [← HM.out, getE_map, ← HXX.out, setL_map, he1, hL1, HXX.out] at this
          rw [← HM.out] at h
          exact this
        have hF1 := Lib.hid (show Four L1 by rw [← hL1]; exact four_st H4F.out HO.out (by omega))
        obtain ⟨A, hA1⟩ : ∃ A : Nat, getV 0 L1 id = (A : Int) := ⟨(getV 0 L1 id).toNat, by have := four_get hF1.out id; omega⟩
        have hA4 : A < 4 := by have := (four_get hF1.out id).2; omega
        have hA4i : (A : Int) < 4 := by omega
        have handA : bits .and .i64 (A : Int) 3 = (A : Int) := by rw [i64_and3]; omega
        obtain ⟨Y, hY⟩ : ∃ Y, getV ⟨#[]⟩ (mapS nameF L1) id = Y := ⟨_, rfl⟩
        obtain ⟨e2, he2⟩ : ∃ e2, getE L1 id = e2 := ⟨_, rfl⟩
        have hcs2 : (e2 = 0 ∧ namesV[A]? = some (.string Y)) ∨ (e2 = 100 ∧ Y = ⟨#[]⟩) := by
          rcases getE_two L1 id with c | c
          · refine .inl ⟨he2.symm.trans c, ?_⟩
            rw [names_at A hA4, ← hY, getV_map (d := 0) _ c, hA1]
          · refine .inr ⟨he2.symm.trans c, ?_⟩
            rw [← hY]
            exact getV_no (by rw [getE_map, c]; decide)
        have KC : ∀ w5, BsX g SI SS w0 w5 p t nb wr.heap.size #[.int .i64 d, .int .i64 k, .bool pl, .int .i64 z] L1 (mapS nameF L1) → Calls Try.prog 15 #[.pointer (some ⟨p, 0, none⟩), .int .i64 id] w5 fun e w' => e = .returned (.tuple #[.int .i64 (A : Int), .int .i64 e2]) ∧ BsX g SI SS w0 w' p t nb wr.heap.size #[.int .i64 d, .int .i64 k, .bool pl, .int .i64 z] L1 (mapS nameF L1) := fun w5 h => by have := bi_get HK.out HK2.out h id; rw [hA1, he2] at this; exact this
        have KD : ∀ w5, BsX g SI SS w0 w5 p t nb wr.heap.size #[.int .i64 d, .int .i64 k, .bool pl, .int .i64 z] L1 (mapS nameF L1) → Calls Try.prog 26 #[.pointer (some ⟨t, 0, none⟩), .int .i64 id] w5 fun e w' => e = .returned (.tuple #[.string Y, .int .i64 e2]) ∧ BsX g SI SS w0 w' p t nb wr.heap.size #[.int .i64 d, .int .i64 k, .bool pl, .int .i64 z] L1 (mapS nameF L1) := fun w5 h => by have := bt_get HK.out HK2.out h id; rw [hY, getE_map, he2] at this; exact this
        have HKA := Lib.hid KA; have HKB := Lib.hid KB; have HKC := Lib.hid KC; have HKD := Lib.hid KD
        clear KA KB KC KD he1 hL1 hX hA1 hY he2
        rcases hcs2 with ⟨rfl, hnA⟩ | ⟨rfl, rfl⟩
        · rcases hyy with rfl | rfl
          all_goals
            obtain ⟨x0, x1, x2, x3, x4, x5⟩ := hx
            simp only [Nat.reduceEqDiff, decide_true, decide_false] at x0 x1 x2 x3 x4 x5
            have q4 := H4.out.nm.at m (by rw [hns.out, HXX.out])
            go_wp2_with fail
            go_region_held3 (fun w' => w'.cell? ⟨nb, m, none⟩ = some (.string X)) (first | exact q4 | exact u1 | exact u2) (first
              | (go_at_call 17; refine (HKA.out _ (H4.out.drew HK.out HK2.out)).mono ?_; rintro e w6 ⟨rfl, h6⟩; have u1 := h6.nm.at m (by rw [hns.out, HXX.out]); have H6 := Lib.hid h6; clear h6)
              | (go_at_call 25; refine (HKB.out _ H6.out).mono ?_; rintro e w7 ⟨rfl, h7⟩; have u2 := h7.nm.at m (by rw [hns.out, HXX.out]); have H7 := Lib.hid h7; clear h7))
            clear q4
            go_wp2_with (first
              | (go_at_call 15; refine (HKC.out _ H7.out).mono ?_; rintro e w8 ⟨rfl, h8⟩; have H8 := Lib.hid h8; clear h8)
              | (go_at_call 26; refine (HKD.out _ H8.out).mono ?_; rintro e w9 ⟨rfl, h9⟩; have cA := h9.nm.at A hnA; have H9 := Lib.hid h9; clear h9))
            go_roundw
            case rel => exact ⟨j + 1, by omega, by omega, by go_num, _, H9.out.un, hF1.out⟩
            case measure => simp [intOf]; omega
        · rcases hyy with rfl | rfl
          all_goals
            obtain ⟨x0, x1, x2, x3, x4, x5⟩ := hx
            simp only [Nat.reduceEqDiff, decide_true, decide_false] at x0 x1 x2 x3 x4 x5
            have q4 := H4.out.nm.at m (by rw [hns.out, HXX.out])
            go_wp2_with fail
            go_region_held3 (fun w' => w'.cell? ⟨nb, m, none⟩ = some (.string X)) (first | exact q4 | exact u1 | exact u2) (first
              | (go_at_call 17; refine (HKA.out _ (H4.out.drew HK.out HK2.out)).mono ?_; rintro e w6 ⟨rfl, h6⟩; have u1 := h6.nm.at m (by rw [hns.out, HXX.out]); have H6 := Lib.hid h6; clear h6)
              | (go_at_call 25; refine (HKB.out _ H6.out).mono ?_; rintro e w7 ⟨rfl, h7⟩; have u2 := h7.nm.at m (by rw [hns.out, HXX.out]); have H7 := Lib.hid h7; clear h7))
            clear q4
            go_wp2_with (first
              | (go_at_call 15; refine (HKC.out _ H7.out).mono ?_; rintro e w8 ⟨rfl, h8⟩; have H8 := Lib.hid h8; clear h8)
              | (go_at_call 26; refine (HKD.out _ H8.out).mono ?_; rintro e w9 ⟨rfl, h9⟩; have H9 := Lib.hid h9; clear h9))
            go_roundw
            case rel => exact ⟨j + 1, by omega, by omega, by go_num, _, H9.out.un, hF1.out⟩
            case measure => simp [intOf]; omega
      · obtain ⟨L1, hL1⟩ : ∃ L1, remL L id = L1 := ⟨_, rfl⟩
        obtain ⟨A, hA1⟩ : ∃ A : Nat, getV 0 L id = (A : Int) := ⟨(getV 0 L id).toNat, by have := four_get H4F.out id; omega⟩
        have hA4 : A < 4 := by have := (four_get H4F.out id).2; omega
        have hA4i : (A : Int) < 4 := by omega
        have handA : bits .and .i64 (A : Int) 3 = (A : Int) := by rw [i64_and3]; omega
        obtain ⟨Y, hY⟩ : ∃ Y, getV ⟨#[]⟩ (mapS nameF L) id = Y := ⟨_, rfl⟩
        obtain ⟨e2, he2⟩ : ∃ e2, getE L id = e2 := ⟨_, rfl⟩
        have hcs2 : (e2 = 0 ∧ namesV[A]? = some (.string Y)) ∨ (e2 = 100 ∧ Y = ⟨#[]⟩) := by
          rcases getE_two L id with c | c
          · refine .inl ⟨he2.symm.trans c, ?_⟩
            rw [names_at A hA4, ← hY, getV_map (d := 0) _ c, hA1]
          · refine .inr ⟨he2.symm.trans c, ?_⟩
            rw [← hY]
            exact getV_no (by rw [getE_map, c]; decide)
        have KA : ∀ w5, BsX g SI SS w0 w5 p t nb wr.heap.size #[.int .i64 d, .int .i64 k, .bool pl, .int .i64 z] L M → Calls Try.prog 19 #[.pointer (some ⟨p, 0, none⟩), .int .i64 id] w5 fun e w' => e = .returned (.tuple #[.int .i64 (A : Int), .int .i64 e2]) ∧ BsX g SI SS w0 w' p t nb wr.heap.size #[.int .i64 d, .int .i64 k, .bool pl, .int .i64 z] L1 M := fun w5 h => by have := bi_rem HK.out HK2.out h id; rw [hA1, he2, hL1] at this; exact this
        have KB : ∀ w5, BsX g SI SS w0 w5 p t nb wr.heap.size #[.int .i64 d, .int .i64 k, .bool pl, .int .i64 z] L1 M → Calls Try.prog 27 #[.pointer (some ⟨t, 0, none⟩), .int .i64 id] w5 fun e w' => e = .returned (.tuple #[.string Y, .int .i64 e2]) ∧ BsX g SI SS w0 w' p t nb wr.heap.size #[.int .i64 d, .int .i64 k, .bool pl, .int .i64 z] L1 (mapS nameF L1) := fun w5 h => by
          have := bt_rem HK.out HK2.out h id
          rw [← HM.out, hY, getE_map, he2, remL_map, hL1] at this
          rw [← HM.out] at h
          exact this
        have hF1 := Lib.hid (show Four L1 by rw [← hL1]; exact four_rem H4F.out HO.out)
        have HKA := Lib.hid KA; have HKB := Lib.hid KB
        clear KA KB hL1 hX hA1 hY he2
        rcases hcs2 with ⟨rfl, hnA⟩ | ⟨rfl, rfl⟩
        · rcases hyy with rfl | rfl
          all_goals
            obtain ⟨x0, x1, x2, x3, x4, x5⟩ := hx
            simp only [Nat.reduceEqDiff, decide_true, decide_false] at x0 x1 x2 x3 x4 x5
            go_wp2_with (first
              | (go_at_call 19; refine (HKA.out _ H4.out).mono ?_; rintro e w6 ⟨rfl, h6⟩; have H6 := Lib.hid h6; clear h6)
              | (go_at_call 27; refine (HKB.out _ H6.out).mono ?_; rintro e w7 ⟨rfl, h7⟩; have cA := h7.nm.at A hnA; have H7 := Lib.hid h7; clear h7))
            go_roundw
            case rel => exact ⟨j + 1, by omega, by omega, by go_num, _, H7.out.un, hF1.out⟩
            case measure => simp [intOf]; omega
        · rcases hyy with rfl | rfl
          all_goals
            obtain ⟨x0, x1, x2, x3, x4, x5⟩ := hx
            simp only [Nat.reduceEqDiff, decide_true, decide_false] at x0 x1 x2 x3 x4 x5
            go_wp2_with (first
              | (go_at_call 19; refine (HKA.out _ H4.out).mono ?_; rintro e w6 ⟨rfl, h6⟩; have H6 := Lib.hid h6; clear h6)
              | (go_at_call 27; refine (HKB.out _ H6.out).mono ?_; rintro e w7 ⟨rfl, h7⟩; have H7 := Lib.hid h7; clear h7))
            go_roundw
            case rel => exact ⟨j + 1, by omega, by omega, by go_num, _, H7.out.un, hF1.out⟩
            case measure => simp [intOf]; omega
    · have hor : ¬ ((j : Int) < (len : Int)) ∨ ((j : Int) < (len : Int) ∧ ¬ ((j : Int) < 150)) := by omega
      have hn8 := idsL_len L
      have J1 := Lib.hid (bp_ids HK.out HR.out)
      clear hlt
      rcases hor with e1 | ⟨e1, e2⟩
      all_goals
        go_wp2_with (first
          | (go_at_call 22; refine J1.out.mono ?_; rintro e w5 ⟨v5, rfl, hl5, hb5⟩; have HL5 := Lib.hid hl5; have HB5 := Lib.hid hb5; clear hl5 hb5)
          | (go_at_call 28; refine (bp_idsS HK2.out HR.out HB5.out).mono ?_; rw [idsL_map]; rintro e w6 ⟨v6, rfl, hl6, hb6⟩; have HL6 := Lib.hid hl6; have HL5b := Lib.hid (HL5.out.below hb6); have HB6 := Lib.hid (HB5.out.trans (hb6.mono HB5.out.size)); clear hl6 hb6)
          | (go_at_call 21; refine (ints7 (by omega) HL5b.out HL6.out).mono ?_; rintro e w7 ⟨rfl, hb7⟩; have HB7 := Lib.hid (HB6.out.trans (hb7.mono HB6.out.size)); clear hb7))
        go_ret
        exact ⟨rfl, HR.out.bel.trans (HB7.out.mono HR.out.bel.size)⟩
end Go.Proofs.Yteannfenkmejjaa
