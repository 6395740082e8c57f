/- SlotsDo, under Works11: what acts tell, and which numbers there are behind each of them, are the document's. -/
import Derived.Test.YteannfenkmejjaaSlBd
import Derived.Test.YteannfenkmejjaaSlShown
import Derived.Test.YteannfenkmejjaaSlNumber
import Derived.Test.YteannfenkmejjaaSlActs
import Derived.Test.YteannfenkmejjaaQuInts
import Derived.Deep.DeepCutAuto
import Derived.Deep.CutBlock
import Derived.Deep.CutRange
namespace Go.Proofs.Yteannfenkmejjaa
open Go.RowKit

set_option maxRecDepth 100000 in
set_option maxHeartbeats 16000000 in
theorem do_of {g : Nat} {Sl : World → (Nat → Prop) → Nat → SlT Int → Prop} {Sl2 : World → (Nat → Prop) → Nat → SlT ByteArray → Prop} (K : Works11I g Sl) (K2 : Works11S g Sl2) (w0 : World) (N : New11I g Sl w0) (N2 : New11S g Sl2 w0) (a : Option Addr) (len cap : Nat) (hA : ActsAt w0 a len) :
    Calls Try.prog 3 #[.slice a len cap] w0 fun e w' => e = .returned (.bool true) ∧ Below w0.heap.size w0 w' := by
  have HA := Lib.hid hA.2
  have hlen := hA.1
  have HS := Lib.hid (shown11 K2 w0 N2)
  have HK := Lib.hid K
  have HN := Lib.hid N
  unfold maxLen at hlen
  clear hA K N K2 N2
  go_enter Try.func3, Try.ntmps3
  go_wp2_with (first
    | (go_at_call 9; refine HS.out.mono ?_; rintro e w1 ⟨rfl, hB⟩; have HB := Lib.hid hB; clear hB)
    | (go_at_call 10; refine (ss_newI HN.out HB.out).mono ?_; rintro e w2 ⟨p, rfl, h2⟩; have H2 := Lib.hid (BdP.start HK.out h2); clear h2))
  generalize w2.heap.size = q at *
  go_loopw [6] (fun i wr => ∃ j : Nat, j ≤ len ∧ j ≤ 200 ∧ i = .int .i64 (j : Int) ∧ ∃ R : RT11, BdP g Sl w0 wr p q R) (fun i _ => 200 - (intOf i).toNat)
  case atStart => exact ⟨0, Nat.zero_le _, by omega, rfl, _, H2.out⟩
  case round =>
    obtain ⟨j, hj, hj2, rfl, R, hR⟩ := hrel
    have HR := Lib.hid hR
    clear hR
    by_cases hlt : j < len ∧ j < 200
    · obtain ⟨l1, l2⟩ := hlt
      have l3 : (j : Int) < (len : Int) := by omega
      have l4 : (j : Int) < 200 := by omega
      obtain ⟨b, off, rfl, hb, hcs⟩ := HA.out (by omega)
      obtain ⟨d, k, pl, z, hA⟩ := hcs j l1
      have hA0 := hA.below HR.out.bel hb
      have c0 := hA0.c0
      have c1 := hA0.c1
      have c2 := hA0.c2
      have c3 := hA0.c3
      have HX := Lib.hid (HR.out.box HK.out #[.int .i64 d, .int .i64 k, .bool pl, .int .i64 z])
      obtain ⟨y, hy, hd⟩ := mod6 d
      have hx := six d y hd
      clear hcs hA hA0 hd
      have hn8 := idsL_len (absT R)
      obtain ⟨L, hL⟩ : ∃ L, absT R = L := ⟨_, rfl⟩
      have HL := Lib.hid hL
      rw [hL] at hn8
      have HX : Hid (BdX g Sl w0 (wr.alloc (.cells #[.int .i64 d, .int .i64 k, .bool pl, .int .i64 z] 32)) p q wr.heap.size #[.int .i64 d, .int .i64 k, .bool pl, .int .i64 z] L R) := by rw [← hL]; exact HX.out
      have I1 : ∀ w5, BdX g Sl w0 w5 p q wr.heap.size #[.int .i64 d, .int .i64 k, .bool pl, .int .i64 z] L R → Calls Try.prog 12 #[.pointer (some ⟨q, 0, none⟩)] w5 fun e w' => ∃ v, e = .returned v ∧ LsI w' 0 v (idsL L) ∧ BdX g Sl w0 w' p q wr.heap.size #[.int .i64 d, .int .i64 k, .bool pl, .int .i64 z] L R := fun w5 h => by
        refine (dd_ids HK.out h).mono ?_
        rintro e w' ⟨v, rfl, hl, hx, -⟩
        rw [hL] at hl
        exact ⟨v, rfl, hl, hx⟩
      have HI1 := Lib.hid I1
      obtain ⟨id, hid⟩ : ∃ id, numX (idsL L) pl k = id := ⟨_, rfl⟩
      have N1 : ∀ (w5 : World) (v : Value), LsI w5 0 v (idsL L) → Calls Try.prog 11 #[v, .agg #[.int .i64 d, .int .i64 k, .bool pl, .int .i64 z]] w5 fun e w' => e = .returned (.int .i64 id) ∧ Below w5.heap.size w5 w' := fun w5 v h => by rw [← hid]; exact number11 h (by omega) d k pl z
      have HN1 := Lib.hid N1
      have PC : ∀ w5, BdX g Sl w0 w5 p q wr.heap.size #[.int .i64 d, .int .i64 k, .bool pl, .int .i64 z] L R → w5.cell? ⟨wr.heap.size, 0, none⟩ = some (.int .i64 d) ∧ w5.cell? ⟨wr.heap.size, 1, none⟩ = some (.int .i64 k) ∧ w5.cell? ⟨wr.heap.size, 2, none⟩ = some (.bool pl) ∧ w5.cell? ⟨wr.heap.size, 3, none⟩ = some (.int .i64 z) := fun w5 h => ⟨h.bx.at 0 rfl, h.bx.at 1 rfl, h.bx.at 2 rfl, h.bx.at 3 rfl⟩
      have HPC := Lib.hid PC
      have Z0 := Lib.hid (PC _ HX.out)
      clear I1 N1 PC hid hL hn8
      go_wp2_with fail
      go_region_held3 (fun w' => w'.cell? ⟨wr.heap.size, 0, none⟩ = some (.int .i64 d) ∧ w'.cell? ⟨wr.heap.size, 1, none⟩ = some (.int .i64 k) ∧ w'.cell? ⟨wr.heap.size, 2, none⟩ = some (.bool pl) ∧ w'.cell? ⟨wr.heap.size, 3, none⟩ = some (.int .i64 z)) (first | exact Z0.out | exact Z1.out | exact Z2.out) (first
        | (go_at_call 12; refine (HI1.out _ (HX.out.drew HK.out)).mono ?_; rintro e w3 ⟨v, rfl, hl3, h3⟩; have HL3 := Lib.hid hl3; have H3 := Lib.hid h3; have Z1 := Lib.hid (HPC.out _ h3); clear hl3 h3)
        | (go_at_call 11; refine (HN1.out _ _ HL3.out).mono ?_; rintro e w4 ⟨rfl, h4⟩; have H4 := Lib.hid (H3.out.below HK.out h4); have Z2 := Lib.hid (HPC.out _ H4.out); clear h4))
      have y0 := Z2.out.1; have y3 := Z2.out.2.2.2
      clear HI1 HN1 HL3 H3 Z1 Z0 c0 c1 c2 c3
      go_upto_block 2 with fail
      go_cut [9] from 26 to 140 (fun s9 wx => s9 = .bool true ∧ ∃ (R1 : RT11) (L1 : SlT Int), absT R1 = L1 ∧ BdX g Sl w0 wx p q wr.heap.size #[.int .i64 d, .int .i64 k, .bool pl, .int .i64 z] L1 R1)
      case first =>
        rcases (show (y = 0 ∨ y = 1) ∨ y = 2 ∨ y = 3 ∨ (y = 4 ∨ y = 5) by omega) with hyy | rfl | rfl | hyy
        · obtain ⟨n1, hn1⟩ : ∃ n1, addN L = n1 := ⟨_, rfl⟩
          obtain ⟨e1, he1⟩ : ∃ e1, addE L = e1 := ⟨_, rfl⟩
          obtain ⟨L1, hL1⟩ : ∃ L1, addL L z = L1 := ⟨_, rfl⟩
          have KA : ∀ w5, BdX g Sl w0 w5 p q wr.heap.size #[.int .i64 d, .int .i64 k, .bool pl, .int .i64 z] L R → Calls Try.prog 13 #[.pointer (some ⟨p, 0, none⟩), .int .i64 z] w5 fun e w' => e = .returned (.tuple #[.int .i64 n1, .int .i64 e1]) ∧ BdX g Sl w0 w' p q wr.heap.size #[.int .i64 d, .int .i64 k, .bool pl, .int .i64 z] L1 R := fun w5 h => by have := bd_add HK.out h z; rw [hn1, he1, hL1] at this; exact this
          have KB : ∀ w5, BdX g Sl w0 w5 p q wr.heap.size #[.int .i64 d, .int .i64 k, .bool pl, .int .i64 z] L1 R → Calls Try.prog 14 #[.pointer (some ⟨q, 0, none⟩), .int .i64 z] w5 fun e w' => e = .returned (.tuple #[.int .i64 n1, .int .i64 e1]) ∧ ∃ R1, absT R1 = L1 ∧ BdX g Sl w0 w' p q wr.heap.size #[.int .i64 d, .int .i64 k, .bool pl, .int .i64 z] L1 R1 := fun w5 h => by have := dd_add HK.out h z; rw [HL.out, hn1, he1, hL1] at this; exact this
          have HKA := Lib.hid KA; have HKB := Lib.hid KB
          clear KA KB hn1 he1 hL1
          rcases hyy with rfl | rfl
          all_goals
            obtain ⟨x0, x1, x2, x3, x4, x5⟩ := hx
            simp only [Nat.reduceEqDiff, decide_true, decide_false, Nat.zero_ne_one, Nat.one_ne_zero] at x0 x1 x2 x3 x4 x5
            go_wp2_with (first
              | (go_at_call 13; refine (HKA.out _ H4.out).mono ?_; rintro e w5 ⟨rfl, h5⟩; have u3 := h5.bx.at 3 (v := .int .i64 z) rfl; have H5 := Lib.hid h5; clear h5)
              | (go_at_call 14; refine (HKB.out _ H5.out).mono ?_; rintro e w6 ⟨rfl, R1, hR1, h6⟩; have H6 := Lib.hid h6; have HR1 := Lib.hid hR1; clear h6 hR1))
            go_meet
            case rel => exact ⟨rfl, R1, L1, HR1.out, H6.out⟩
        · obtain ⟨n1, hn1⟩ : ∃ n1, getV 0 L id = n1 := ⟨_, rfl⟩
          obtain ⟨e1, he1⟩ : ∃ e1, getE L id = e1 := ⟨_, rfl⟩
          obtain ⟨L1, hL1⟩ : ∃ L1, L = L1 := ⟨_, rfl⟩
          have KA : ∀ w5, BdX g Sl w0 w5 p q wr.heap.size #[.int .i64 d, .int .i64 k, .bool pl, .int .i64 z] L R → Calls Try.prog 15 #[.pointer (some ⟨p, 0, none⟩), .int .i64 id] w5 fun e w' => e = .returned (.tuple #[.int .i64 n1, .int .i64 e1]) ∧ BdX g Sl w0 w' p q wr.heap.size #[.int .i64 d, .int .i64 k, .bool pl, .int .i64 z] L R := fun w5 h => by have := bd_get HK.out h id; rw [hn1, he1] at this; exact this
          have KB : ∀ w5, BdX g Sl w0 w5 p q wr.heap.size #[.int .i64 d, .int .i64 k, .bool pl, .int .i64 z] L R → Calls Try.prog 16 #[.pointer (some ⟨q, 0, none⟩), .int .i64 id] w5 fun e w' => e = .returned (.tuple #[.int .i64 n1, .int .i64 e1]) ∧ ∃ R1, absT R1 = L1 ∧ BdX g Sl w0 w' p q wr.heap.size #[.int .i64 d, .int .i64 k, .bool pl, .int .i64 z] L1 R1 := fun w5 h => by
            refine (dd_get h id).mono ?_
            rintro e w' ⟨rfl, rfl⟩
            rw [HL.out, hn1, he1]
            exact ⟨rfl, R, HL.out.trans hL1, by rw [← hL1]; exact h⟩
          have HKA := Lib.hid KA; have HKB := Lib.hid KB
          clear KA KB hn1 he1 hL1
          obtain ⟨x0, x1, x2, x3, x4, x5⟩ := hx
          simp only [Nat.reduceEqDiff, decide_true, decide_false] at x0 x1 x2 x3 x4 x5
          go_wp2_with (first
            | (go_at_call 15; refine (HKA.out _ H4.out).mono ?_; rintro e w5 ⟨rfl, h5⟩; have u3 := h5.bx.at 3 (v := .int .i64 z) rfl; have H5 := Lib.hid h5; clear h5)
            | (go_at_call 16; refine (HKB.out _ H5.out).mono ?_; rintro e w6 ⟨rfl, R1, hR1, h6⟩; have H6 := Lib.hid h6; have HR1 := Lib.hid hR1; clear h6 hR1))
          go_meet
          case rel => exact ⟨rfl, R1, L1, HR1.out, H6.out⟩
        · obtain ⟨e1, he1⟩ : ∃ e1, getE L id = e1 := ⟨_, rfl⟩
          obtain ⟨L1, hL1⟩ : ∃ L1, setL L id z = L1 := ⟨_, rfl⟩
          have KA : ∀ w5, BdX g Sl w0 w5 p q wr.heap.size #[.int .i64 d, .int .i64 k, .bool pl, .int .i64 z] L R → Calls Try.prog 17 #[.pointer (some ⟨p, 0, none⟩), .int .i64 id, .int .i64 z] w5 fun e w' => e = .returned (.int .i64 e1) ∧ BdX g Sl w0 w' p q wr.heap.size #[.int .i64 d, .int .i64 k, .bool pl, .int .i64 z] L1 R := fun w5 h => by have := bd_set HK.out h id z; rw [he1, hL1] at this; exact this
          have KB : ∀ w5, BdX g Sl w0 w5 p q wr.heap.size #[.int .i64 d, .int .i64 k, .bool pl, .int .i64 z] L1 R → Calls Try.prog 18 #[.pointer (some ⟨q, 0, none⟩), .int .i64 id, .int .i64 z] w5 fun e w' => e = .returned (.int .i64 e1) ∧ ∃ R1, absT R1 = L1 ∧ BdX g Sl w0 w' p q wr.heap.size #[.int .i64 d, .int .i64 k, .bool pl, .int .i64 z] L1 R1 := fun w5 h => by have := dd_set HK.out h id z; rw [HL.out, he1, hL1] at this; exact this
          have HKA := Lib.hid KA; have HKB := Lib.hid KB
          clear KA KB he1 hL1
          obtain ⟨x0, x1, x2, x3, x4, x5⟩ := hx
          simp only [Nat.reduceEqDiff, decide_true, decide_false] at x0 x1 x2 x3 x4 x5
          go_wp2_with fail
          go_region_held3 (fun w' => w'.cell? ⟨wr.heap.size, 3, none⟩ = some (.int .i64 z)) (first | exact Z2.out.2.2.2 | exact u1 | exact u2) (first
            | (go_at_call 17; refine (HKA.out _ (H4.out.drew HK.out)).mono ?_; rintro e w5 ⟨rfl, h5⟩; have u1 := h5.bx.at 3 (v := .int .i64 z) rfl; have H5 := Lib.hid h5; clear h5)
            | (go_at_call 18; refine (HKB.out _ H5.out).mono ?_; rintro e w6 ⟨rfl, R1, hR1, h6⟩; have u2 := h6.bx.at 3 (v := .int .i64 z) rfl; have H6 := Lib.hid h6; have HR1 := Lib.hid hR1; clear h6 hR1))
          go_wp2
          go_meet
          case rel => exact ⟨rfl, R1, L1, HR1.out, H6.out⟩
        · obtain ⟨n1, hn1⟩ : ∃ n1, getV 0 L id = n1 := ⟨_, rfl⟩
          obtain ⟨e1, he1⟩ : ∃ e1, getE L id = e1 := ⟨_, rfl⟩
          obtain ⟨L1, hL1⟩ : ∃ L1, remL L id = L1 := ⟨_, rfl⟩
          have KA : ∀ w5, BdX g Sl w0 w5 p q wr.heap.size #[.int .i64 d, .int .i64 k, .bool pl, .int .i64 z] L R → Calls Try.prog 19 #[.pointer (some ⟨p, 0, none⟩), .int .i64 id] w5 fun e w' => e = .returned (.tuple #[.int .i64 n1, .int .i64 e1]) ∧ BdX g Sl w0 w' p q wr.heap.size #[.int .i64 d, .int .i64 k, .bool pl, .int .i64 z] L1 R := fun w5 h => by have := bd_rem HK.out h id; rw [hn1, he1, hL1] at this; exact this
          have KB : ∀ w5, BdX g Sl w0 w5 p q wr.heap.size #[.int .i64 d, .int .i64 k, .bool pl, .int .i64 z] L1 R → Calls Try.prog 20 #[.pointer (some ⟨q, 0, none⟩), .int .i64 id] w5 fun e w' => e = .returned (.tuple #[.int .i64 n1, .int .i64 e1]) ∧ ∃ R1, absT R1 = L1 ∧ BdX g Sl w0 w' p q wr.heap.size #[.int .i64 d, .int .i64 k, .bool pl, .int .i64 z] L1 R1 := fun w5 h => by have := dd_rem HK.out h id; rw [HL.out, hn1, he1, hL1] at this; exact this
          have HKA := Lib.hid KA; have HKB := Lib.hid KB
          clear KA KB hn1 he1 hL1
          rcases hyy with rfl | rfl
          all_goals
            obtain ⟨x0, x1, x2, x3, x4, x5⟩ := hx
            simp only [Nat.reduceEqDiff, decide_true, decide_false] at x0 x1 x2 x3 x4 x5
            go_wp2_with (first
              | (go_at_call 19; refine (HKA.out _ H4.out).mono ?_; rintro e w5 ⟨rfl, h5⟩; have u3 := h5.bx.at 3 (v := .int .i64 z) rfl; have H5 := Lib.hid h5; clear h5)
              | (go_at_call 20; refine (HKB.out _ H5.out).mono ?_; rintro e w6 ⟨rfl, R1, hR1, h6⟩; have H6 := Lib.hid h6; have HR1 := Lib.hid hR1; clear h6 hR1))
            go_meet
            case rel => exact ⟨rfl, R1, L1, HR1.out, H6.out⟩
      case rest =>
        obtain ⟨rfl, R1, L1, hR1, h6⟩ := hcut
        have H6 := Lib.hid h6; have HR1 := Lib.hid hR1
        have hn1 := idsL_len L1
        have J1 : ∀ w5, BdX g Sl w0 w5 p q wr.heap.size #[.int .i64 d, .int .i64 k, .bool pl, .int .i64 z] L1 R1 → Calls Try.prog 22 #[.pointer (some ⟨p, 0, none⟩)] w5 fun e w' => ∃ v, e = .returned v ∧ LsI w' 0 v (idsL L1) ∧ BdX g Sl w0 w' p q wr.heap.size #[.int .i64 d, .int .i64 k, .bool pl, .int .i64 z] L1 R1 := fun w5 h => bd_ids HK.out h
        have J2 : ∀ w5, BdX g Sl w0 w5 p q wr.heap.size #[.int .i64 d, .int .i64 k, .bool pl, .int .i64 z] L1 R1 → Calls Try.prog 12 #[.pointer (some ⟨q, 0, none⟩)] w5 fun e w' => ∃ v, e = .returned v ∧ LsI w' 0 v (idsL L1) ∧ BdX g Sl w0 w' p q wr.heap.size #[.int .i64 d, .int .i64 k, .bool pl, .int .i64 z] L1 R1 ∧ Below w5.heap.size w5 w' := fun w5 h => by
          refine (dd_ids HK.out h).mono ?_
          rintro e w' ⟨v, rfl, hl, hx, hb⟩
          rw [hR1] at hl
          exact ⟨v, rfl, hl, hx, hb⟩
        have HJ1 := Lib.hid J1; have HJ2 := Lib.hid J2
        clear h6 hR1 J1 J2 HX H4 Z2 y0 y3 HPC
        go_wp2_with (first
          | (go_at_call 22; refine (HJ1.out _ H6.out).mono ?_; rintro e w7 ⟨v7, rfl, hl7, h7⟩; have HL7 := Lib.hid hl7; have H7 := Lib.hid h7; clear hl7 h7)
          | (go_at_call 12; refine (HJ2.out _ H7.out).mono ?_; rintro e w8 ⟨v8, rfl, hl8, h8, hb8⟩; have HL8 := Lib.hid hl8; have H8 := Lib.hid h8; have HL7b := Lib.hid (HL7.out.below hb8); clear hl8 h8 hb8)
          | (go_at_call 21; refine (ints7 (by omega) HL7b.out HL8.out).mono ?_; rintro e w9 ⟨rfl, h9⟩; have H9 := Lib.hid (H8.out.below HK.out h9); clear h9))
        go_roundw
        case rel => exact ⟨j + 1, by omega, by omega, by go_num, _, H9.out.un HR1.out⟩
        case measure => simp [intOf]; omega
    · have hor : ¬ ((j : Int) < (len : Int)) ∨ ((j : Int) < (len : Int) ∧ ¬ ((j : Int) < 200)) := by omega
      clear hlt
      rcases hor with e1 | ⟨e1, e2⟩
      all_goals
        go_wp2
        go_ret
        exact ⟨rfl, HR.out.bel⟩
end Go.Proofs.Yteannfenkmejjaa
