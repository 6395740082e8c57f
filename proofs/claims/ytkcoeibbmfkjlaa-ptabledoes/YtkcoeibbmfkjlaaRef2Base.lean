/- The document's own page tables (package taffrailref02): right, entry, set, walked. -/
import Derived.Test.YtkcoeibbmfkjlaaRef1Both
import Derived.Test.YtkcoeibbmfkjlaaPtRow
namespace Go.Proofs.Ytkcoeibbmfkjlaa
open Go.RowKit

section
variable {w : World} {q gb gr n : Nat} {R : Nat → Int} {B : Nat → List UInt8}

set_option maxHeartbeats 400000 in
theorem rright_no (h : RefAt w q gb gr n R B) (k page : Int) (hl : liveB n R k = false) : Calls Try.prog 38 #[.pointer (some ⟨q, 0, none⟩), .int .i64 k, .int .i64 page] w fun e w' => e = .returned (.int .i64 10) ∧ w = w' := by
  have HE := Lib.hid (show refsN n R k = 0 by simp [refsN, hl])
  clear hl
  go_enter Try.func38, Try.ntmps38
  go_wp2_with fail
  refine (rrefs h k).mono ?_
  rintro e w' ⟨rfl, rfl⟩
  rw [HE.out]
  go_wp2
  go_ret
  exact ⟨rfl, rfl⟩

set_option maxHeartbeats 400000 in
theorem rright_arg (h : RefAt w q gb gr n R B) (k page : Int) (hl : liveB n R k = true) (hp : belowB 256 page = false) : Calls Try.prog 38 #[.pointer (some ⟨q, 0, none⟩), .int .i64 k, .int .i64 page] w fun e w' => e = .returned (.int .i64 2) ∧ w = w' := by
  obtain ⟨j, rfl, hj, hr⟩ := live_nat hl
  have HE := Lib.hid (show refsN n R j = R j by simp [refsN, hl])
  have hne : (R j == 0) = false := by rw [beq_eq_false_iff_ne]; omega
  have hp' : page < 0 ∨ (¬ page < 0 ∧ 256 ≤ page) := by simp only [belowB, decide_eq_false_iff_not] at hp; omega
  clear hl hp
  generalize R j = r at *
  rcases hp' with h1 | ⟨h1, h2⟩
  all_goals
    go_enter Try.func38, Try.ntmps38
    go_wp2_with fail
    refine (rrefs h j).mono ?_
    rintro e w' ⟨rfl, rfl⟩
    rw [HE.out]
    go_wp2
    go_ret
    exact ⟨rfl, rfl⟩

set_option maxHeartbeats 400000 in
theorem rright_ok (h : RefAt w q gb gr n R B) (k page : Int) (hl : liveB n R k = true) (hp : belowB 256 page = true) : Calls Try.prog 38 #[.pointer (some ⟨q, 0, none⟩), .int .i64 k, .int .i64 page] w fun e w' => e = .returned (.int .i64 0) ∧ w = w' := by
  obtain ⟨j, rfl, hj, hr⟩ := live_nat hl
  have HE := Lib.hid (show refsN n R j = R j by simp [refsN, hl])
  have hne : (R j == 0) = false := by rw [beq_eq_false_iff_ne]; omega
  have h0 : 0 ≤ page := by simp only [belowB, decide_eq_true_eq] at hp; omega
  have h1 : page < 256 := by simp only [belowB, decide_eq_true_eq] at hp; omega
  clear hl hp
  generalize R j = r at *
  go_enter Try.func38, Try.ntmps38
  go_wp2_with fail
  refine (rrefs h j).mono ?_
  rintro e w' ⟨rfl, rfl⟩
  rw [HE.out]
  go_wp2
  go_ret
  exact ⟨rfl, rfl⟩

theorem bytes_get (s : ByteArray) (c : Nat) (hc : c < s.size) : s.data.toList[c]?.getD 0 = s[c] := by
  have : c < s.data.toList.length := by rw [Array.length_toList]; exact hc
  rw [List.getElem?_eq_getElem this]
  rfl
theorem live_of {k : Nat} (hk : k < n) (hr : 0 < R k) : liveB n R k = true := by simp [liveB, hk, hr]

theorem read_ent {k i : Nat} (hk : k < n) (hr : 0 < R k) (hi : i < 16) : readE n R k (4 * (i : Int)) 4 = 0 ∧ readS n R B k (4 * (i : Int)) 4 = ((B k).drop (4 * i)).take 4 := by
  have hs : spanB (4 * (i : Int)) 4 = true := by simp [spanB]; omega
  have hE : readE n R k (4 * (i : Int)) 4 = 0 := by simp [readE, live_of hk hr, hs]
  refine ⟨hE, ?_⟩
  unfold readS
  rw [hE, if_pos rfl, Int.toNat_natCast, show (4 * (i : Int)).toNat = 4 * i from by omega]
  rfl

set_option maxRecDepth 100000 in
set_option maxHeartbeats 800000 in
theorem rentry (h : RefAt w q gb gr n R B) (k i : Nat) (hk : k < n) (hr : 0 < R k) (hi : i < 16) : Calls Try.prog 39 #[.pointer (some ⟨q, 0, none⟩), .int .i64 k, .int .i64 i] w fun e w' =>
    e = .returned (.tuple #[.int .i64 (ent (B k) i).1, .int .i64 (ent (B k) i).2]) ∧ Below w.heap.size w w' := by
  obtain ⟨e1, e2⟩ := read_ent (B := B) hk hr hi
  have hl := h.hB k hk
  have hX : (tx (readS n R B k (4 * (i : Int)) 4)).size = 4 := by rw [tx_size, e2]; simp; omega
  have hXg : ∀ c (hc : c < (tx (readS n R B k (4 * (i : Int)) 4)).size), (tx (readS n R B k (4 * (i : Int)) 4))[c] = (B k)[4 * i + c]?.getD 0 := by
    intro c hc
    have hc4 : c < 4 := by omega
    rw [← bytes_get _ c hc, tx_toList, e2, List.getElem?_take, if_pos hc4, List.getElem?_drop]
  have HE := Lib.hid e1
  clear e1 e2 hl
  generalize hXX : tx (readS n R B k (4 * (i : Int)) 4) = X at *
  have HXX := Lib.hid hXX; clear hXX
  have x0 : 0 < X.size := by omega
  have x2 : 2 < X.size := by omega
  have x3 : 3 < X.size := by omega
  have x0' : (0 : Int) < (X.size : Int) := by omega
  have x2' : (2 : Int) < (X.size : Int) := by omega
  have x3' : (3 : Int) < (X.size : Int) := by omega
  have HV : Hid (ent (B k) i = (X[0].toNat, X[2].toNat * 256 + X[3].toNat)) := by
    unfold Hid ent entF entT
    rw [hXg 0 x0, hXg 2 x2, hXg 3 x3]
    rfl
  have HX := Lib.hid hX
  have hnl : decide ((X.size : Int) < 4) = false := by simp; omega
  have w0 := UInt8.toNat_lt X[0]; have w2 := UInt8.toNat_lt X[2]; have w3 := UInt8.toNat_lt X[3]
  clear hXg
  go_enter Try.func39, Try.ntmps39
  go_wp2_with fail
  refine (rread h k _ _).mono ?_
  rintro e w' ⟨rfl, rfl⟩
  rw [HXX.out, HE.out]
  go_wp2
  go_quiet (fail)
  go_wp2
  go_ret2
  rw [HV.out]
  refine ⟨?_, below_drewN (Below.refl _ _)⟩
  have e : ((X[2].toNat * 256 + X[3].toNat : Nat) : Int) = 256 * (X[2].toNat : Int) + (X[3].toNat : Int) := by omega
  show _ = Ending.returned (.tuple #[.int .i64 (X[0].toNat : Int), .int .i64 ((X[2].toNat * 256 + X[3].toNat : Nat) : Int)])
  rw [e]
  rfl

theorem bv_nat (x : Nat) : bv (UInt8.ofNat x) = .int .u8 ((x % 256 : Nat) : Int) := by
  unfold bv
  rw [UInt8.toNat_ofNat']

theorem conv_ent (w : World) (fl fr : Nat) (hfl : fl < 256) (hfr : fr < 65536) : (convert 65 9 (.slice (some ⟨w.heap.size, 0, none⟩) 4 4)).run Try.prog (w.alloc (.cells #[.int .u8 fl, .int .u8 0, .int .u8 ((fr : Int) / 256), .int .u8 ((fr : Int) % 256)] 5)) =
    .ok (.string (tx (entBytes (fl, fr)))) (w.alloc (.cells #[.int .u8 fl, .int .u8 0, .int .u8 ((fr : Int) / 256), .int .u8 ((fr : Int) % 256)] 5)) := by
  refine conv_range _ _ _ _ _ (entBytes (fl, fr)) rfl ?_
  intro j v hv
  rw [cell_of_row _ _ _ _ 5 (0, 0) (heap_alloc_new _ _)]
  rw [← hv, Nat.zero_add]
  unfold entBytes
  simp only [List.map_cons, List.map_nil, bv_nat]
  have e1 : ((fl % 256 : Nat) : Int) = fl := by omega
  have e2 : ((fr / 256 % 256 : Nat) : Int) = (fr : Int) / 256 := by omega
  have e3 : ((fr % 256 : Nat) : Int) = (fr : Int) % 256 := by omega
  rw [e1, e2, e3]
  match j with
  | 0 => rfl
  | 1 => rfl
  | 2 => rfl
  | 3 => rfl
  | j + 4 => simp

set_option maxRecDepth 100000 in
set_option maxHeartbeats 800000 in
theorem rset (h : RefAt w q gb gr n R B) (k i fl fr : Nat) (hk : k < n) (hr : 0 < R k) (hi : i < 16) (hfl : fl < 256) (hfr : fr < 65536) : Calls Try.prog 40 #[.pointer (some ⟨q, 0, none⟩), .int .i64 k, .int .i64 i, .int .i64 fl, .int .i64 fr] w fun e w' =>
    e = .returned (.tuple #[]) ∧ RefAt w' q gb gr n R (updB B k (putBytes (B k) (4 * i) (entBytes (fl, fr)))) ∧ w.grownBy w' (some gb) := by
  have hcv := conv_ent w fl fr hfl hfr
  have HG := Lib.hid (World.grownBy_alloc w (.cells #[.int .u8 fl, .int .u8 0, .int .u8 ((fr : Int) / 256), .int .u8 ((fr : Int) % 256)] 5) (some gb))
  have HR := Lib.hid (h.alloc (.cells #[.int .u8 fl, .int .u8 0, .int .u8 ((fr : Int) / 256), .int .u8 ((fr : Int) % 256)] 5))
  have HS : Hid ((tx (entBytes (fl, fr))).size ≤ maxLen) := by unfold Hid maxLen; rw [tx_size, entBytes_length]; omega
  have HW : Hid (writeB n R B k (4 * (i : Int)) (tx (entBytes (fl, fr))).data.toList = updB B k (putBytes (B k) (4 * i) (entBytes (fl, fr)))) := by
    have := (write_ent (B := B) hk hr hi (fl, fr)).2
    unfold Hid
    rw [tx_toList, Int.mul_comm]
    exact this
  generalize tx (entBytes (fl, fr)) = X at *
  go_enter Try.func40, Try.ntmps40
  go_wp2_with fail
  refine (rwrite HR.out k _ X HS.out).mono ?_
  rintro e w2 ⟨rfl, hR2, hG2⟩
  rw [HW.out] at hR2
  have HR2 := Lib.hid hR2; have HG2 := Lib.hid (grown_trans HG.out hG2)
  clear hR2 hG2
  go_wp2
  go_end0
  exact ⟨rfl, HR2.out, HG2.out⟩

end
end Go.Proofs.Ytkcoeibbmfkjlaa
