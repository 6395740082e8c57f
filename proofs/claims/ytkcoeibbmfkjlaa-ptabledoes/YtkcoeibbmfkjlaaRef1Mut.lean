/- Package taffrailref01: Share, Free, Write, walked. -/
import Derived.Test.YtkcoeibbmfkjlaaRef1Ops
import Derived.StillTailTactics
namespace Go.Proofs.Ytkcoeibbmfkjlaa
open Go.RowKit

section
variable {w : World} {q gb gr n : Nat} {R : Nat → Int} {B : Nat → List UInt8}

theorem grown_drew {w1 w2 : World} {r : Option Nat} (h : w1.drew.grownBy w2 r) : w1.grownBy w2 r := ⟨h.os, h.tape, h.output, h.size, h.block⟩


set_option maxRecDepth 100000 in
set_option maxHeartbeats 800000 in
theorem rfree (h : RefAt w q gb gr n R B) (k : Int) : Calls Try.prog 44 #[.pointer (some ⟨q, 0, none⟩), .int .i64 k] w fun e w' =>
    e = .returned (.int .i64 (freeE n R k)) ∧ RefAt w' q gb gr n (freeR n R k) B ∧ w.grownBy w' (some gr) := by
  obtain ⟨cr, hc⟩ := h.cellR
  have hn := h.hn
  cases hl : liveB n R k with
  | false =>
    have HE := Lib.hid (show freeE n R k = 10 by simp [freeE, hl])
    have HR := Lib.hid (show freeR n R k = R by simp [freeR, hl])
    have HL := Lib.hid hl; clear hl
    go_enter Try.func44, Try.ntmps44
    go_wp2_with fail
    refine (rused h _).mono ?_
    rintro e w' ⟨rfl, rfl⟩
    rw [HL.out]
    go_wp2
    go_ret
    exact ⟨by rw [HE.out]; rfl, by rw [HR.out]; exact h, grown_refl _ _⟩
  | true =>
    obtain ⟨j, rfl, hj, hr⟩ := live_nat hl
    have hb := h.hR j hj
    have hcj := h.refs hj
    have hf := h.frozenR j
    have HL := Lib.hid hl
    have HE := Lib.hid (show freeE n R j = 0 by simp [freeE, hl])
    have HR := Lib.hid (show freeR n R j = updR R j (R j - 1) by simp [freeR, hl])
    have hjn : (j : Int) < (n : Int) := by omega
    have hd : RefAt w.drew q gb gr n R B := h.keep rfl rfl rfl
    have HM := Lib.hid (hd.setR hj (r := R j - 1) (by omega) (by omega))
    clear hl hd
    go_enter Try.func44, Try.ntmps44
    go_wp2_with fail
    refine (rused h _).mono ?_
    rintro e w' ⟨rfl, rfl⟩
    rw [HL.out]
    go_wp2
    go_still_tail 14, (by kernel_rfl)
    change wpList _ _ _ _ _ w.drew
    go_wp2
    go_ret
    exact ⟨by rw [HE.out]; rfl, by rw [HR.out]; exact HM.out, grown_drew (grown_setCell _ _ _ _)⟩

set_option maxRecDepth 100000 in
set_option maxHeartbeats 800000 in
theorem rwrite (h : RefAt w q gb gr n R B) (k o : Int) (s : ByteArray) (_hsz : s.size ≤ maxLen) : Calls Try.prog 58 #[.pointer (some ⟨q, 0, none⟩), .int .i64 k, .int .i64 o, .string s] w fun e w' =>
    e = .returned (.int .i64 (readE n R k o s.size)) ∧ RefAt w' q gb gr n R (writeB n R B k o s.data.toList) ∧ w.grownBy w' (some gb) := by
  unfold maxLen at _hsz
  obtain ⟨cb, hc⟩ := h.cellB
  have hn := h.hn
  unfold writeB
  rw [toList_length]
  cases hl : liveB n R k with
  | false =>
    have hE : readE n R k o s.size = 10 := by simp [readE, hl]
    have HL := Lib.hid hl; clear hl
    rw [hE, if_neg (by omega)]
    clear hE
    go_enter Try.func58, Try.ntmps58
    go_wp2_with fail
    refine (rused h _).mono ?_
    rintro e w' ⟨rfl, rfl⟩
    rw [HL.out]
    go_wp2
    go_ret
    exact ⟨rfl, h, grown_refl _ _⟩
  | true =>
    obtain ⟨j, rfl, hj, hr⟩ := live_nat hl
    have HL := Lib.hid hl
    cases hs : spanB o s.size with
    | false =>
      have hE : readE n R j o s.size = 2 := by simp [readE, hl, hs]
      rw [hE, if_neg (by omega)]
      have hcases : o < 0 ∨ (0 ≤ o ∧ 64 < o) ∨ (0 ≤ o ∧ o ≤ 64 ∧ 64 - o < (s.size : Int)) := by
        simp only [spanB, decide_eq_false_iff_not] at hs; omega
      clear hs hl hE
      rcases hcases with c | ⟨c1, c2⟩ | ⟨c1, c2, c3⟩
      all_goals
        go_enter Try.func58, Try.ntmps58
        go_wp2_with fail
        refine (rused h _).mono ?_
        rintro e w' ⟨rfl, rfl⟩
        rw [HL.out]
        go_wp2
        go_ret
        exact ⟨rfl, h, grown_refl _ _⟩
    | true =>
      have hE : readE n R j o s.size = 0 := by simp [readE, hl, hs]
      rw [hE, if_pos rfl]
      obtain ⟨a, m, rfl, hm, hab⟩ := span_nat hs
      have hm' : s.size = m := by omega
      subst hm'
      clear hE hs hl hm
      have ht := h.text hj
      have hsz2 := readS_len h hj
      have hf := h.frozenB j
      have hjn : (j : Int) < (n : Int) := by omega
      have hd : RefAt w.drew q gb gr n R B := h.keep rfl rfl rfl
      have hlen : (putBytes (B j) a s.data.toList).length = 64 := by rw [putBytes_length _ _ _ (by rw [toList_length, h.hB j hj]; exact hab)]; exact h.hB j hj
      have HM := Lib.hid (hd.setB hj (l := putBytes (B j) a s.data.toList) hlen)
      clear hd hlen
      rw [Int.toNat_natCast, Int.toNat_natCast]
      generalize hT : tx (B j) = T at *
      have HT := Lib.hid hT; clear hT
      have a1 : a ≤ T.size := by omega
      have a2 : a + s.size ≤ T.size := by omega
      have a3 : (a : Int) ≤ (T.size : Int) := by omega
      have a4 : (a : Int) + (s.size : Int) ≤ (T.size : Int) := by omega
      have a5 : (0 : Int) ≤ (a : Int) + (s.size : Int) := by omega
      have a6 : IntKind.i64.wrap ((a : Int) + (s.size : Int)) = (a : Int) + (s.size : Int) := IntWalk.i64_in _ (by omega)
      have a7 : ((a : Int) + (s.size : Int)).toNat = a + s.size := by omega
      have z1 : (T.extract 0 a).size = a := by rw [ByteArray.size_extract]; omega
      have z2 : (T.extract (a + s.size) T.size).size = T.size - (a + s.size) := by rw [ByteArray.size_extract]; omega
      have hs1 : ∀ W, (Op.stringOp .add (T.extract 0 a) s).run Try.prog W = .ok (.string (T.extract 0 a ++ s)) W := fun W => run_string_add_sum W _ _ (by rw [z1]; omega)
      have hs2 : ∀ W, (Op.stringOp .add (T.extract 0 a ++ s) (T.extract (a + s.size) T.size)).run Try.prog W = .ok (.string ((T.extract 0 a ++ s) ++ T.extract (a + s.size) T.size)) W := fun W => run_string_add_sum W _ _ (by rw [ByteArray.size_append, z1, z2]; omega)
      have HV : Hid ((T.extract 0 a ++ s) ++ T.extract (a + s.size) T.size = tx (putBytes (B j) a s.data.toList)) := by
        have hBl := h.hB j hj
        unfold Hid
        rw [← HT.out]
        apply ByteArray.ext
        simp only [tx, ByteArray.data_append, ByteArray.data_extract, putBytes]
        apply Array.ext'
        have hts : (ByteArray.mk (B j).toArray).size = 64 := by show (B j).toArray.size = 64; simpa using hBl
        rw [hts, toList_length]
        simp [List.take_of_length_le, hBl]
      have A2 := Lib.hid hsz2; clear hsz2 z1 z2
      generalize (T.extract 0 a ++ s) ++ T.extract (a + s.size) T.size = V at *
      go_enter Try.func58, Try.ntmps58
      go_wp2_with fail
      refine (rused h _).mono ?_
      rintro e w' ⟨rfl, rfl⟩
      rw [HL.out]
      go_wp2
      go_still_tail 30, (by kernel_rfl)
      change wpList _ _ _ _ _ w.drew
      go_wp2
      go_ret
      exact ⟨rfl, by rw [HV.out]; exact HM.out, grown_drew (grown_setCell _ _ _ _)⟩

end
end Go.Proofs.Ytkcoeibbmfkjlaa
