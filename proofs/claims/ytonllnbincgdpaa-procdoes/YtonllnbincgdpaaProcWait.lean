/- Package proc: Wait, walked. -/
import Derived.Test.YtonllnbincgdpaaProcOps
namespace Go.Proofs.Ytonllnbincgdpaa
open Go.RowKit Go.MapKept

theorem TabAt.drewN {w : World} {p m k : Nat} {L : List PV} {g : Int} (h : TabAt w p m L g) : TabAt (w.drewN k) p m L g := h.keep rfl rfl
theorem Turn.drewN {w w1 : World} {p m k : Nat} (h : Turn p m w w1) : Turn p m w (w1.drewN k) := ⟨h.os, h.tape, h.output, h.size, h.block⟩

section
variable {w : World} {p m : Nat} {L : List PV} {g : Int}
theorem waL_no {k : Int} (h : waE L k ≠ 0) : waL L k = L := by unfold waL; rw [if_neg h]
theorem waQ_no {k : Int} (h : waE L k ≠ 0) : waQ L k = PV.zero := by unfold waQ; rw [if_neg h]
theorem zomE_cases (k : Int) : (∃ q, zomO L k = some q ∧ zomE L k = 0) ∨ (zomO L k = none ∧ zomE L k ≠ 0) := by
  unfold zomE
  cases e : zomO L k with
  | some q => exact .inl ⟨q, rfl, rfl⟩
  | none => refine .inr ⟨rfl, ?_⟩; dsimp only; split <;> decide
theorem zom_mem {k : Int} {q : PV} (h : zomO L k = some q) : q ∈ L ∧ q.par = k ∧ q.st = 3 := by
  refine ⟨List.mem_of_find?_eq_some h, ?_⟩
  have := List.find?_some h
  simpa using this

set_option maxRecDepth 100000 in
set_option maxHeartbeats 2000000 in
theorem wait_any (hW : TabAt w p m L g) (k : Int) : Calls Try.prog 17 #[.pointer (some ⟨p, 0, none⟩), .int .i64 k] w fun e w' => e = .returned (.tuple #[.int .i64 (waQ L k).pid, .int .i64 (waQ L k).stat, .int .i64 (waE L k)]) ∧ TabAt w' p m (waL L k) g ∧ Turn p m w w' := by
  have hpl := hW.p_lt; have hml := hW.m_lt
  have hR := run_any hW k
  have HW := Lib.hid hW
  clear hW
  obtain ⟨q, hq⟩ : ∃ q, q = runQ L k := ⟨_, rfl⟩
  rw [← hq] at hR
  obtain ⟨a0, a1, a2, a3, a4, a5, a6, a7⟩ := q
  clear hq
  by_cases h0 : runE L k = 0
  · have hE : waE L k = zomE L k := by unfold waE; rw [h0]; rfl
    rw [h0] at hR
    have HR := Lib.hid hR
    clear hR
    rcases zomE_cases (L := L) k with ⟨q, hz, hz0⟩ | ⟨hz, hz0⟩
    · have hQ : waQ L k = q := by unfold waQ; rw [hE, hz0, hz]; rfl
      have hLL : waL L k = delL L q.pid := by unfold waL; rw [hE, hz0, hQ]; rfl
      rw [hQ, hLL, hE, hz0]
      have HZ := Lib.hid hz; have HZ0 := Lib.hid hz0
      clear hz hz0 hQ hLL hE h0
      obtain ⟨b0, b1, b2, b3, b4, b5, b6, b7⟩ := q
      dsimp only
      go_enter Try.func17, Try.ntmps17
      go_wp2_with (first
        | (go_at_call 35; refine HR.out.mono ?_; rintro e w1 ⟨rfl, hB⟩; unfold PV.val PV.cells; dsimp only; have HT := Lib.hid ((HW.out.below' hB).alloc (.cells #[.int .i64 a0, .int .i64 a1, .int .i64 a2, .int .i64 a3, .int .i64 a4, .string a5, .int .i64 a6, .bool a7] 39)); have HB := Lib.hid (hB.alloc hB.size (.cells #[.int .i64 a0, .int .i64 a1, .int .i64 a2, .int .i64 a3, .int .i64 a4, .string a5, .int .i64 a6, .bool a7] 39)); clear hB)
        | (go_at_call 36; refine (zombie_any HT.out k).mono ?_; rintro e w2 ⟨rfl, hB2⟩; rw [HZ.out, HZ0.out]; simp only [Option.getD_some]; unfold PV.val PV.cells; dsimp only; have bX := BoxA.new w2 39 #[.int .i64 b0, .int .i64 b1, .int .i64 b2, .int .i64 b3, .int .i64 b4, .string b5, .int .i64 b6, .bool b7]; have hT2 := (HT.out.below' hB2).alloc (.cells #[.int .i64 b0, .int .i64 b1, .int .i64 b2, .int .i64 b3, .int .i64 b4, .string b5, .int .i64 b6, .bool b7] 39); have HB2 := Lib.hid ((HB.out.trans (hB2.mono HB.out.size)).alloc (Nat.le_trans HB.out.size hB2.size) (.cells #[.int .i64 b0, .int .i64 b1, .int .i64 b2, .int .i64 b3, .int .i64 b4, .string b5, .int .i64 b6, .bool b7] 39)); have hz2 : w.heap.size ≤ w2.heap.size := (Nat.le_trans (by have := HB.out.size; simp at this ⊢; omega) hB2.size); have c0 := hT2.c0; have x0 := bX.at 0 (v := .int .i64 b0) rfl; have HX := Lib.hid bX; have HT2 := Lib.hid hT2; clear bX hT2 hB2))
      have hne := HT2.out.ne
      generalize w2.alloc (.cells #[.int .i64 b0, .int .i64 b1, .int .i64 b2, .int .i64 b3, .int .i64 b4, .string b5, .int .i64 b6, .bool b7] 39) = W2 at *
      obtain ⟨o, hdel, hM3⟩ := MapAt.del (w := W2.drew) (HT2.out.mp.keep rfl) HT2.out.ok (getL_of_mem HT2.out.ok (zom_mem HZ.out).1) 0
      dsimp only at hdel hM3
      have hmx : w2.heap.size ≠ m := by omega
      have bX3 : BoxA (putM W2.drew m o) w2.heap.size 39 #[.int .i64 b0, .int .i64 b1, .int .i64 b2, .int .i64 b3, .int .i64 b4, .string b5, .int .i64 b6, .bool b7] := HX.out.keep (putM_other (w := W2.drew) o hmx)
      have y0 := bX3.at 0 (v := .int .i64 b0) rfl
      have y6 := bX3.at 6 (v := .int .i64 b6) rfl
      have HM3 := Lib.hid hM3
      clear hM3 bX3
      go_still_tail 6, (by kernel_rfl)
      change wpList _ _ _ _ _ W2.drew
      go_wp2
      go_quiet (fail)
      go_wp2
      go_ret3
      exact ⟨rfl, TabAt.drewN ⟨HT2.out.box.keep (putM_other (w := W2.drew) o hne), HM3.out, HT2.out.ok.delP⟩, Turn.drewN ((Turn.of_below HB2.out).trans (Turn.drew (putM_turn o)))⟩
    · have hb : (zomE L k == 0) = false := by simpa using hz0
      have hn : waE L k ≠ 0 := by rw [hE]; exact hz0
      rw [waQ_no hn, waL_no hn, hE]
      have HZ := Lib.hid hz
      clear hz hz0 hn hE
      go_enter Try.func17, Try.ntmps17
      go_wp2_with (first
        | (go_at_call 35; refine HR.out.mono ?_; rintro e w1 ⟨rfl, hB⟩; unfold PV.val PV.cells; dsimp only; have HT := Lib.hid ((HW.out.below' hB).alloc (.cells #[.int .i64 a0, .int .i64 a1, .int .i64 a2, .int .i64 a3, .int .i64 a4, .string a5, .int .i64 a6, .bool a7] 39)); have HB := Lib.hid (hB.alloc hB.size (.cells #[.int .i64 a0, .int .i64 a1, .int .i64 a2, .int .i64 a3, .int .i64 a4, .string a5, .int .i64 a6, .bool a7] 39)); clear hB)
        | (go_at_call 36; refine (zombie_any HT.out k).mono ?_; rintro e w2 ⟨rfl, hB2⟩; rw [HZ.out]; simp only [Option.getD_none]; unfold PV.val PV.cells PV.zero; dsimp only; have HT2 := Lib.hid (HT.out.below' hB2); have HB2 := Lib.hid (HB.out.trans (hB2.mono HB.out.size)); clear hB2))
      go_ret3
      exact ⟨rfl, HT2.out.alloc _, Turn.of_below (HB2.out.alloc HB2.out.size _)⟩
  · have hE : waE L k = runE L k := by unfold waE; rw [if_pos h0]
    have hb : (runE L k == 0) = false := by simpa using h0
    have hn : waE L k ≠ 0 := by rw [hE]; exact h0
    rw [waQ_no hn, waL_no hn, hE]
    have HR := Lib.hid hR
    clear hR hn
    go_enter Try.func17, Try.ntmps17
    go_wp2_with (go_at_call 35; refine HR.out.mono ?_; rintro e w1 ⟨rfl, hB⟩; unfold PV.val PV.cells; dsimp only; have HT := Lib.hid (HW.out.below' hB); have HB := Lib.hid hB; clear hB)
    go_ret3
    exact ⟨rfl, HT.out.alloc _, Turn.of_below (HB.out.alloc HB.out.size _)⟩
end
end Go.Proofs.Ytonllnbincgdpaa
