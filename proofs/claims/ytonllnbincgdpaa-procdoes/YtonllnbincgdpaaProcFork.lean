/- Package proc: Fork, walked. -/
import Derived.Test.YtonllnbincgdpaaProcGet
namespace Go.Proofs.Ytonllnbincgdpaa
open Go.RowKit Go.MapKept

set_option maxRecDepth 100000 in
set_option maxHeartbeats 1000000 in
theorem fork_nil (k : Int) (w : World) : Calls Try.prog 16 #[.pointer none, .int .i64 k] w fun e w' => e = .returned (.tuple #[.int .i64 0, .int .i64 1]) ∧ Below w.heap.size w w' := by
  go_enter Try.func16, Try.ntmps16
  go_wp2_with (go_at_call 35; refine (run_nil _ _).mono ?_; rintro e w1 ⟨rfl, hB⟩; have HB := Lib.hid hB; clear hB; unfold PV.val PV.cells PV.zero; dsimp only)
  go_ret2
  exact ⟨rfl, HB.out.alloc HB.out.size _⟩

section
variable {w : World} {p m : Nat} {L : List PV} {g : Int}

set_option maxRecDepth 100000 in
set_option maxHeartbeats 2000000 in
theorem fork_any (hW : TabAt w p m L g) (k : Int) : Calls Try.prog 16 #[.pointer (some ⟨p, 0, none⟩), .int .i64 k] w fun e w' => e = .returned (.tuple #[.int .i64 (forkN L g k), .int .i64 (forkE L g k)]) ∧ TabAt w' p m (forkL L g k) (forkG L g k) ∧ Turn p m w w' := by
  have HW := Lib.hid hW
  have hg1 := hW.ok.g1; have hgm := hW.ok.gmax; have hlm := hW.ok.len
  clear hW
  have hR := run_any HW.out k
  obtain ⟨q, hq⟩ : ∃ q, q = runQ L k := ⟨_, rfl⟩
  rw [← hq] at hR
  obtain ⟨a0, a1, a2, a3, a4, a5, a6, a7⟩ := q
  have HR := Lib.hid hR; have HQ := Lib.hid hq
  clear hR hq
  by_cases h0 : runE L k = 0
  · rw [h0] at HR
    by_cases h1 : 16 ≤ L.length
    · have hE : forkE L g k = 61 := by unfold forkE; rw [h0]; simp; omega
      have hN : forkN L g k = 0 := by unfold forkN; rw [hE]; rfl
      have hL : forkL L g k = L := by unfold forkL; rw [hE]; rfl
      have hG : forkG L g k = g := by unfold forkG; rw [hE]; rfl
      rw [hE, hN, hL, hG]
      go_enter Try.func16, Try.ntmps16
      go_wp2_with (go_at_call 35; refine HR.out.mono ?_; rintro e w1 ⟨rfl, hB⟩; unfold PV.val PV.cells; dsimp only; have hT := (HW.out.below' hB).alloc (.cells #[.int .i64 a0, .int .i64 a1, .int .i64 a2, .int .i64 a3, .int .i64 a4, .string a5, .int .i64 a6, .bool a7] 39); have c0 := hT.c0; have c1 := hT.c1; have cl := hT.mp.len 3; have HT := Lib.hid hT; have HB := Lib.hid (hB.alloc hB.size (.cells #[.int .i64 a0, .int .i64 a1, .int .i64 a2, .int .i64 a3, .int .i64 a4, .string a5, .int .i64 a6, .bool a7] 39)); clear hT hB)
      go_ret2
      exact ⟨rfl, HT.out, Turn.of_below HB.out⟩
    · by_cases h2 : 30000 ≤ g
      · have hE : forkE L g k = 61 := by unfold forkE; rw [h0]; simp; omega
        have hN : forkN L g k = 0 := by unfold forkN; rw [hE]; rfl
        have hL : forkL L g k = L := by unfold forkL; rw [hE]; rfl
        have hG : forkG L g k = g := by unfold forkG; rw [hE]; rfl
        rw [hE, hN, hL, hG]
        go_enter Try.func16, Try.ntmps16
        go_wp2_with (go_at_call 35; refine HR.out.mono ?_; rintro e w1 ⟨rfl, hB⟩; unfold PV.val PV.cells; dsimp only; have hT := (HW.out.below' hB).alloc (.cells #[.int .i64 a0, .int .i64 a1, .int .i64 a2, .int .i64 a3, .int .i64 a4, .string a5, .int .i64 a6, .bool a7] 39); have c0 := hT.c0; have c1 := hT.c1; have cl := hT.mp.len 3; have HT := Lib.hid hT; have HB := Lib.hid (hB.alloc hB.size (.cells #[.int .i64 a0, .int .i64 a1, .int .i64 a2, .int .i64 a3, .int .i64 a4, .string a5, .int .i64 a6, .bool a7] 39)); clear hT hB)
        go_ret2
        exact ⟨rfl, HT.out, Turn.of_below HB.out⟩
      · have hE : forkE L g k = 0 := by unfold forkE; rw [h0]; simp; omega
        have hN : forkN L g k = g + 1 := by unfold forkN; rw [hE]; rfl
        have hL : forkL L g k = L ++ [childV (g + 1) k (atL L k)] := by unfold forkL; rw [hE]; rfl
        have hG : forkG L g k = g + 1 := by unfold forkG; rw [hE]; rfl
        have hQ : runQ L k = atL L k := by unfold runQ; rw [h0]; rfl
        rw [hE, hN, hL, hG, ← hQ, ← HQ.out]
        go_enter Try.func16, Try.ntmps16
        go_wp2_with (go_at_call 35; refine HR.out.mono ?_; rintro e w1 ⟨rfl, hB⟩; unfold PV.val PV.cells; dsimp only; have bX := BoxA.new w1 39 #[.int .i64 a0, .int .i64 a1, .int .i64 a2, .int .i64 a3, .int .i64 a4, .string a5, .int .i64 a6, .bool a7]; have hT := (HW.out.below' hB).alloc (.cells #[.int .i64 a0, .int .i64 a1, .int .i64 a2, .int .i64 a3, .int .i64 a4, .string a5, .int .i64 a6, .bool a7] 39); have c0 := hT.c0; have c1 := hT.c1; have f1 := hT.f1; have cl := hT.mp.len 3; have HT := Lib.hid hT; have HBX := Lib.hid bX; have HWS : Hid (w.heap.size ≤ w1.heap.size) := hB.size; have HB := Lib.hid (hB.alloc hB.size (.cells #[.int .i64 a0, .int .i64 a1, .int .i64 a2, .int .i64 a3, .int .i64 a4, .string a5, .int .i64 a6, .bool a7] 39)); clear hT hB bX)
        have hpw : p < w1.heap.size := by have h1 := HB.out.size; have h2 := HW.out.p_lt; have h3 := HWS.out; omega
        have bP : BoxA ((w1.alloc (.cells #[.int .i64 a0, .int .i64 a1, .int .i64 a2, .int .i64 a3, .int .i64 a4, .string a5, .int .i64 a6, .bool a7] 39)).setCell ⟨p, 1, none⟩ (.int .i64 (g + 1))) p 62 #[.map (some m), .int .i64 (g + 1)] := HT.out.box.set 1 _
        have bX : BoxA ((w1.alloc (.cells #[.int .i64 a0, .int .i64 a1, .int .i64 a2, .int .i64 a3, .int .i64 a4, .string a5, .int .i64 a6, .bool a7] 39)).setCell ⟨p, 1, none⟩ (.int .i64 (g + 1))) w1.heap.size 39 #[.int .i64 a0, .int .i64 a1, .int .i64 a2, .int .i64 a3, .int .i64 a4, .string a5, .int .i64 a6, .bool a7] := HBX.out.setOther _ _ (by omega)
        have hM : MapAt ((w1.alloc (.cells #[.int .i64 a0, .int .i64 a1, .int .i64 a2, .int .i64 a3, .int .i64 a4, .string a5, .int .i64 a6, .bool a7] 39)).setCell ⟨p, 1, none⟩ (.int .i64 (g + 1))) m L := HT.out.mp.keep (heap_setCell_other _ _ _ _ (Ne.symm HT.out.ne))
        have hU : Turn p m w ((w1.alloc (.cells #[.int .i64 a0, .int .i64 a1, .int .i64 a2, .int .i64 a3, .int .i64 a4, .string a5, .int .i64 a6, .bool a7] 39)).setCell ⟨p, 1, none⟩ (.int .i64 (g + 1))) := (Turn.of_below HB.out).setP 1 _
        have hne := HT.out.ne
        clear c0 c1 f1 cl HB HBX HT
        generalize (w1.alloc (.cells #[.int .i64 a0, .int .i64 a1, .int .i64 a2, .int .i64 a3, .int .i64 a4, .string a5, .int .i64 a6, .bool a7] 39)).setCell ⟨p, 1, none⟩ (.int .i64 (g + 1)) = W2 at *
        obtain ⟨o, hup, hM3⟩ := MapAt.push (w := W2.drew) (hM.keep rfl) (k := g + 1) (q' := childV (g + 1) k ⟨a0, a1, a2, a3, a4, a5, a6, a7⟩) (getL_none_of (fun q hq => by have := HW.out.ok.top q hq; omega)) rfl
        have c0 := bP.at 0 (v := .map (some m)) rfl; have c1 := bP.at 1 (v := .int .i64 (g + 1)) rfl; have x3 := bX.at 3 (v := .int .i64 a3) rfl; have x4 := bX.at 4 (v := .int .i64 a4) rfl
        have d1 : (putM W2.drew m o).cell? ⟨p, 1, none⟩ = some (.int .i64 (g + 1)) := (World.cell?_of_block (a := ⟨p, 1, none⟩) (putM_other o hne)).trans c1
        have HP := Lib.hid bP; have HM3 := Lib.hid hM3; have HU := Lib.hid hU
        clear bP bX hM hM3 hU
        unfold childV PV.val PV.cells at *
        dsimp only at *
        go_still_tail 16, (by kernel_rfl)
        change wpList _ _ _ _ _ W2.drew
        go_wp2
        go_ret2
        refine ⟨rfl, ⟨HP.out.keep (putM_other (w := W2.drew) o hne), HM3.out, ?_⟩, HU.out.trans (Turn.drew (putM_turn o))⟩
        exact HW.out.ok.pushP (by omega) (by omega) rfl
  · have hE : forkE L g k = runE L k := by unfold forkE; rw [if_pos h0]
    have hN : forkN L g k = 0 := by unfold forkN; rw [hE, if_neg h0]
    have hL : forkL L g k = L := by unfold forkL; rw [hE, if_neg h0]
    have hG : forkG L g k = g := by unfold forkG; rw [hE, if_neg h0]
    have hb : (runE L k == 0) = false := by simpa using h0
    rw [hE, hN, hL, hG]
    go_enter Try.func16, Try.ntmps16
    go_wp2_with (go_at_call 35; refine HR.out.mono ?_; rintro e w1 ⟨rfl, hB⟩; unfold PV.val PV.cells; dsimp only; have HB := Lib.hid hB; clear hB)
    go_ret2
    exact ⟨rfl, (HW.out.below' HB.out).alloc _, Turn.of_below (HB.out.alloc HB.out.size _)⟩
end
end Go.Proofs.Ytonllnbincgdpaa
