/- Package space: sharePage, where it can be done, walked. -/
import Derived.Test.YtdkaaoboipphcaaSpWork
namespace Go.Proofs.Ytdkaaoboipphcaa
open Go.RowKit

section
variable {w : World} {pw p g n root : Nat} {S : PtS} {t d h : Int} {vA vU : Value} {k : Nat} {us : List Value}

set_option maxRecDepth 100000 in
set_option maxHeartbeats 4000000 in
theorem sharePage_ok (hm : S.at w p g n) (hw : WorkAt w pw p root t d h vA vU k us) (hgp : g < pw) (hpp : p < pw) (hk : k ≤ 10000) (page frame flags : Nat) (hfl : flags < 8) (hf : ShareF n root S page frame flags) :
    Calls Try.prog 38 #[.pointer (some ⟨pw, 0, none⟩), .int .i64 page, .int .i64 frame, .int .i64 flags] w fun e w' => e = .returned (.int .i64 0) ∧
      (shpgS n root S page frame flags).at w' p g n ∧ (∃ vU' us', WorkAt w' pw p root t d h vA vU' (k + 2) us') ∧ Wk g pw w w' := by
  obtain ⟨i0, hi, hz0, hz1, hz2⟩ := info_parts Try.infoFunc
  have HI := Lib.hid hi; have HZ0 := Lib.hid hz0; have HZ1 := Lib.hid hz1; have HZ2 := Lib.hid hz2
  clear hi hz0 hz1 hz2
  have HF := Lib.hid hf; have HFL := Lib.hid hfl; have HK : Hid (k ≤ 100000) := Nat.le_trans hk (by omega); have HPW := Lib.hid (show g < pw ∧ p < pw ∧ pw < w.heap.size from ⟨hgp, hpp, hw.lt⟩)
  have HK2 := Lib.hid hk
  have NA : Hid (vU.ownBlock ≠ some w.heap.size) := fun e => by have := (hw.own.lt _ e).2; omega
  have NB : Hid (vU.ownBlock ≠ some pw) := fun e => by have := hw.row_ge _ e; omega
  clear hf hfl hk
  have w1 := (hw.alloc (.cells #[.pointer (some ⟨pw, 0, none⟩)] 57)).alloc (.cells #[.int .i64 frame] 3)
  have HM1 : Hid (S.at ((w.alloc (.cells #[.pointer (some ⟨pw, 0, none⟩)] 57)).alloc (.cells #[.int .i64 frame] 3)) p g n) := (MemAt.alloc hm _).alloc _
  have HG1 : Hid (Wk g pw w ((w.alloc (.cells #[.pointer (some ⟨pw, 0, none⟩)] 57)).alloc (.cells #[.int .i64 frame] 3))) := ((Wk.refl g pw w).alloc (Nat.le_of_lt hw.lt) _).alloc (Nat.le_of_lt hw.lt) _
  have bW := (Boxed.new w 57 (.pointer (some ⟨pw, 0, none⟩))).alloc (.cells #[.int .i64 frame] 3)
  have bP := Boxed.new (w.alloc (.cells #[.pointer (some ⟨pw, 0, none⟩)] 57)) 3 (.int .i64 frame)
  rw [World.size_alloc] at bP
  clear hm hw
  go_enter Try.func38, Try.ntmps38
  go_wp2_with fail
  generalize (w.alloc (.cells #[.pointer (some ⟨pw, 0, none⟩)] 57)).alloc (.cells #[.int .i64 frame] 3) = W1 at *
  have c0 := bW.cell; have c1 := bP.cell; have c2 := w1.cMem
  have HW1 := Lib.hid w1; have HBW := Lib.hid bW; have HBP := Lib.hid bP
  have hng : Hid (w.heap.size ≠ g ∧ w.heap.size + 1 ≠ g ∧ pw ≠ g) := by have := HPW.out; exact ⟨by omega, by omega, by omega⟩
  have HSE := Lib.hid HF.out.se
  clear w1 bW bP
  go_region_held3 (fun w' => w'.cell? ⟨w.heap.size, 0, none⟩ = some (.pointer (some ⟨pw, 0, none⟩)) ∧ w'.cell? ⟨w.heap.size + 1, 0, none⟩ = some (.int .i64 frame) ∧ w'.cell? ⟨pw, 0, none⟩ = some (.pointer (some ⟨p, 0, none⟩))) (first | exact ⟨c0, c1, c2⟩ | exact ⟨d0, d1, d2⟩ | go_keep)
    ((go_at_call 52; refine (share_mem (MemAt.drew HM1.out) frame).mono ?_; rintro e w2 ⟨rfl, hM2, hG2⟩; rw [HSE.out]; have d0 := hG2.cell c0 (by intro e; exact hng.out.1 (Option.some.inj e)); have d1 := hG2.cell c1 (by intro e; exact hng.out.2.1 (Option.some.inj e)); have d2 := hG2.cell c2 (by intro e; exact hng.out.2.2 (Option.some.inj e)); have HM2 := Lib.hid hM2; have HG2 := Lib.hid (drew_grown hG2); clear hM2 hG2))
  have HMS : Hid ((sharS S frame).at w2 p g n) := by have := HM2.out; rw [HF.out.sR] at this; exact this
  have w2' := HW1.out.grown HG2.out HPW.out.1
  have HW2 := Lib.hid w2'
  have u2 := w2'.cUndo; have f2 := w2'.fz 6
  have HBL : Hid (w.heap.size < w2.heap.size ∧ pw < w2.heap.size) := ⟨World.block_lt_of_cell? w2 _ d0, World.block_lt_of_cell? w2 _ u2⟩
  have HGW := Lib.hid (HG1.out.trans (Wk.of_grown (pw := pw) HG2.out (Nat.le_of_lt HW1.out.lt)))
  have HBW2 : Hid (Boxed w2 w.heap.size 57 (.pointer (some ⟨pw, 0, none⟩))) := HBW.out.kept HG2.out (fun e => hng.out.1 (Option.some.inj e))
  have HBP2 : Hid (Boxed w2 (w.heap.size + 1) 3 (.int .i64 frame)) := HBP.out.kept HG2.out (fun e => hng.out.2.1 (Option.some.inj e))
  clear w2' c0 c1 c2 d1 d2 HM1 HG1 HM2
  go_wp2_with fail
  have a0 := cell_allocL (.cells #[.func (.func 53) #[] #[.pointer (some ⟨w.heap.size, 0, none⟩), .pointer (some ⟨w.heap.size + 1, 0, none⟩)]] 1) d0
  have a1 := cell_allocL (.cells #[.func (.func 53) #[] #[.pointer (some ⟨w.heap.size, 0, none⟩), .pointer (some ⟨w.heap.size + 1, 0, none⟩)]] 1) u2
  refine wp_region_held_drew (S := (fun w' => w'.cell? ⟨w.heap.size, 0, none⟩ = some (.pointer (some ⟨pw, 0, none⟩)))) (by kernel_rfl) d0 (fun hHeld => ?_)
  change wpAnyH _ _ _ _ _ 11 (Array.replicate 11 false) _ _
  refine takeH 0 (.pointer (some ⟨pw, 0, none⟩)) (some 16) rfl (by kernel_rfl) (by kernel_rfl) (by kernel_rfl) (fun _ _ _ h => h) (fun oi h => by obtain rfl := Option.some.inj h; rfl) (fun oi h W hS => by obtain rfl := Option.some.inj h; go_simp) hHeld ?_
  simp only [Act.put, List.setIfInBounds_toArray, List.set_cons_zero, List.set_cons_succ]
  refine takeH 1 (.pointer (some ⟨pw, 0, none⟩)) (some 17) rfl (by kernel_rfl) (by kernel_rfl) (by kernel_rfl) (fun _ _ _ h => h) (fun oi h => by obtain rfl := Option.some.inj h; rfl) (fun oi h W hS => by obtain rfl := Option.some.inj h; go_simp) hHeld ?_
  simp only [Act.put, List.setIfInBounds_toArray, List.set_cons_zero, List.set_cons_succ]
  refine takeH 2 (.pointer (some ⟨pw, 0, none⟩)) (some 18) rfl (by kernel_rfl) (by kernel_rfl) (by kernel_rfl) (fun _ _ _ h => h) (fun oi h => by obtain rfl := Option.some.inj h; rfl) (fun oi h W hS => by obtain rfl := Option.some.inj h; go_simp) hHeld ?_
  simp only [Act.put, List.setIfInBounds_toArray, List.set_cons_zero, List.set_cons_succ]
  refine takeH 3 (.pointer (some ⟨pw, 6, none⟩)) (some 19) rfl (by kernel_rfl) (by kernel_rfl) (by kernel_rfl) (fun _ _ _ h => h) (fun oi h => by obtain rfl := Option.some.inj h; rfl) (fun oi h W hS => by obtain rfl := Option.some.inj h; go_simp) hHeld ?_
  simp only [Act.put, List.setIfInBounds_toArray, List.set_cons_zero, List.set_cons_succ]
  refine takeH 5 (.func (.func 53) #[] #[.pointer (some ⟨w.heap.size, 0, none⟩), .pointer (some ⟨w.heap.size + 1, 0, none⟩)]) (some 21) rfl (by kernel_rfl) (by kernel_rfl) (by kernel_rfl) (fun _ _ _ h => h) (fun oi h => by obtain rfl := Option.some.inj h; rfl) (fun oi h W hS => by obtain rfl := Option.some.inj h; go_simp) hHeld ?_
  simp only [Act.put, List.setIfInBounds_toArray, List.set_cons_zero, List.set_cons_succ]
  refine wpAnyH_ready (rs := [4, 6]) (by kernel_rfl) (by simp) ?_
  refine AllReadyH.cons (i := 4) rfl (fun K hK => ?_) (AllReadyH.cons (i := 6) rfl (fun K hK => ?_) AllReadyH.nil)
  · go_simp
    refine hK.out _ _ d0 (fun _ => ?_)
    clear hK K
    try simp only [Act.put, List.setIfInBounds_toArray, List.set_cons_zero, List.set_cons_succ]
    refine wpAnyH_ready (rs := [6]) (by kernel_rfl) (by simp) ?_
    refine AllReadyH.cons (i := 6) rfl (fun K hK => ?_) AllReadyH.nil
    go_simp
    refine hK.out _ _ a0 (fun _ => ?_)
    clear hK K
    try simp only [Act.put, List.setIfInBounds_toArray, List.set_cons_zero, List.set_cons_succ]
    refine wpAnyH_ready (rs := [7]) (by kernel_rfl) (by simp) ?_
    refine AllReadyH.cons (i := 7) rfl (fun K hK => ?_) AllReadyH.nil
    refine step_append_lies _ (by rfl) _ _ _ (by rfl) (pw + 1) 1 i0 _ 1 8 Try.underlying75 HI.out HZ0.out HZ1.out HZ2.out rfl (by omega) vU k us (by rfl) ((HW2.out.own.alloc _).drew) ⟨w2.heap.size, 0, none⟩ 1 1 [.func (.func 53) #[] #[.pointer (some ⟨w.heap.size, 0, none⟩), .pointer (some ⟨w.heap.size + 1, 0, none⟩)]] (by rfl) (by rfl) (World.news_of_block (cs := #[.func (.func 53) #[] #[.pointer (some ⟨w.heap.size, 0, none⟩), .pointer (some ⟨w.heap.size + 1, 0, none⟩)]]) (t := 1) (fr := (0, 0)) (heap_alloc_new w2 _)) (by simp [Value.oneCell']) (by omega) (by have := HK.out; unfold maxLen; omega) (by have := HK.out; omega) (by simp; have := HW2.out.lt; omega) (w2.heap.size + 1) (by simp) ?_
    intro gg cap w3 hown1 hgrow _ _
    have e0 := (hgrow.cell_far ⟨w.heap.size, 0, none⟩ (by have := HBL.out; simp; omega) (Ne.symm NA.out)).trans a0
    have e1 := (hgrow.cell_far ⟨pw, 6, none⟩ (by have := HBL.out; simp; omega) (Ne.symm NB.out)).trans a1
    have e2 := (hgrow.frozen_far ⟨pw, 6, none⟩ (by have := HBL.out; simp; omega) (Ne.symm NB.out)).trans ((World.frozen?_of_block (a := ⟨pw, 6, none⟩) (Below.heap_alloc w2 _ pw HBL.out.2)).trans f2)
    have HOWN := Lib.hid hown1; have HGR := Lib.hid hgrow
    clear hown1 hgrow
    refine hK.out _ _ e0 (fun hHeld => ?_)
    clear hK K
    change wpAnyH _ _ _ _ _ _ _ (Act.put _ (some 23) _) _
    simp only [Act.put, List.setIfInBounds_toArray, List.set_cons_zero, List.set_cons_succ]
    refine takeH 8 (.pointer (some ⟨pw, 0, none⟩)) (some 24) rfl (by kernel_rfl) (by kernel_rfl) (by kernel_rfl) (fun _ _ _ h => h) (fun oi h => by obtain rfl := Option.some.inj h; rfl) (fun oi h W hS => by obtain rfl := Option.some.inj h; go_simp) hHeld ?_
    simp only [Act.put, List.setIfInBounds_toArray, List.set_cons_zero, List.set_cons_succ]
    refine takeH 9 (.pointer (some ⟨pw, 6, none⟩)) (some 25) rfl (by kernel_rfl) (by kernel_rfl) (by kernel_rfl) (fun _ _ _ h => h) (fun oi h => by obtain rfl := Option.some.inj h; rfl) (fun oi h W hS => by obtain rfl := Option.some.inj h; go_simp) hHeld ?_
    simp only [Act.put, List.setIfInBounds_toArray, List.set_cons_zero, List.set_cons_succ]
    refine wpAnyH_ready (rs := [10]) (by kernel_rfl) (by simp) ?_
    refine AllReadyH.cons (i := 10) rfl (fun K hK => ?_) AllReadyH.nil
    go_simp
    refine hK.out _ _ ((World.cell?_setCell_other _ _ _ _ (by simp)).trans e0) (fun _ => ?_)
    clear hK K
    refine wpAnyH_done (by kernel_rfl) ?_ _
    obtain ⟨x1, x2, x3⟩ := undo_end HMS.out HW2.out HPW.out.1 HPW.out.2.1 _ HOWN.out HGR.out
    have y0 := (x3.box HBW2.out hng.out.1 (by have := HPW.out; omega) (by decide)).cell
    have y1 := (x3.box HBP2.out hng.out.2.1 (by have := HPW.out; omega) (by decide)).cell
    generalize w3.setCell _ _ = W4 at *
    have X1 := Lib.hid x1; have X2 := Lib.hid x2; have X3 := Lib.hid (HGW.out.trans x3)
    clear x1 x2 x3 e0 e1 e2 HOWN HGR u2 f2 d0 a0 a1
    go_wp2_with fail
    refine (mapPage_ok X1.out X2.out HPW.out.1 HPW.out.2.1 HF.out.sok (by have := HK2.out; omega) page frame flags HFL.out HF.out.me).mono ?_
    rintro e w5 ⟨rfl, z1, ⟨vU', u, z2⟩, z3⟩
    have Z1 := Lib.hid z1; have Z2 := Lib.hid z2; have Z3 := Lib.hid (X3.out.trans z3)
    clear z1 z2 z3
    go_wp2
    go_ret
    exact ⟨rfl, Z1.out, ⟨_, _, Z2.out⟩, Z3.out⟩
  · go_simp
    refine hK.out _ _ a0 (fun _ => ?_)
    clear hK K
    try simp only [Act.put, List.setIfInBounds_toArray, List.set_cons_zero, List.set_cons_succ]
    refine wpAnyH_ready (rs := [4]) (by kernel_rfl) (by simp) ?_
    refine AllReadyH.cons (i := 4) rfl (fun K hK => ?_) AllReadyH.nil
    go_simp
    refine hK.out _ _ a0 (fun _ => ?_)
    clear hK K
    try simp only [Act.put, List.setIfInBounds_toArray, List.set_cons_zero, List.set_cons_succ]
    refine wpAnyH_ready (rs := [7]) (by kernel_rfl) (by simp) ?_
    refine AllReadyH.cons (i := 7) rfl (fun K hK => ?_) AllReadyH.nil
    refine step_append_lies _ (by rfl) _ _ _ (by rfl) (pw + 1) 1 i0 _ 1 8 Try.underlying75 HI.out HZ0.out HZ1.out HZ2.out rfl (by omega) vU k us (by rfl) ((HW2.out.own.alloc _).drew) ⟨w2.heap.size, 0, none⟩ 1 1 [.func (.func 53) #[] #[.pointer (some ⟨w.heap.size, 0, none⟩), .pointer (some ⟨w.heap.size + 1, 0, none⟩)]] (by rfl) (by rfl) (World.news_of_block (cs := #[.func (.func 53) #[] #[.pointer (some ⟨w.heap.size, 0, none⟩), .pointer (some ⟨w.heap.size + 1, 0, none⟩)]]) (t := 1) (fr := (0, 0)) (heap_alloc_new w2 _)) (by simp [Value.oneCell']) (by omega) (by have := HK.out; unfold maxLen; omega) (by have := HK.out; omega) (by simp; have := HW2.out.lt; omega) (w2.heap.size + 1) (by simp) ?_
    intro gg cap w3 hown1 hgrow _ _
    have e0 := (hgrow.cell_far ⟨w.heap.size, 0, none⟩ (by have := HBL.out; simp; omega) (Ne.symm NA.out)).trans a0
    have e1 := (hgrow.cell_far ⟨pw, 6, none⟩ (by have := HBL.out; simp; omega) (Ne.symm NB.out)).trans a1
    have e2 := (hgrow.frozen_far ⟨pw, 6, none⟩ (by have := HBL.out; simp; omega) (Ne.symm NB.out)).trans ((World.frozen?_of_block (a := ⟨pw, 6, none⟩) (Below.heap_alloc w2 _ pw HBL.out.2)).trans f2)
    have HOWN := Lib.hid hown1; have HGR := Lib.hid hgrow
    clear hown1 hgrow
    refine hK.out _ _ e0 (fun hHeld => ?_)
    clear hK K
    change wpAnyH _ _ _ _ _ _ _ (Act.put _ (some 23) _) _
    simp only [Act.put, List.setIfInBounds_toArray, List.set_cons_zero, List.set_cons_succ]
    refine takeH 8 (.pointer (some ⟨pw, 0, none⟩)) (some 24) rfl (by kernel_rfl) (by kernel_rfl) (by kernel_rfl) (fun _ _ _ h => h) (fun oi h => by obtain rfl := Option.some.inj h; rfl) (fun oi h W hS => by obtain rfl := Option.some.inj h; go_simp) hHeld ?_
    simp only [Act.put, List.setIfInBounds_toArray, List.set_cons_zero, List.set_cons_succ]
    refine takeH 9 (.pointer (some ⟨pw, 6, none⟩)) (some 25) rfl (by kernel_rfl) (by kernel_rfl) (by kernel_rfl) (fun _ _ _ h => h) (fun oi h => by obtain rfl := Option.some.inj h; rfl) (fun oi h W hS => by obtain rfl := Option.some.inj h; go_simp) hHeld ?_
    simp only [Act.put, List.setIfInBounds_toArray, List.set_cons_zero, List.set_cons_succ]
    refine wpAnyH_ready (rs := [10]) (by kernel_rfl) (by simp) ?_
    refine AllReadyH.cons (i := 10) rfl (fun K hK => ?_) AllReadyH.nil
    go_simp
    refine hK.out _ _ ((World.cell?_setCell_other _ _ _ _ (by simp)).trans e0) (fun _ => ?_)
    clear hK K
    refine wpAnyH_done (by kernel_rfl) ?_ _
    obtain ⟨x1, x2, x3⟩ := undo_end HMS.out HW2.out HPW.out.1 HPW.out.2.1 _ HOWN.out HGR.out
    have y0 := (x3.box HBW2.out hng.out.1 (by have := HPW.out; omega) (by decide)).cell
    have y1 := (x3.box HBP2.out hng.out.2.1 (by have := HPW.out; omega) (by decide)).cell
    generalize w3.setCell _ _ = W4 at *
    have X1 := Lib.hid x1; have X2 := Lib.hid x2; have X3 := Lib.hid (HGW.out.trans x3)
    clear x1 x2 x3 e0 e1 e2 HOWN HGR u2 f2 d0 a0 a1
    go_wp2_with fail
    refine (mapPage_ok X1.out X2.out HPW.out.1 HPW.out.2.1 HF.out.sok (by have := HK2.out; omega) page frame flags HFL.out HF.out.me).mono ?_
    rintro e w5 ⟨rfl, z1, ⟨vU', u, z2⟩, z3⟩
    have Z1 := Lib.hid z1; have Z2 := Lib.hid z2; have Z3 := Lib.hid (X3.out.trans z3)
    clear z1 z2 z3
    go_wp2
    go_ret
    exact ⟨rfl, Z1.out, ⟨_, _, Z2.out⟩, Z3.out⟩

end
end Go.Proofs.Ytdkaaoboipphcaa
