/- Package ptable: New; package space: addRoot, where it can be done, walked. -/
import Derived.Test.YtdkaaoboipphcaaSpWork
namespace Go.Proofs.Ytdkaaoboipphcaa
open Go.RowKit

section
variable {w : World} {pw p g n : Nat} {R : Nat → Int} {B : Nat → List UInt8} {r t d h : Int} {vA vU : Value} {k : Nat} {us : List Value}

set_option maxRecDepth 100000 in
set_option maxHeartbeats 1000000 in
theorem pnew_fn (hm : MemAt w p g n R B) : Calls Try.prog 46 #[.pointer (some ⟨p, 0, none⟩)] w fun e w' =>
    e = .returned (.tuple #[.int .i64 (allocN n R : Nat), .int .i64 (allocE n R)]) ∧ MemAt w' p g n (allocR n R) (allocB n R B) ∧ w.grownBy w' (some g) := by
  go_enter Try.func46, Try.ntmps46
  go_wp2_with fail
  refine (alloc_fn hm).mono ?_
  rintro e w1 ⟨rfl, hM, hG⟩
  have HM := Lib.hid hM; have HG := Lib.hid hG
  clear hM hG
  go_wp2
  go_ret2
  exact ⟨rfl, HM.out, HG.out⟩

set_option maxRecDepth 100000 in
set_option maxHeartbeats 4000000 in
theorem addRoot_ok (hm : MemAt w p g n R B) (hw : WorkAt w pw p r t d h vA vU k us) (hgp : g < pw) (hpp : p < pw) (hk : k ≤ 10000) (ha : allocE n R = 0) :
    Calls Try.prog 34 #[.pointer (some ⟨pw, 0, none⟩)] w fun e w' => e = .returned (.int .i64 0) ∧
      (rootS n R B).at w' p g n ∧ (∃ vU' us', WorkAt w' pw p (allocN n R : Nat) t d h vA vU' (k + 1) us') ∧ Wk g pw w w' := by
  obtain ⟨i0, hi, hz0, hz1, hz2⟩ := info_parts Try.infoFunc
  have HI := Lib.hid hi; have HZ0 := Lib.hid hz0; have HZ1 := Lib.hid hz1; have HZ2 := Lib.hid hz2
  clear hi hz0 hz1 hz2
  have HAE := Lib.hid ha; have HK : Hid (k ≤ 100000) := Nat.le_trans hk (by omega); have HPW := Lib.hid (show g < pw ∧ p < pw ∧ pw < w.heap.size from ⟨hgp, hpp, hw.lt⟩)
  have NA : Hid (vU.ownBlock ≠ some w.heap.size) := fun e => by have := (hw.own.lt _ e).2; omega
  have NB : Hid (vU.ownBlock ≠ some pw) := fun e => by have := hw.row_ge _ e; omega
  clear ha hk
  have w1 := hw.alloc (.cells #[.pointer (some ⟨pw, 0, none⟩)] 57)
  have HM1 : Hid (MemAt (w.alloc (.cells #[.pointer (some ⟨pw, 0, none⟩)] 57)) p g n R B) := MemAt.alloc hm _
  have HG1 : Hid (Wk g pw w (w.alloc (.cells #[.pointer (some ⟨pw, 0, none⟩)] 57))) := (Wk.refl g pw w).alloc (Nat.le_of_lt hw.lt) _
  have bW := Boxed.new w 57 (.pointer (some ⟨pw, 0, none⟩))
  have c2 := w1.cMem
  clear hm hw
  go_enter Try.func34, Try.ntmps34
  go_wp2_with fail
  generalize w.alloc (.cells #[.pointer (some ⟨pw, 0, none⟩)] 57) = W1 at *
  have HW1 := Lib.hid w1; have HBW := Lib.hid bW
  have hng : Hid (w.heap.size ≠ g ∧ pw ≠ g) := by have := HPW.out; exact ⟨by omega, by omega⟩
  clear w1 bW
  refine (pnew_fn HM1.out).mono ?_
  rintro e w2 ⟨rfl, hM2, hG2⟩
  rw [HAE.out]
  have HM2 : Hid ((rootS n R B).at w2 p g n) := hM2
  have HBW2 : Hid (Boxed w2 w.heap.size 57 (.pointer (some ⟨pw, 0, none⟩))) := HBW.out.kept hG2 (fun e => hng.out.1 (Option.some.inj e))
  have HW2a := HW1.out.grown hG2 HPW.out.1
  have HG2 := Lib.hid (HG1.out.trans (Wk.of_grown (pw := pw) hG2 (Nat.le_of_lt HW1.out.lt)))
  clear hM2 hG2 c2 HM1 HG1
  have hgl : Hid (g < w2.heap.size) := MemAt.g_lt HM2.out
  have hlt2 : Hid (w.heap.size < w2.heap.size ∧ pw < w2.heap.size) := ⟨HBW2.out.lt, HW2a.lt⟩
  have w3' := HW2a.alloc (.cells #[.int .i64 (allocN n R : Nat)] 3)
  have bW3 := HBW2.out.alloc (.cells #[.int .i64 (allocN n R : Nat)] 3)
  have q0 := bW3.cell; have q1 := w3'.cRoot; have q2 := w3'.fz 1
  have q3 := HBW2.out.cell; have q4 := HW2a.cRoot; have q5 := HW2a.fz 1
  have HM3 : Hid ((rootS n R B).at ((w2.alloc (.cells #[.int .i64 (allocN n R : Nat)] 3)).setCell ⟨pw, 1, none⟩ (.int .i64 (allocN n R : Nat))) p g n) := MemAt.setOther (MemAt.alloc HM2.out _) _ _ _ (by have := HPW.out; omega) (by have := HPW.out; omega)
  have w4' := w3'.root (allocN n R : Nat)
  have HG3 := Lib.hid ((HG2.out.alloc (Nat.le_of_lt HPW.out.2.2) (.cells #[.int .i64 (allocN n R : Nat)] 3)).setWork 1 (.int .i64 (allocN n R : Nat)))
  have bW4 : Boxed ((w2.alloc (.cells #[.int .i64 (allocN n R : Nat)] 3)).setCell ⟨pw, 1, none⟩ (.int .i64 (allocN n R : Nat))) w.heap.size 57 (.pointer (some ⟨pw, 0, none⟩)) := (heap_setCell_other _ _ _ _ (show w.heap.size ≠ pw by have := HPW.out; omega)).trans bW3
  clear HW2a
  have HQ := Lib.hid bW4; have HW4 := Lib.hid w4'
  clear bW4 w4' w3' bW3
  go_wp2_with fail
  generalize (w2.alloc (.cells #[.int .i64 (allocN n R : Nat)] 3)).setCell ⟨pw, 1, none⟩ (.int .i64 (allocN n R : Nat)) = W3 at *
  clear q0 q1 q2 q3 q4 q5
  have d0 := HQ.out.cell
  have HW2 := HW4
  have u2 := HW2.out.cUndo; have f2 := HW2.out.fz 6
  have HBL : Hid (w.heap.size < W3.heap.size ∧ pw < W3.heap.size) := ⟨HQ.out.lt, HW2.out.lt⟩
  have a0 := cell_allocL (.cells #[.func (.func 47) #[] #[.pointer (some ⟨w.heap.size, 0, none⟩), .pointer (some ⟨w2.heap.size, 0, none⟩)]] 1) d0
  have a1 := cell_allocL (.cells #[.func (.func 47) #[] #[.pointer (some ⟨w.heap.size, 0, none⟩), .pointer (some ⟨w2.heap.size, 0, none⟩)]] 1) u2
  refine wp_region_held_drew (S := (fun w' => w'.cell? ⟨w.heap.size, 0, none⟩ = some (.pointer (some ⟨pw, 0, none⟩)))) (by kernel_rfl) d0 (fun hHeld => ?_)
  change wpAnyH _ _ _ _ _ 11 (Array.replicate 11 false) _ _
  refine takeH 0 (.pointer (some ⟨pw, 0, none⟩)) (some 21) rfl (by kernel_rfl) (by kernel_rfl) (by kernel_rfl) (fun _ _ _ h => h) (fun oi h => by obtain rfl := Option.some.inj h; rfl) (fun oi h W hS => by obtain rfl := Option.some.inj h; go_simp) hHeld ?_
  simp only [Act.put, List.setIfInBounds_toArray, List.set_cons_zero, List.set_cons_succ]
  refine takeH 1 (.pointer (some ⟨pw, 0, none⟩)) (some 22) rfl (by kernel_rfl) (by kernel_rfl) (by kernel_rfl) (fun _ _ _ h => h) (fun oi h => by obtain rfl := Option.some.inj h; rfl) (fun oi h W hS => by obtain rfl := Option.some.inj h; go_simp) hHeld ?_
  simp only [Act.put, List.setIfInBounds_toArray, List.set_cons_zero, List.set_cons_succ]
  refine takeH 2 (.pointer (some ⟨pw, 0, none⟩)) (some 23) rfl (by kernel_rfl) (by kernel_rfl) (by kernel_rfl) (fun _ _ _ h => h) (fun oi h => by obtain rfl := Option.some.inj h; rfl) (fun oi h W hS => by obtain rfl := Option.some.inj h; go_simp) hHeld ?_
  simp only [Act.put, List.setIfInBounds_toArray, List.set_cons_zero, List.set_cons_succ]
  refine takeH 3 (.pointer (some ⟨pw, 6, none⟩)) (some 24) rfl (by kernel_rfl) (by kernel_rfl) (by kernel_rfl) (fun _ _ _ h => h) (fun oi h => by obtain rfl := Option.some.inj h; rfl) (fun oi h W hS => by obtain rfl := Option.some.inj h; go_simp) hHeld ?_
  simp only [Act.put, List.setIfInBounds_toArray, List.set_cons_zero, List.set_cons_succ]
  refine takeH 5 (.func (.func 47) #[] #[.pointer (some ⟨w.heap.size, 0, none⟩), .pointer (some ⟨w2.heap.size, 0, none⟩)]) (some 26) rfl (by kernel_rfl) (by kernel_rfl) (by kernel_rfl) (fun _ _ _ h => h) (fun oi h => by obtain rfl := Option.some.inj h; rfl) (fun oi h W hS => by obtain rfl := Option.some.inj h; go_simp) hHeld ?_
  simp only [Act.put, List.setIfInBounds_toArray, List.set_cons_zero, List.set_cons_succ]
  refine wpAnyH_ready (rs := [4, 6]) (by kernel_rfl) (by simp) ?_
  refine AllReadyH.cons (i := 4) rfl (fun K hK => ?_) (AllReadyH.cons (i := 6) rfl (fun K hK => ?_) AllReadyH.nil)
  · go_simp
    refine hK.out _ _ d0 (fun _ => ?_)
    clear hK K
    try simp only [Act.put, List.setIfInBounds_toArray, List.set_cons_zero, List.set_cons_succ]
    refine wpAnyH_ready (rs := [6]) (by kernel_rfl) (by simp) ?_
    refine AllReadyH.cons (i := 6) rfl (fun K hK => ?_) AllReadyH.nil
    go_simp
    refine hK.out _ _ a0 (fun _ => ?_)
    clear hK K
    try simp only [Act.put, List.setIfInBounds_toArray, List.set_cons_zero, List.set_cons_succ]
    refine wpAnyH_ready (rs := [7]) (by kernel_rfl) (by simp) ?_
    refine AllReadyH.cons (i := 7) rfl (fun K hK => ?_) AllReadyH.nil
    refine step_append_lies _ (by rfl) _ _ _ (by rfl) (pw + 1) 1 i0 _ 1 8 Try.underlying75 HI.out HZ0.out HZ1.out HZ2.out rfl (by omega) vU k us (by rfl) ((HW2.out.own.alloc _).drew) ⟨W3.heap.size, 0, none⟩ 1 1 [.func (.func 47) #[] #[.pointer (some ⟨w.heap.size, 0, none⟩), .pointer (some ⟨w2.heap.size, 0, none⟩)]] (by rfl) (by rfl) (World.news_of_block (cs := #[.func (.func 47) #[] #[.pointer (some ⟨w.heap.size, 0, none⟩), .pointer (some ⟨w2.heap.size, 0, none⟩)]]) (t := 1) (fr := (0, 0)) (heap_alloc_new W3 _)) (by simp [Value.oneCell']) (by omega) (by have := HK.out; unfold maxLen; omega) (by have := HK.out; omega) (by simp; have := HW2.out.lt; omega) (W3.heap.size + 1) (by simp) ?_
    intro gg cap w3 hown1 hgrow _ _
    have e0 := (hgrow.cell_far ⟨w.heap.size, 0, none⟩ (by have := HBL.out; simp; omega) (Ne.symm NA.out)).trans a0
    have e1 := (hgrow.cell_far ⟨pw, 6, none⟩ (by have := HBL.out; simp; omega) (Ne.symm NB.out)).trans a1
    have e2 := (hgrow.frozen_far ⟨pw, 6, none⟩ (by have := HBL.out; simp; omega) (Ne.symm NB.out)).trans ((World.frozen?_of_block (a := ⟨pw, 6, none⟩) (Below.heap_alloc W3 _ pw HBL.out.2)).trans f2)
    have HOWN := Lib.hid hown1; have HGR := Lib.hid hgrow
    clear hown1 hgrow
    refine hK.out _ _ e0 (fun hHeld => ?_)
    clear hK K
    change wpAnyH _ _ _ _ _ _ _ (Act.put _ (some 28) _) _
    simp only [Act.put, List.setIfInBounds_toArray, List.set_cons_zero, List.set_cons_succ]
    refine takeH 8 (.pointer (some ⟨pw, 0, none⟩)) (some 29) rfl (by kernel_rfl) (by kernel_rfl) (by kernel_rfl) (fun _ _ _ h => h) (fun oi h => by obtain rfl := Option.some.inj h; rfl) (fun oi h W hS => by obtain rfl := Option.some.inj h; go_simp) hHeld ?_
    simp only [Act.put, List.setIfInBounds_toArray, List.set_cons_zero, List.set_cons_succ]
    refine takeH 9 (.pointer (some ⟨pw, 6, none⟩)) (some 30) rfl (by kernel_rfl) (by kernel_rfl) (by kernel_rfl) (fun _ _ _ h => h) (fun oi h => by obtain rfl := Option.some.inj h; rfl) (fun oi h W hS => by obtain rfl := Option.some.inj h; go_simp) hHeld ?_
    simp only [Act.put, List.setIfInBounds_toArray, List.set_cons_zero, List.set_cons_succ]
    refine wpAnyH_ready (rs := [10]) (by kernel_rfl) (by simp) ?_
    refine AllReadyH.cons (i := 10) rfl (fun K hK => ?_) AllReadyH.nil
    go_simp
    refine hK.out _ _ ((World.cell?_setCell_other _ _ _ _ (by simp)).trans e0) (fun _ => ?_)
    clear hK K
    refine wpAnyH_done (by kernel_rfl) ?_ _
    obtain ⟨x1, x2, x3⟩ := undo_end HM3.out HW2.out HPW.out.1 HPW.out.2.1 _ HOWN.out HGR.out
    go_wp2
    go_ret
    exact ⟨rfl, x1, ⟨_, _, x2⟩, HG3.out.trans x3⟩
  · go_simp
    refine hK.out _ _ a0 (fun _ => ?_)
    clear hK K
    try simp only [Act.put, List.setIfInBounds_toArray, List.set_cons_zero, List.set_cons_succ]
    refine wpAnyH_ready (rs := [4]) (by kernel_rfl) (by simp) ?_
    refine AllReadyH.cons (i := 4) rfl (fun K hK => ?_) AllReadyH.nil
    go_simp
    refine hK.out _ _ a0 (fun _ => ?_)
    clear hK K
    try simp only [Act.put, List.setIfInBounds_toArray, List.set_cons_zero, List.set_cons_succ]
    refine wpAnyH_ready (rs := [7]) (by kernel_rfl) (by simp) ?_
    refine AllReadyH.cons (i := 7) rfl (fun K hK => ?_) AllReadyH.nil
    refine step_append_lies _ (by rfl) _ _ _ (by rfl) (pw + 1) 1 i0 _ 1 8 Try.underlying75 HI.out HZ0.out HZ1.out HZ2.out rfl (by omega) vU k us (by rfl) ((HW2.out.own.alloc _).drew) ⟨W3.heap.size, 0, none⟩ 1 1 [.func (.func 47) #[] #[.pointer (some ⟨w.heap.size, 0, none⟩), .pointer (some ⟨w2.heap.size, 0, none⟩)]] (by rfl) (by rfl) (World.news_of_block (cs := #[.func (.func 47) #[] #[.pointer (some ⟨w.heap.size, 0, none⟩), .pointer (some ⟨w2.heap.size, 0, none⟩)]]) (t := 1) (fr := (0, 0)) (heap_alloc_new W3 _)) (by simp [Value.oneCell']) (by omega) (by have := HK.out; unfold maxLen; omega) (by have := HK.out; omega) (by simp; have := HW2.out.lt; omega) (W3.heap.size + 1) (by simp) ?_
    intro gg cap w3 hown1 hgrow _ _
    have e0 := (hgrow.cell_far ⟨w.heap.size, 0, none⟩ (by have := HBL.out; simp; omega) (Ne.symm NA.out)).trans a0
    have e1 := (hgrow.cell_far ⟨pw, 6, none⟩ (by have := HBL.out; simp; omega) (Ne.symm NB.out)).trans a1
    have e2 := (hgrow.frozen_far ⟨pw, 6, none⟩ (by have := HBL.out; simp; omega) (Ne.symm NB.out)).trans ((World.frozen?_of_block (a := ⟨pw, 6, none⟩) (Below.heap_alloc W3 _ pw HBL.out.2)).trans f2)
    have HOWN := Lib.hid hown1; have HGR := Lib.hid hgrow
    clear hown1 hgrow
    refine hK.out _ _ e0 (fun hHeld => ?_)
    clear hK K
    change wpAnyH _ _ _ _ _ _ _ (Act.put _ (some 28) _) _
    simp only [Act.put, List.setIfInBounds_toArray, List.set_cons_zero, List.set_cons_succ]
    refine takeH 8 (.pointer (some ⟨pw, 0, none⟩)) (some 29) rfl (by kernel_rfl) (by kernel_rfl) (by kernel_rfl) (fun _ _ _ h => h) (fun oi h => by obtain rfl := Option.some.inj h; rfl) (fun oi h W hS => by obtain rfl := Option.some.inj h; go_simp) hHeld ?_
    simp only [Act.put, List.setIfInBounds_toArray, List.set_cons_zero, List.set_cons_succ]
    refine takeH 9 (.pointer (some ⟨pw, 6, none⟩)) (some 30) rfl (by kernel_rfl) (by kernel_rfl) (by kernel_rfl) (fun _ _ _ h => h) (fun oi h => by obtain rfl := Option.some.inj h; rfl) (fun oi h W hS => by obtain rfl := Option.some.inj h; go_simp) hHeld ?_
    simp only [Act.put, List.setIfInBounds_toArray, List.set_cons_zero, List.set_cons_succ]
    refine wpAnyH_ready (rs := [10]) (by kernel_rfl) (by simp) ?_
    refine AllReadyH.cons (i := 10) rfl (fun K hK => ?_) AllReadyH.nil
    go_simp
    refine hK.out _ _ ((World.cell?_setCell_other _ _ _ _ (by simp)).trans e0) (fun _ => ?_)
    clear hK K
    refine wpAnyH_done (by kernel_rfl) ?_ _
    obtain ⟨x1, x2, x3⟩ := undo_end HM3.out HW2.out HPW.out.1 HPW.out.2.1 _ HOWN.out HGR.out
    go_wp2
    go_ret
    exact ⟨rfl, x1, ⟨_, _, x2⟩, HG3.out.trans x3⟩

end
end Go.Proofs.Ytdkaaoboipphcaa
