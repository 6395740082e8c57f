/- Package space: addPage, where it can be done, walked. -/
import Derived.Test.YtdkaaoboipphcaaSpWork
namespace Go.Proofs.Ytdkaaoboipphcaa
open Go.RowKit

section
variable {w : World} {pw p g n root : Nat} {S : PtS} {t d h : Int} {vA vU : Value} {k : Nat} {us : List Value}

set_option maxRecDepth 100000 in
set_option maxHeartbeats 4000000 in
theorem addPage_mid (hm : S.at w p g n) (hw : WorkAt w pw p root t d h vA vU k us) (hgp : g < pw) (hpp : p < pw) (hk : k ≤ 10000) (page flags : Nat) (s : ByteArray) (hfl : flags < 8) (hs : s.size ≤ 64) (ae : allocE n S.R = 0) (lv : liveB n (allocR n S.R) (allocN n S.R : Nat) = true) (wk : (writS (alloS n S) (allocN n S.R) s.data.toList).ok n root) :
    Calls Try.prog 49 #[.pointer (some ⟨pw, 0, none⟩), .int .i64 page, .int .i64 flags, .string s] w fun e w' => e = .returned (.int .i64 (mapS n root (writS (alloS n S) (allocN n S.R) s.data.toList) page (allocN n S.R : Nat) flags).1) ∧
      (pageS n root S page flags s.data.toList).at w' p g n ∧ (∃ vU' k' us', k' ≤ k + 2 ∧ WorkAt w' pw p root t d h vA vU' k' us') ∧ Wk g pw w w' := by
  obtain ⟨i0, hi, hz0, hz1, hz2⟩ := info_parts Try.infoFunc
  have HI := Lib.hid hi; have HZ0 := Lib.hid hz0; have HZ1 := Lib.hid hz1; have HZ2 := Lib.hid hz2
  clear hi hz0 hz1 hz2
  have HLV := Lib.hid lv; have HWK := Lib.hid wk; have HFL := Lib.hid hfl; have HK : Hid (k ≤ 100000) := Nat.le_trans hk (by omega); have HPW := Lib.hid (show g < pw ∧ p < pw ∧ pw < w.heap.size from ⟨hgp, hpp, hw.lt⟩)
  have HK2 := Lib.hid hk; have HS := Lib.hid hs
  have NA : Hid (vU.ownBlock ≠ some w.heap.size) := fun e => by have := (hw.own.lt _ e).2; omega
  have NB : Hid (vU.ownBlock ≠ some pw) := fun e => by have := hw.row_ge _ e; omega
  clear lv wk hfl hk hs
  have w1 := hw.alloc (.cells #[.pointer (some ⟨pw, 0, none⟩)] 57)
  have HM1 : Hid (S.at (w.alloc (.cells #[.pointer (some ⟨pw, 0, none⟩)] 57)) p g n) := MemAt.alloc hm _
  have HG1 : Hid (Wk g pw w (w.alloc (.cells #[.pointer (some ⟨pw, 0, none⟩)] 57))) := (Wk.refl g pw w).alloc (Nat.le_of_lt hw.lt) _
  have bW := Boxed.new w 57 (.pointer (some ⟨pw, 0, none⟩))
  have hsl : s.data.toList.length = s.size := toList_length s
  have HWE : Hid (readE n (alloS n S).R (allocN n S.R : Nat) 0 s.size = 0) := by
    have h1 := HLV.out
    have h2 : spanB 0 (s.size : Int) = true := by simp [spanB]; have := HS.out; omega
    unfold Hid readE
    rw [show (alloS n S).R = allocR n S.R from rfl, h1, h2]; rfl
  have HWB : Hid (writeB n (alloS n S).R (alloS n S).B (allocN n S.R : Nat) 0 s.data.toList = (writS (alloS n S) (allocN n S.R) s.data.toList).B) := by
    unfold Hid writeB
    rw [hsl, HWE.out, if_pos rfl]; rfl
  have HAE := Lib.hid ae; clear ae
  have c2 := w1.cMem
  clear hm hw hsl
  go_enter Try.func49, Try.ntmps49
  go_wp2_with fail
  generalize w.alloc (.cells #[.pointer (some ⟨pw, 0, none⟩)] 57) = W1 at *
  have HW1 := Lib.hid w1; have HBW := Lib.hid bW
  have hng : Hid (w.heap.size ≠ g ∧ pw ≠ g) := by have := HPW.out; exact ⟨by omega, by omega⟩
  clear w1 bW
  refine (alloc_fn HM1.out).mono ?_
  rintro e w2 ⟨rfl, hM2, hG2⟩
  rw [HAE.out]
  have HM2 : Hid ((alloS n S).at w2 p g n) := hM2
  have HBW2 : Hid (Boxed w2 w.heap.size 57 (.pointer (some ⟨pw, 0, none⟩))) := HBW.out.kept hG2 (fun e => hng.out.1 (Option.some.inj e))
  have HW2a := HW1.out.grown hG2 HPW.out.1
  have HG2 := Lib.hid (HG1.out.trans (Wk.of_grown (pw := pw) hG2 (Nat.le_of_lt HW1.out.lt)))
  clear hM2 hG2 c2 HM1 HG1
  have HM3 : Hid ((alloS n S).at (w2.alloc (.cells #[.int .i64 (allocN n S.R : Nat)] 3)) p g n) := MemAt.alloc HM2.out _
  have w3' := HW2a.alloc (.cells #[.int .i64 (allocN n S.R : Nat)] 3)
  have HG3 := Lib.hid (HG2.out.alloc (Nat.le_of_lt HPW.out.2.2) (.cells #[.int .i64 (allocN n S.R : Nat)] 3))
  have bW3 := HBW2.out.alloc (.cells #[.int .i64 (allocN n S.R : Nat)] 3)
  have bF3 := Boxed.new w2 3 (.int .i64 (allocN n S.R : Nat))
  have hlt2 : Hid (w.heap.size < w2.heap.size ∧ pw < w2.heap.size) := ⟨HBW2.out.lt, HW2a.lt⟩
  have hgl : Hid (g < w2.heap.size) := MemAt.g_lt HM2.out
  clear HW2a
  go_wp2_with fail
  generalize w2.alloc (.cells #[.int .i64 (allocN n S.R : Nat)] 3) = W3 at *
  have d0 := bW3.cell
  have HW2 := Lib.hid w3'
  have u2 := w3'.cUndo; have f2 := w3'.fz 6
  have HBW3 := Lib.hid bW3; have HBF3 := Lib.hid bF3
  have HBL : Hid (w.heap.size < W3.heap.size ∧ pw < W3.heap.size) := ⟨bW3.lt, w3'.lt⟩
  clear w3' bW3 bF3
  have a0 := cell_allocL (.cells #[.func (.func 62) #[] #[.pointer (some ⟨w.heap.size, 0, none⟩), .pointer (some ⟨w2.heap.size, 0, none⟩)]] 1) d0
  have a1 := cell_allocL (.cells #[.func (.func 62) #[] #[.pointer (some ⟨w.heap.size, 0, none⟩), .pointer (some ⟨w2.heap.size, 0, none⟩)]] 1) u2
  refine wp_region_held_drew (S := (fun w' => w'.cell? ⟨w.heap.size, 0, none⟩ = some (.pointer (some ⟨pw, 0, none⟩)))) (by kernel_rfl) d0 (fun hHeld => ?_)
  change wpAnyH _ _ _ _ _ 11 (Array.replicate 11 false) _ _
  refine takeH 0 (.pointer (some ⟨pw, 0, none⟩)) (some 23) rfl (by kernel_rfl) (by kernel_rfl) (by kernel_rfl) (fun _ _ _ h => h) (fun oi h => by obtain rfl := Option.some.inj h; rfl) (fun oi h W hS => by obtain rfl := Option.some.inj h; go_simp) hHeld ?_
  simp only [Act.put, List.setIfInBounds_toArray, List.set_cons_zero, List.set_cons_succ]
  refine takeH 1 (.pointer (some ⟨pw, 0, none⟩)) (some 24) rfl (by kernel_rfl) (by kernel_rfl) (by kernel_rfl) (fun _ _ _ h => h) (fun oi h => by obtain rfl := Option.some.inj h; rfl) (fun oi h W hS => by obtain rfl := Option.some.inj h; go_simp) hHeld ?_
  simp only [Act.put, List.setIfInBounds_toArray, List.set_cons_zero, List.set_cons_succ]
  refine takeH 2 (.pointer (some ⟨pw, 0, none⟩)) (some 25) rfl (by kernel_rfl) (by kernel_rfl) (by kernel_rfl) (fun _ _ _ h => h) (fun oi h => by obtain rfl := Option.some.inj h; rfl) (fun oi h W hS => by obtain rfl := Option.some.inj h; go_simp) hHeld ?_
  simp only [Act.put, List.setIfInBounds_toArray, List.set_cons_zero, List.set_cons_succ]
  refine takeH 3 (.pointer (some ⟨pw, 6, none⟩)) (some 26) rfl (by kernel_rfl) (by kernel_rfl) (by kernel_rfl) (fun _ _ _ h => h) (fun oi h => by obtain rfl := Option.some.inj h; rfl) (fun oi h W hS => by obtain rfl := Option.some.inj h; go_simp) hHeld ?_
  simp only [Act.put, List.setIfInBounds_toArray, List.set_cons_zero, List.set_cons_succ]
  refine takeH 5 (.func (.func 62) #[] #[.pointer (some ⟨w.heap.size, 0, none⟩), .pointer (some ⟨w2.heap.size, 0, none⟩)]) (some 28) rfl (by kernel_rfl) (by kernel_rfl) (by kernel_rfl) (fun _ _ _ h => h) (fun oi h => by obtain rfl := Option.some.inj h; rfl) (fun oi h W hS => by obtain rfl := Option.some.inj h; go_simp) hHeld ?_
  simp only [Act.put, List.setIfInBounds_toArray, List.set_cons_zero, List.set_cons_succ]
  refine wpAnyH_ready (rs := [4, 6]) (by kernel_rfl) (by simp) ?_
  refine AllReadyH.cons (i := 4) rfl (fun K hK => ?_) (AllReadyH.cons (i := 6) rfl (fun K hK => ?_) AllReadyH.nil)
  · go_simp
    refine hK.out _ _ d0 (fun _ => ?_)
    clear hK K
    try simp only [Act.put, List.setIfInBounds_toArray, List.set_cons_zero, List.set_cons_succ]
    refine wpAnyH_ready (rs := [6]) (by kernel_rfl) (by simp) ?_
    refine AllReadyH.cons (i := 6) rfl (fun K hK => ?_) AllReadyH.nil
    go_simp
    refine hK.out _ _ a0 (fun _ => ?_)
    clear hK K
    try simp only [Act.put, List.setIfInBounds_toArray, List.set_cons_zero, List.set_cons_succ]
    refine wpAnyH_ready (rs := [7]) (by kernel_rfl) (by simp) ?_
    refine AllReadyH.cons (i := 7) rfl (fun K hK => ?_) AllReadyH.nil
    refine step_append_lies _ (by rfl) _ _ _ (by rfl) (pw + 1) 1 i0 _ 1 8 Try.underlying75 HI.out HZ0.out HZ1.out HZ2.out rfl (by omega) vU k us (by rfl) ((HW2.out.own.alloc _).drew) ⟨W3.heap.size, 0, none⟩ 1 1 [.func (.func 62) #[] #[.pointer (some ⟨w.heap.size, 0, none⟩), .pointer (some ⟨w2.heap.size, 0, none⟩)]] (by rfl) (by rfl) (World.news_of_block (cs := #[.func (.func 62) #[] #[.pointer (some ⟨w.heap.size, 0, none⟩), .pointer (some ⟨w2.heap.size, 0, none⟩)]]) (t := 1) (fr := (0, 0)) (heap_alloc_new W3 _)) (by simp [Value.oneCell']) (by omega) (by have := HK.out; unfold maxLen; omega) (by have := HK.out; omega) (by simp; have := HW2.out.lt; omega) (W3.heap.size + 1) (by simp) ?_
    intro gg cap w3 hown1 hgrow _ _
    have e0 := (hgrow.cell_far ⟨w.heap.size, 0, none⟩ (by have := HBL.out; simp; omega) (Ne.symm NA.out)).trans a0
    have e1 := (hgrow.cell_far ⟨pw, 6, none⟩ (by have := HBL.out; simp; omega) (Ne.symm NB.out)).trans a1
    have e2 := (hgrow.frozen_far ⟨pw, 6, none⟩ (by have := HBL.out; simp; omega) (Ne.symm NB.out)).trans ((World.frozen?_of_block (a := ⟨pw, 6, none⟩) (Below.heap_alloc W3 _ pw HBL.out.2)).trans f2)
    have HOWN := Lib.hid hown1; have HGR := Lib.hid hgrow
    clear hown1 hgrow
    refine hK.out _ _ e0 (fun hHeld => ?_)
    clear hK K
    change wpAnyH _ _ _ _ _ _ _ (Act.put _ (some 30) _) _
    simp only [Act.put, List.setIfInBounds_toArray, List.set_cons_zero, List.set_cons_succ]
    refine takeH 8 (.pointer (some ⟨pw, 0, none⟩)) (some 31) rfl (by kernel_rfl) (by kernel_rfl) (by kernel_rfl) (fun _ _ _ h => h) (fun oi h => by obtain rfl := Option.some.inj h; rfl) (fun oi h W hS => by obtain rfl := Option.some.inj h; go_simp) hHeld ?_
    simp only [Act.put, List.setIfInBounds_toArray, List.set_cons_zero, List.set_cons_succ]
    refine takeH 9 (.pointer (some ⟨pw, 6, none⟩)) (some 32) rfl (by kernel_rfl) (by kernel_rfl) (by kernel_rfl) (fun _ _ _ h => h) (fun oi h => by obtain rfl := Option.some.inj h; rfl) (fun oi h W hS => by obtain rfl := Option.some.inj h; go_simp) hHeld ?_
    simp only [Act.put, List.setIfInBounds_toArray, List.set_cons_zero, List.set_cons_succ]
    refine wpAnyH_ready (rs := [10]) (by kernel_rfl) (by simp) ?_
    refine AllReadyH.cons (i := 10) rfl (fun K hK => ?_) AllReadyH.nil
    go_simp
    refine hK.out _ _ ((World.cell?_setCell_other _ _ _ _ (by simp)).trans e0) (fun _ => ?_)
    clear hK K
    refine wpAnyH_done (by kernel_rfl) ?_ _
    obtain ⟨x1, x2, x3⟩ := undo_end HM3.out HW2.out HPW.out.1 HPW.out.2.1 _ HOWN.out HGR.out
    have bW4 := x3.box HBW3.out hng.out.1 (by have := HPW.out; omega) (by decide)
    have bF4 := x3.box HBF3.out (by have := hgl.out; omega) (by have := hlt2.out; omega) (by decide)
    generalize w3.setCell _ _ = W4 at *
    have y0 := bW4.cell; have y1 := bF4.cell; have y2 := x2.cMem
    have X1 := Lib.hid x1; have X2 := Lib.hid x2; have X3 := Lib.hid (HG3.out.trans x3)
    clear x1 x2 x3 e0 e1 e2 HOWN HGR u2 f2 d0 a0 a1 bW4 bF4
    go_wp2_with fail
    go_region_held3 (fun w' => w'.cell? ⟨w.heap.size, 0, none⟩ = some (.pointer (some ⟨pw, 0, none⟩)) ∧ w'.cell? ⟨w2.heap.size, 0, none⟩ = some (.int .i64 (allocN n S.R : Nat)) ∧ w'.cell? ⟨pw, 0, none⟩ = some (.pointer (some ⟨p, 0, none⟩))) (first | exact ⟨y0, y1, y2⟩ | exact ⟨z0, z1, z2⟩ | go_keep)
      ((go_at_call 63; refine (write_fn (MemAt.drew X1.out) (allocN n S.R : Nat) 0 s (by have := HS.out; unfold maxLen; omega)).mono ?_; rintro e w5 ⟨rfl, hM5, hG5⟩; rw [HWE.out]; have z0 := hG5.cell y0 (by intro e; exact hng.out.1 (Option.some.inj e)); have z1 := hG5.cell y1 (by intro e; exact Nat.ne_of_gt hgl.out (Option.some.inj e)); have z2 := hG5.cell y2 (by intro e; exact hng.out.2 (Option.some.inj e)); have HM5 := Lib.hid hM5; have HG5 := Lib.hid (drew_grown hG5); clear hM5 hG5))
    have HM6 : Hid ((writS (alloS n S) (allocN n S.R) s.data.toList).at w5 p g n) := by have := HM5.out; rw [HWB.out] at this; exact this
    have HW6 := Lib.hid (X2.out.grown HG5.out HPW.out.1)
    have HG6 := Lib.hid (X3.out.trans (Wk.of_grown (pw := pw) HG5.out (Nat.le_of_lt X2.out.lt)))
    clear y0 y1 y2 z2 HM5
    go_wp2_with fail
    refine (mapPage_any HM6.out HW6.out HPW.out.1 HPW.out.2.1 HWK.out (by have := HK2.out; omega) page (allocN n S.R) flags HFL.out).mono ?_
    rintro e w7 ⟨rfl, z1, ⟨vU', k', us', hk', z2⟩, z3⟩
    have Z1 := Lib.hid z1; have Z2 := Lib.hid z2; have Z3 := Lib.hid (HG6.out.trans z3)
    clear z1 z2 z3
    go_wp2
    go_ret
    exact ⟨rfl, Z1.out, ⟨_, _, _, by omega, Z2.out⟩, Z3.out⟩
  · go_simp
    refine hK.out _ _ a0 (fun _ => ?_)
    clear hK K
    try simp only [Act.put, List.setIfInBounds_toArray, List.set_cons_zero, List.set_cons_succ]
    refine wpAnyH_ready (rs := [4]) (by kernel_rfl) (by simp) ?_
    refine AllReadyH.cons (i := 4) rfl (fun K hK => ?_) AllReadyH.nil
    go_simp
    refine hK.out _ _ a0 (fun _ => ?_)
    clear hK K
    try simp only [Act.put, List.setIfInBounds_toArray, List.set_cons_zero, List.set_cons_succ]
    refine wpAnyH_ready (rs := [7]) (by kernel_rfl) (by simp) ?_
    refine AllReadyH.cons (i := 7) rfl (fun K hK => ?_) AllReadyH.nil
    refine step_append_lies _ (by rfl) _ _ _ (by rfl) (pw + 1) 1 i0 _ 1 8 Try.underlying75 HI.out HZ0.out HZ1.out HZ2.out rfl (by omega) vU k us (by rfl) ((HW2.out.own.alloc _).drew) ⟨W3.heap.size, 0, none⟩ 1 1 [.func (.func 62) #[] #[.pointer (some ⟨w.heap.size, 0, none⟩), .pointer (some ⟨w2.heap.size, 0, none⟩)]] (by rfl) (by rfl) (World.news_of_block (cs := #[.func (.func 62) #[] #[.pointer (some ⟨w.heap.size, 0, none⟩), .pointer (some ⟨w2.heap.size, 0, none⟩)]]) (t := 1) (fr := (0, 0)) (heap_alloc_new W3 _)) (by simp [Value.oneCell']) (by omega) (by have := HK.out; unfold maxLen; omega) (by have := HK.out; omega) (by simp; have := HW2.out.lt; omega) (W3.heap.size + 1) (by simp) ?_
    intro gg cap w3 hown1 hgrow _ _
    have e0 := (hgrow.cell_far ⟨w.heap.size, 0, none⟩ (by have := HBL.out; simp; omega) (Ne.symm NA.out)).trans a0
    have e1 := (hgrow.cell_far ⟨pw, 6, none⟩ (by have := HBL.out; simp; omega) (Ne.symm NB.out)).trans a1
    have e2 := (hgrow.frozen_far ⟨pw, 6, none⟩ (by have := HBL.out; simp; omega) (Ne.symm NB.out)).trans ((World.frozen?_of_block (a := ⟨pw, 6, none⟩) (Below.heap_alloc W3 _ pw HBL.out.2)).trans f2)
    have HOWN := Lib.hid hown1; have HGR := Lib.hid hgrow
    clear hown1 hgrow
    refine hK.out _ _ e0 (fun hHeld => ?_)
    clear hK K
    change wpAnyH _ _ _ _ _ _ _ (Act.put _ (some 30) _) _
    simp only [Act.put, List.setIfInBounds_toArray, List.set_cons_zero, List.set_cons_succ]
    refine takeH 8 (.pointer (some ⟨pw, 0, none⟩)) (some 31) rfl (by kernel_rfl) (by kernel_rfl) (by kernel_rfl) (fun _ _ _ h => h) (fun oi h => by obtain rfl := Option.some.inj h; rfl) (fun oi h W hS => by obtain rfl := Option.some.inj h; go_simp) hHeld ?_
    simp only [Act.put, List.setIfInBounds_toArray, List.set_cons_zero, List.set_cons_succ]
    refine takeH 9 (.pointer (some ⟨pw, 6, none⟩)) (some 32) rfl (by kernel_rfl) (by kernel_rfl) (by kernel_rfl) (fun _ _ _ h => h) (fun oi h => by obtain rfl := Option.some.inj h; rfl) (fun oi h W hS => by obtain rfl := Option.some.inj h; go_simp) hHeld ?_
    simp only [Act.put, List.setIfInBounds_toArray, List.set_cons_zero, List.set_cons_succ]
    refine wpAnyH_ready (rs := [10]) (by kernel_rfl) (by simp) ?_
    refine AllReadyH.cons (i := 10) rfl (fun K hK => ?_) AllReadyH.nil
    go_simp
    refine hK.out _ _ ((World.cell?_setCell_other _ _ _ _ (by simp)).trans e0) (fun _ => ?_)
    clear hK K
    refine wpAnyH_done (by kernel_rfl) ?_ _
    obtain ⟨x1, x2, x3⟩ := undo_end HM3.out HW2.out HPW.out.1 HPW.out.2.1 _ HOWN.out HGR.out
    have bW4 := x3.box HBW3.out hng.out.1 (by have := HPW.out; omega) (by decide)
    have bF4 := x3.box HBF3.out (by have := hgl.out; omega) (by have := hlt2.out; omega) (by decide)
    generalize w3.setCell _ _ = W4 at *
    have y0 := bW4.cell; have y1 := bF4.cell; have y2 := x2.cMem
    have X1 := Lib.hid x1; have X2 := Lib.hid x2; have X3 := Lib.hid (HG3.out.trans x3)
    clear x1 x2 x3 e0 e1 e2 HOWN HGR u2 f2 d0 a0 a1 bW4 bF4
    go_wp2_with fail
    go_region_held3 (fun w' => w'.cell? ⟨w.heap.size, 0, none⟩ = some (.pointer (some ⟨pw, 0, none⟩)) ∧ w'.cell? ⟨w2.heap.size, 0, none⟩ = some (.int .i64 (allocN n S.R : Nat)) ∧ w'.cell? ⟨pw, 0, none⟩ = some (.pointer (some ⟨p, 0, none⟩))) (first | exact ⟨y0, y1, y2⟩ | exact ⟨z0, z1, z2⟩ | go_keep)
      ((go_at_call 63; refine (write_fn (MemAt.drew X1.out) (allocN n S.R : Nat) 0 s (by have := HS.out; unfold maxLen; omega)).mono ?_; rintro e w5 ⟨rfl, hM5, hG5⟩; rw [HWE.out]; have z0 := hG5.cell y0 (by intro e; exact hng.out.1 (Option.some.inj e)); have z1 := hG5.cell y1 (by intro e; exact Nat.ne_of_gt hgl.out (Option.some.inj e)); have z2 := hG5.cell y2 (by intro e; exact hng.out.2 (Option.some.inj e)); have HM5 := Lib.hid hM5; have HG5 := Lib.hid (drew_grown hG5); clear hM5 hG5))
    have HM6 : Hid ((writS (alloS n S) (allocN n S.R) s.data.toList).at w5 p g n) := by have := HM5.out; rw [HWB.out] at this; exact this
    have HW6 := Lib.hid (X2.out.grown HG5.out HPW.out.1)
    have HG6 := Lib.hid (X3.out.trans (Wk.of_grown (pw := pw) HG5.out (Nat.le_of_lt X2.out.lt)))
    clear y0 y1 y2 z2 HM5
    go_wp2_with fail
    refine (mapPage_any HM6.out HW6.out HPW.out.1 HPW.out.2.1 HWK.out (by have := HK2.out; omega) page (allocN n S.R) flags HFL.out).mono ?_
    rintro e w7 ⟨rfl, z1, ⟨vU', k', us', hk', z2⟩, z3⟩
    have Z1 := Lib.hid z1; have Z2 := Lib.hid z2; have Z3 := Lib.hid (HG6.out.trans z3)
    clear z1 z2 z3
    go_wp2
    go_ret
    exact ⟨rfl, Z1.out, ⟨_, _, _, by omega, Z2.out⟩, Z3.out⟩

set_option maxRecDepth 100000 in
set_option maxHeartbeats 4000000 in
theorem addPage_full (hm : S.at w p g n) (hw : WorkAt w pw p root t d h vA vU k us) (hgp : g < pw) (page flags : Nat) (s : ByteArray) (ha : allocF n S.R = none) :
    Calls Try.prog 49 #[.pointer (some ⟨pw, 0, none⟩), .int .i64 page, .int .i64 flags, .string s] w fun e w' => e = .returned (.int .i64 11) ∧
      S.at w' p g n ∧ WorkAt w' pw p root t d h vA vU k us ∧ Wk g pw w w' := by
  have w1 := hw.alloc (.cells #[.pointer (some ⟨pw, 0, none⟩)] 57)
  have HM1 : Hid (S.at (w.alloc (.cells #[.pointer (some ⟨pw, 0, none⟩)] 57)) p g n) := MemAt.alloc hm _
  have HG1 : Hid (Wk g pw w (w.alloc (.cells #[.pointer (some ⟨pw, 0, none⟩)] 57))) := (Wk.refl g pw w).alloc (Nat.le_of_lt hw.lt) _
  have HAE : Hid (allocE n S.R = 11) := by unfold Hid allocE; rw [ha]; rfl
  have HAR : Hid (allocR n S.R = S.R ∧ allocB n S.R S.B = S.B) := by unfold Hid allocR allocB; rw [ha]; exact ⟨rfl, rfl⟩
  have HGP := Lib.hid hgp
  have c2 := w1.cMem
  clear hm hw ha
  go_enter Try.func49, Try.ntmps49
  go_wp2_with fail
  generalize w.alloc (.cells #[.pointer (some ⟨pw, 0, none⟩)] 57) = W1 at *
  have HW1 := Lib.hid w1
  clear w1
  refine (alloc_fn HM1.out).mono ?_
  rintro e w2 ⟨rfl, hM2, hG2⟩
  rw [HAE.out]
  have HM2 : Hid (S.at w2 p g n) := by have := hM2; rw [HAR.out.1, HAR.out.2] at this; exact this
  have HW2 := Lib.hid (HW1.out.grown hG2 HGP.out)
  have HG2 := Lib.hid (HG1.out.trans (Wk.of_grown (pw := pw) hG2 (Nat.le_of_lt HW1.out.lt)))
  clear hM2 hG2 c2
  go_wp2
  go_ret
  exact ⟨rfl, MemAt.alloc HM2.out _, HW2.out.alloc _, HG2.out.trans (Wk.of_grown (World.grownBy_alloc _ _ _) (Nat.le_of_lt HW2.out.lt))⟩

/-- what a page more tells, and makes. -/
def pageE (n root : Nat) (S : PtS) (page flags : Nat) (s : List UInt8) : Int := if (allocF n S.R).isSome = true then (mapS n root (writS (alloS n S) (allocN n S.R) s) page (allocN n S.R : Nat) flags).1 else 11
def pageT (n root : Nat) (S : PtS) (page flags : Nat) (s : List UInt8) : PtS := if (allocF n S.R).isSome = true then pageS n root S page flags s else S

theorem pageT_ok (r : S.ok n root) (page flags : Nat) {s : List UInt8} (hs : s.length ≤ 64) : (pageT n root S page flags s).ok n root := by
  unfold pageT
  cases e : allocF n S.R with
  | none => exact r
  | some x =>
    obtain ⟨t1, t2, _⟩ := allocF_inv e
    obtain ⟨eA, eN, _⟩ := alloS_some e
    obtain ⟨ok1, k1⟩ := allo_ok r t2 t1
    rw [← eA] at ok1 k1
    show (pageS n root S page flags s).ok n root
    unfold pageS
    rw [eN]
    exact map_ok (writ_ok ok1 k1 hs) _ _ _

theorem addPage_any (hm : S.at w p g n) (hw : WorkAt w pw p root t d h vA vU k us) (hgp : g < pw) (hpp : p < pw) (hk : k ≤ 10000) (page flags : Nat) (s : ByteArray) (hfl : flags < 8) (hs : s.size ≤ 64) (r : S.ok n root) :
    Calls Try.prog 49 #[.pointer (some ⟨pw, 0, none⟩), .int .i64 page, .int .i64 flags, .string s] w fun e w' => e = .returned (.int .i64 (pageE n root S page flags s.data.toList)) ∧
      (pageT n root S page flags s.data.toList).at w' p g n ∧ (∃ vU' k' us', k' ≤ k + 2 ∧ WorkAt w' pw p root t d h vA vU' k' us') ∧ Wk g pw w w' := by
  unfold pageE pageT
  cases e : allocF n S.R with
  | none =>
    refine (addPage_full hm hw hgp page flags s e).mono ?_
    rintro e w' ⟨rfl, a, b, c⟩
    exact ⟨rfl, a, ⟨_, _, _, by omega, b⟩, c⟩
  | some x =>
    obtain ⟨t1, t2, _⟩ := allocF_inv e
    obtain ⟨eA, eN, eE⟩ := alloS_some e
    obtain ⟨ok1, k1⟩ := allo_ok r t2 t1
    rw [← eA] at ok1 k1
    have hR : allocR n S.R = updR S.R x 1 := congrArg PtS.R eA
    exact addPage_mid hm hw hgp hpp hk page flags s hfl hs eE (by rw [eN, hR]; simp [liveB, t1]) (by rw [eN]; exact writ_ok ok1 k1 (by rw [toList_length]; exact hs))

end
end Go.Proofs.Ytdkaaoboipphcaa
