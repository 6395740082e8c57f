/- Package files: keep, walked. -/
import Derived.Test.YtfgigofmmapbmaaFiOps
namespace Go.Proofs.Ytfgigofmmapbmaa
open Go.RowKit Go.MapKept

section
variable {w : World} {p : Nat} {m : Option Nat} {F : List OF} {D : List (Int × Fds)}

set_option maxRecDepth 100000 in
set_option maxHeartbeats 2000000 in
theorem keep_any (h : FM w p m F D) (P : Int) {r : Fds} (hr : r.length = 8) : Calls Try.prog 35 #[.pointer (some ⟨p, 0, none⟩), .int .i64 P, rowV r] w fun e w' => e = .returned (.tuple #[]) ∧ ∃ m', FM w' p m' F (keepD D P r) ∧ MvF p m m' w w' := by
  have heq : ∀ w : World, (binOp .eql 73 (rowV r) (rowV zero8)).run Try.prog w = .ok (.bool (decide (r = zero8))) w := fun w => eql_row hr rfl
  have HR := Lib.hid hr
  have hmm := @run_makeMap Try.prog
  obtain ⟨B, hB⟩ : ∃ B, rowV r = .agg B ∧ B.size = 8 := ⟨_, rfl, by simp [hr]⟩
  have h1 := h.alloc (.cells B 73)
  have hm1 : MvF p m m w (w.alloc (.cells B 73)) := (MvF.refl w).alloc _
  have HB := Lib.hid hB.1
  have hsz : (w.alloc (.cells B 73)).heap.size = w.heap.size + 1 := by simp
  have hp1 := h.p_lt
  by_cases hz : r = zero8
  · have hd : decide (r = zero8) = true := by simpa using hz
    have hk : keepD D P r = delD D P := by unfold keepD; rw [if_pos hz]
    obtain ⟨w2, hdel, hF2, hM2⟩ := h1.delete P 0
    have cm := h1.cm
    rw [hk]
    have H2 := Lib.hid hF2; have M2 := Lib.hid (hm1.trans hM2)
    rw [hd] at heq
    clear hz hd hk hr hF2 hM2 hm1 h1 h
    obtain ⟨a0, a1, a2, a3, a4, a5, a6, a7, rfl⟩ := eight HR.out
    obtain ⟨hB, -⟩ := hB
    unfold rowV at hB
    cases hB
    unfold rowV zero8 at *
    simp only [List.map_cons, List.map_nil] at *
    go_enter Try.func35, Try.ntmps35
    go_wp2
    refine bodyPost_ret (results_none rfl _ _ _) rfl ?_
    exact ⟨rfl, m, H2.out, M2.out⟩
  · have hd : decide (r = zero8) = false := by simpa using hz
    have hk : keepD D P r = setD D P r := by unfold keepD; rw [if_neg hz]
    rw [hk]
    rw [hd] at heq
    cases m with
    | some b =>
      obtain ⟨w2, hst, hF2, hM2⟩ := (h1.heap (w' := (w.alloc (.cells B 73)).drew) rfl).store P hr
      have cm := h1.cm
      have H2 := Lib.hid hF2; have M2 := Lib.hid (hm1.trans hM2.drew)
      have bx := BoxA.new w 73 B
      clear hz hd hk hr hF2 hM2 hm1 h1 h
      obtain ⟨a0, a1, a2, a3, a4, a5, a6, a7, rfl⟩ := eight HR.out
      obtain ⟨hB, -⟩ := hB
      unfold rowV at hB
      cases hB
      unfold rowV zero8 at *
      simp only [List.map_cons, List.map_nil] at *
      have c0 := bx.at 0 rfl; have c1 := bx.at 1 rfl; have c2 := bx.at 2 rfl; have c3 := bx.at 3 rfl
      have c4 := bx.at 4 rfl; have c5 := bx.at 5 rfl; have c6 := bx.at 6 rfl; have c7 := bx.at 7 rfl
      clear bx
      have qT : ∀ (w : World), (binOp .eql 60 (.map (some b)) (.map none)).run Try.prog w = .ok (.bool false) w := fun w => run_eql_map_nil w _ _ _ _ Try.underlying60
      go_enter Try.func35, Try.ntmps35
      go_wp2
      generalize (w.alloc _) = W2 at *
      go_still_tail 6, (by kernel_rfl)
      change wpList _ _ _ _ _ W2.drew
      go_wp2
      refine bodyPost_end (results_none rfl _ _ _) rfl ?_
      exact ⟨rfl, _, H2.out, M2.out⟩
    | none =>
      have h2 := h1.alloc (.map #[] 0)
      have hn2 : ((w.alloc (.cells B 73)).alloc (.map #[] 0)).heap[w.heap.size + 1]? = some (.map #[] 0) := by
        have := heap_alloc_new (w.alloc (.cells B 73)) (.map #[] 0)
        rwa [World.size_alloc] at this
      have h3 := h2.setMap hn2
      obtain ⟨w2, hst, hF2, hM2⟩ := (h3.heap (w' := (((w.alloc (.cells B 73)).alloc (.map #[] 0)).setCell ⟨p, 96, none⟩ (.map (some (w.heap.size + 1)))).drew) rfl).store P hr
      have cm := h1.cm
      have cm2 := h2.cm
      have cf2 := h2.f 96
      have cm3 := h3.cm
      have hM3 : MvF p none (some (w.heap.size + 1)) w (((w.alloc (.cells B 73)).alloc (.map #[] 0)).setCell ⟨p, 96, none⟩ (.map (some (w.heap.size + 1)))) := by
        have := (hm1.alloc (.map #[] 0)).set 96 (.map (some (w.heap.size + 1)))
        exact ⟨this.os, this.tape, this.output, this.size, this.block, fun k e => .inr (by cases e; omega), fun k e => (by cases e)⟩
      have H2 := Lib.hid hF2; have M2 := Lib.hid (hM3.trans hM2.drew)
      have bx := ((BoxA.new w 73 B).alloc (.map #[] 0)).setOther (q := p) 96 (.map (some (w.heap.size + 1))) (by omega)
      have hW : (((w.alloc (.cells B 73)).alloc (.map #[] 0)).setCell ⟨p, 96, none⟩ (.map (some (w.heap.size + 1)))) = ((w.setCell ⟨p, 96, none⟩ (.map (some (w.heap.size + 1)))).alloc (.cells B 73)).alloc (.map #[] 0) := by
        rw [World.setCell_alloc_past _ _ _ _ (by simp; omega), World.setCell_alloc_past _ _ _ _ hp1]
      rw [hW] at hst cm3 bx
      clear hz hd hk hr hF2 hM2 hm1 h1 h h2 hn2 h3 hM3 hW
      obtain ⟨a0, a1, a2, a3, a4, a5, a6, a7, rfl⟩ := eight HR.out
      obtain ⟨hB, -⟩ := hB
      unfold rowV at hB
      cases hB
      unfold rowV zero8 at *
      simp only [List.map_cons, List.map_nil] at *
      have c0 := bx.at 0 rfl; have c1 := bx.at 1 rfl; have c2 := bx.at 2 rfl; have c3 := bx.at 3 rfl
      have c4 := bx.at 4 rfl; have c5 := bx.at 5 rfl; have c6 := bx.at 6 rfl; have c7 := bx.at 7 rfl
      clear bx
      have qT : ∀ (w : World), (binOp .eql 60 (.map none) (.map none)).run Try.prog w = .ok (.bool true) w := fun w => run_eql_map_nil w _ _ _ none Try.underlying60
      go_enter Try.func35, Try.ntmps35
      go_wp2
      generalize ((World.setCell _ _ _).alloc _).alloc _ = W2 at *
      go_still_tail 6, (by kernel_rfl)
      change wpList _ _ _ _ _ W2.drew
      go_wp2
      refine bodyPost_end (results_none rfl _ _ _) rfl ?_
      exact ⟨rfl, _, H2.out, M2.out⟩
end
end Go.Proofs.Ytfgigofmmapbmaa
