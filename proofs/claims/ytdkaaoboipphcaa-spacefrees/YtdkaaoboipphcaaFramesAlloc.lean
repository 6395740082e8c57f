/- Package frames: Alloc, walked. -/
import Derived.Test.YtdkaaoboipphcaaFramesLeft
import Derived.Test.YtdkaaoboipphcaaFramesWipe
namespace Go.Proofs.Ytdkaaoboipphcaa
open Go.RowKit Go.Shelf

attribute [local go_sem] Oper.semAt_some

theorem grown_put {w w1 : World} {r : Option Nat} {D : Nat} {o : Obj} (h : w.grownBy w1 r) (hD : w.heap.size ≤ D) : w.grownBy (w1.putObj D o) r :=
  ⟨h.os, h.tape, h.output, by rw [World.putObj_size]; exact h.size, fun k hk hne => (World.putObj_heap_other (by omega)).trans (h.block k hk hne)⟩

section
variable {w : World} {p g n : Nat} {R : Nat → Int} {B : Nat → List UInt8}

set_option maxRecDepth 100000 in
set_option maxHeartbeats 1000000 in
theorem alloc_in (h : MemAt w p g n R B) :
    CallsIn Fence.wide 6 Try.prog 6 #[.pointer (some ⟨p, 0, none⟩)] w fun e W' =>
      ((∃ k : Nat, k < n ∧ R k = 0 ∧ (∀ j, j < k → 0 < R j) ∧ e = .returned (.tuple #[.int .i64 k, .int .i64 0]) ∧ MemAt W' p g n (updR R k 1) (updB B k zeroPage)) ∨
        ((∀ j, j < n → 0 < R j) ∧ e = .returned (.tuple #[.int .i64 0, .int .i64 11]) ∧ MemAt W' p g n R B)) ∧ w.grownBy W' (some g) := by
  have hn := h.hn
  have hpl := h.p_lt
  have hgl := h.g_lt
  refine callsIn_of_wp_marks Try.func6 rfl trivial ?_ rfl
  simp only [Try.ntmps6, List.size_toArray, List.length_cons, List.length_nil, Nat.reduceAdd, Nat.reduceSub, Array.replicate_succ, Array.replicate_zero, List.push_toArray, List.append_toArray, List.nil_append, List.cons_append]
  gi_wp2
  refine wpIn_scope' ?_
  gi_wp2
  refine wpIn_label ?_
  gi_wp2_with (refine ⟨trivial, ?_⟩; gi_at_call 13; refine (all_in _ _ _).mono ?_; rintro e w' ⟨rfl, rfl⟩)
  have bF := Boxed.new w 45 (.pointer none)
  have bK := Boxed.new (w.alloc (.cells #[.pointer none] 45)) 3 (.int .i64 0)
  have bN := Boxed.new ((w.alloc (.cells #[.pointer none] 45)).alloc (.cells #[.int .i64 0] 3)) 24 (.pointer (some ⟨p, 0, none⟩))
  simp only [World.size_alloc] at bK bN
  have hB0 : Below w.heap.size w (((w.alloc (.cells #[.pointer none] 45)).alloc (.cells #[.int .i64 0] 3)).alloc (.cells #[.pointer (some ⟨p, 0, none⟩)] 24)) := (((Below.refl _ w).alloc (Nat.le_refl _) _).alloc (by simp) _).alloc (by simp; omega) _
  refine wpIn_rangeFunc_ownG (F := Fence.wide) (n := 6) rfl (by omega) (gf := 29) (lb := #[.pointer (some ⟨w.heap.size + 1 + 1, 0, none⟩)]) rfl trivial (enters_of Try.func29 (by kernel_rfl) rfl)
    (all_stops 5 (by omega) (w.heap.size + 1 + 1) w.heap.size _ hpl (by simp) (h.below hB0) bN.cell) KpB.trans (KpB.put (by simp; omega) (by simp)) (Below.refl _ _) (fun _ => rfl)
    (fun pre W => ((∀ x ∈ pre, 0 < R x.1) ∧ (W.cell? ⟨w.heap.size, 0, none⟩ = some (.pointer none) ∧ W.frozen? ⟨w.heap.size, 0, none⟩ = false) ∧ (W.cell? ⟨w.heap.size + 1, 0, none⟩ = some (.int .i64 0) ∧ W.frozen? ⟨w.heap.size + 1, 0, none⟩ = false)) ∧ Below w.heap.size w W)
    (fun c pre W => (c = .exit 0 ∧ ∃ (ini : List (Fin n)) (last : Fin n), pre = ini ++ [last] ∧ (∀ x ∈ ini, 0 < R x.1) ∧ R last.1 ≤ 0 ∧ W.cell? ⟨w.heap.size, 0, none⟩ = some (.pointer (some ⟨g, last.1 * 65, none⟩)) ∧ W.cell? ⟨w.heap.size + 1, 0, none⟩ = some (.int .i64 (last.1 : Int))) ∧ Below w.heap.size w W)
    (OwnFrom.and (Own.from (fun s A B row hs hg hr => ⟨hs.1, ⟨cell_kept hs.2.1.1 hg hr, (frozen_kept hs.2.1.1 hg hr).trans hs.2.1.2⟩, ⟨cell_kept hs.2.2.1 hg hr, (frozen_kept hs.2.2.1 hg hr).trans hs.2.2.2⟩⟩) _) (ownFrom_below (Nat.le_refl _) (by simp; omega)))
    (fun c => OwnFrom.and (Own.from (fun s A B row hs hg hr => by obtain ⟨hc, ini, last, e1, e2, e3, e4, e5⟩ := hs; exact ⟨hc, ini, last, e1, e2, e3, cell_kept e4 hg hr, cell_kept e5 hg hr⟩) _) (ownFrom_below (Nat.le_refl _) (by simp; omega)))
    ⟨⟨by simp, ⟨((bF.alloc _).alloc _).cell, ((bF.alloc _).alloc _).frozen⟩, ⟨(bK.alloc _).cell, (bK.alloc _).frozen⟩⟩, hB0⟩
    (fun x => { tmps := #[.pointer (some ⟨p, 0, none⟩), undef, .int .i64 0, .int .i64 0, .pointer (some ⟨w.heap.size, 0, none⟩), .pointer (some ⟨w.heap.size + 1, 0, none⟩), .int .i64 (x.1 : Int), .pointer (some ⟨g, x.1 * 65, none⟩), .pointer (some ⟨p, 0, none⟩), .bool false, .pointer (some ⟨p, 0, none⟩), .func (.func 29) #[] #[.pointer (some ⟨w.heap.size + 1 + 1, 0, none⟩)], .int .i64 (x.1 : Int), .pointer (some ⟨g, x.1 * 65, none⟩), undef, undef, undef, undef, undef, undef, undef, undef, undef, undef, undef, undef, undef, undef, undef, undef], defers := [] }) ?assign ?body ?done ?stop
  case assign =>
    intro l x W K hK
    gi_wp2
    exact hK
  case body =>
    rintro l pre x W ⟨⟨hpos, ⟨hc, hf⟩, ⟨hc2, hf2⟩⟩, hB⟩ hlen
    have hx := (h.below hB).cellR x.2
    have HP := Lib.hid hpos; clear hpos
    by_cases hr : 0 < R x.1
    · have hd : decide (0 < R x.1) = true := by simpa using hr
      gi_wp2_with (refine ⟨trivial, ?_⟩; gi_at_call 14; refine (CallsIn.inRound l (callsIn_wide.2 (inUse_any _ _ _ _ hx))).mono ?_; rintro e w' ⟨rfl, rfl⟩; rw [hd])
      exact ⟨KeepsFrom.refl _ _, KpB.refl _ _ _, ⟨fun y hy => (List.mem_append.1 hy).elim (HP.out y) (fun e => by simp at e; subst e; exact hr), ⟨hc, hf⟩, ⟨hc2, hf2⟩⟩, hB⟩
    · have hd : decide (0 < R x.1) = false := by simpa using hr
      gi_wp2_with (refine ⟨trivial, ?_⟩; gi_at_call 14; refine (CallsIn.inRound l (callsIn_wide.2 (inUse_any _ _ _ _ hx))).mono ?_; rintro e w' ⟨rfl, rfl⟩; rw [hd])
      exact ⟨((KeepsOthers.setCell _ _ _).trans (KeepsOthers.setCell _ _ _)).from _, ⟨rfl, pre, x, rfl, HP.out, by omega, World.cell?_setCell_same' _ _ _ (by rw [World.cell?_setCell_other _ _ _ _ (by simp), hc]; rfl), by rw [World.cell?_setCell_other _ _ _ _ (by simp)]; exact World.cell?_setCell_same' _ _ _ (by rw [hc2]; rfl)⟩, (hB.setCell (p := ⟨w.heap.size + 1, 0, none⟩) (by simp) _).setCell (p := ⟨w.heap.size, 0, none⟩) (Nat.le_refl _) _⟩
  case done =>
    rintro D ys W hD hys ⟨⟨hpos, ⟨hc, hf⟩, ⟨hc2, hf2⟩⟩, hB⟩ hK
    have HP := Lib.hid hpos; clear hpos
    have HY := Lib.hid hys; clear hys
    gi_wp2
    rw [Exit.noGoto_ret]
    refine ⟨by simp, .inl ⟨_, _, rfl, run_takeDeferred hK, ?_⟩⟩
    have hBD : Below w.heap.size w (W.putObj D (.deferred none)) := hB.trans (belowK_b (w := w) (Nat.le_refl _) W D _ _ (by simp at hD; omega) hK rfl rfl)
    refine ⟨_, results_tmp2 rfl _ _ _, .inr ⟨?_, rfl, h.below hBD⟩, grown_of_below hBD _⟩
    intro j hj
    have : j ∈ ys.map Fin.val := by rw [HY.out]; exact List.mem_range.2 hj
    obtain ⟨x, hx, rfl⟩ := List.mem_map.1 this
    exact HP.out x hx
  case stop =>
    rintro D c pre W hD ⟨k, hk, hpre⟩ ⟨⟨rfl, ini, last, e1, e2, e3, e4, e5⟩, hB⟩ hK
    have hM := h.below hB
    have hDl : w.heap.size ≤ D := by simp at hD; omega
    have hDg : D ≠ g := by omega
    have hlast : Hid (∀ j, j < last.1 → 0 < R j) := by
      intro j hj
      rw [e1, List.map_append] at hpre
      have hl : ini.length + 1 = k := by have := congrArg List.length hpre; simpa using this
      have hk' : List.range k = List.range ini.length ++ [ini.length] := by rw [← hl, List.range_succ]
      rw [hk'] at hpre
      obtain ⟨h1, h2⟩ := List.append_inj hpre (by simp)
      have h3 : last.1 = ini.length := by simpa using h2
      have : j ∈ ini.map Fin.val := by rw [h1]; exact List.mem_range.2 (by omega)
      obtain ⟨x, hx, rfl⟩ := List.mem_map.1 this
      exact e2 x hx
    have hR0 := (h.hR last.1 last.2).1
    have HR : Hid (R last.1 = 0) := by unfold Hid; omega
    clear hpre e1 e2 hk
    gi_wp2_with fail
    refine ⟨trivial, callsIn_wide.2 ((wipe_any hM last.1 last.2).mono ?_)⟩
    rintro e W1 ⟨rfl, hM1, hG1⟩
    have hDs : D < W.heap.size := (Array.getElem?_eq_some_iff.1 hK).1
    have hK1 := (hG1.block D hDs (fun e => hDg (Option.some.inj e))).trans hK
    have e41 := hG1.cell e4 (by simp; omega)
    have e51 := hG1.cell e5 (by simp; omega)
    have hc1 := hM1.cellR last.2
    have hf1 := hM1.frozen (last.1 * 65)
    have HG1 := Lib.hid hG1
    have HK1 := Lib.hid hK1
    clear hG1 hK hK1 e4 e5
    gi_wp2_with fail
    refine ⟨trivial, callsIn_wide.2 ((share_any _ _ _ _ hc1 hf1 hR0 (h.hR last.1 last.2).2).mono ?_)⟩
    rintro e W2 ⟨rfl, rfl⟩
    have e52 : (W1.setCell ⟨g, last.1 * 65, none⟩ (.int .i64 (R last.1 + 1))).cell? ⟨w.heap.size + 1, 0, none⟩ = some (.int .i64 (last.1 : Int)) := by
      rw [World.cell?_setCell_other _ _ _ _ (by intro e; injection e; omega)]; exact e51
    have hK2 : (W1.setCell ⟨g, last.1 * 65, none⟩ (.int .i64 (R last.1 + 1))).heap[D]? = some (.deferred (some [])) := by
      rw [heap_setCell_other _ _ _ _ hDg]; exact HK1.out
    have HK2 := Lib.hid hK2; clear hK2
    have hM2 := hM1.setR last.2 (r := R last.1 + 1) (by omega) (by rw [HR.out]; omega)
    have HM2 := Lib.hid hM2; clear hM2
    have HG2 := Lib.hid (grown_trans HG1.out (grown_setCell W1 g (last.1 * 65) (.int .i64 (R last.1 + 1))))
    gi_wp2
    rw [Exit.noGoto_ret]
    refine ⟨by simp, .inl ⟨_, _, rfl, run_takeDeferred HK2.out, ?_⟩⟩
    refine ⟨_, results_tmp2 rfl _ _ _, .inl ⟨last.1, last.2, HR.out, hlast.out, rfl, ?_⟩, grown_put (grown_trans (grown_of_below hB _) HG2.out) hDl⟩
    have h3 := HM2.out.keep (w' := (W1.setCell ⟨g, last.1 * 65, none⟩ (.int .i64 (R last.1 + 1))).putObj D (.deferred none)) (World.putObj_heap_other (by omega)) (World.putObj_heap_other (by omega))
    rw [HR.out] at h3
    rw [HR.out]
    exact h3

theorem alloc_mem (h : MemAt w p g n R B) :
    Calls Try.prog 6 #[.pointer (some ⟨p, 0, none⟩)] w fun e W' =>
      ((∃ k : Nat, k < n ∧ R k = 0 ∧ (∀ j, j < k → 0 < R j) ∧ e = .returned (.tuple #[.int .i64 k, .int .i64 0]) ∧ MemAt W' p g n (updR R k 1) (updB B k zeroPage)) ∨
        ((∀ j, j < n → 0 < R j) ∧ e = .returned (.tuple #[.int .i64 0, .int .i64 11]) ∧ MemAt W' p g n R B)) ∧ w.grownBy W' (some g) := callsIn_wide.1 (alloc_in h)

set_option maxHeartbeats 400000 in
theorem alloc_nil (w : World) : Calls Try.prog 6 #[.pointer none] w fun e w' => e = .returned (.tuple #[.int .i64 0, .int .i64 1]) ∧ w = w' := by
  go_enter Try.func6, Try.ntmps6
  go_wp2
  go_step3
  go_wp2
  rw [Exit.noGoto_ret]
  go_ret2
  exact ⟨rfl, rfl⟩

end
end Go.Proofs.Ytdkaaoboipphcaa
