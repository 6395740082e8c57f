/- Package frames: Left, walked. -/
import Derived.Test.YtdkaaoboipphcaaFramesAll
namespace Go.Proofs.Ytdkaaoboipphcaa
open Go.RowKit Go.Shelf

attribute [local go_sem] Oper.semAt_some

/-- how many of these frames are not in use. -/
def freeL (R : Nat → Int) (l : List Nat) : Nat := (l.filter fun k => !decide (0 < R k)).length
def leftN (n : Nat) (R : Nat → Int) : Nat := freeL R (List.range n)
theorem freeL_snoc (R : Nat → Int) (l : List Nat) (k : Nat) : freeL R (l ++ [k]) = freeL R l + if 0 < R k then 0 else 1 := by
  unfold freeL
  rw [List.filter_append, List.length_append]
  by_cases h : 0 < R k <;> simp [h]
theorem freeL_le (R : Nat → Int) (l : List Nat) : freeL R l ≤ l.length := List.length_filter_le _ _

section
variable {w : World} {p g n : Nat} {R : Nat → Int} {B : Nat → List UInt8}

set_option maxRecDepth 100000 in
set_option maxHeartbeats 1000000 in
theorem left_in (h : MemAt w p g n R B) :
    CallsIn Fence.wide 6 Try.prog 12 #[.pointer (some ⟨p, 0, none⟩)] w fun e W' => e = .returned (.int .i64 (leftN n R : Nat)) ∧ Below w.heap.size w W' := by
  have hn := h.hn
  have hpl := h.p_lt
  refine callsIn_of_wp_marks Try.func12 rfl trivial ?_ rfl
  simp only [Try.ntmps12, List.size_toArray, List.length_cons, List.length_nil, Nat.reduceAdd, Nat.reduceSub, Array.replicate_succ, Array.replicate_zero, List.push_toArray, List.append_toArray, List.nil_append, List.cons_append]
  gi_wp2_with (refine ⟨trivial, ?_⟩; gi_at_call 13; refine (all_in _ _ _).mono ?_; rintro e w' ⟨rfl, rfl⟩)
  have bS := Boxed.new w 3 (.int .i64 0)
  have bN := Boxed.new (w.alloc (.cells #[.int .i64 0] 3)) 24 (.pointer (some ⟨p, 0, none⟩))
  rw [World.size_alloc] at bN
  have hB0 : Below w.heap.size w ((w.alloc (.cells #[.int .i64 0] 3)).alloc (.cells #[.pointer (some ⟨p, 0, none⟩)] 24)) := ((Below.refl _ w).alloc (Nat.le_refl _) _).alloc (by simp) _
  refine wpIn_rangeFunc_ownG (F := Fence.wide) (n := 6) rfl (by omega) (gf := 29) (lb := #[.pointer (some ⟨w.heap.size + 1, 0, none⟩)]) rfl trivial (enters_of Try.func29 (by kernel_rfl) rfl)
    (all_stops 5 (by omega) (w.heap.size + 1) w.heap.size _ hpl (by simp) (h.below hB0) bN.cell) KpB.trans (KpB.put (by simp; omega) (by simp)) (Below.refl _ _) (fun _ => rfl)
    (fun pre W => (W.cell? ⟨w.heap.size, 0, none⟩ = some (.int .i64 (freeL R (pre.map Fin.val) : Nat)) ∧ W.frozen? ⟨w.heap.size, 0, none⟩ = false) ∧ Below w.heap.size w W)
    (fun _ _ _ => False)
    (OwnFrom.and (Own.from (fun s A B row hs hg hr => ⟨cell_kept hs.1 hg hr, (frozen_kept hs.1 hg hr).trans hs.2⟩) _) (ownFrom_below (Nat.le_refl _) (by simp; omega)))
    (fun _ _ _ _ _ hs _ _ => hs)
    ⟨⟨(bS.alloc _).cell, (bS.alloc _).frozen⟩, hB0⟩
    (fun x => { tmps := #[.pointer (some ⟨p, 0, none⟩), undef, .int .i64 0, .pointer (some ⟨w.heap.size, 0, none⟩), undef, .pointer (some ⟨g, x.1 * 65, none⟩), .pointer (some ⟨p, 0, none⟩), .func (.func 29) #[] #[.pointer (some ⟨w.heap.size + 1, 0, none⟩)], .int .i64 (x.1 : Int), .pointer (some ⟨g, x.1 * 65, none⟩), undef, undef, undef, undef, undef, undef, undef, undef], defers := [] }) ?assign ?body ?done ?stop
  case assign =>
    intro l x W K hK
    gi_wp2
    exact hK
  case body =>
    rintro l pre x W ⟨⟨hc, hf⟩, hB⟩ hlen
    have hx := (h.below hB).cellR x.2
    have hfl := freeL_le R (pre.map Fin.val)
    rw [List.length_map] at hfl
    have HS := Lib.hid (freeL_snoc R (pre.map Fin.val) x.1)
    have hlen2 : pre.length < 256 := by omega
    generalize hF : freeL R (pre.map Fin.val) = F0 at *
    have HF := Lib.hid hF; clear hF
    by_cases hr : 0 < R x.1
    · have hd : decide (0 < R x.1) = true := by simpa using hr
      gi_wp2_with (refine ⟨trivial, ?_⟩; gi_at_call 14; refine (CallsIn.inRound l (callsIn_wide.2 (inUse_any _ _ _ _ hx))).mono ?_; rintro e w' ⟨rfl, rfl⟩; rw [hd])
      exact ⟨KeepsFrom.refl _ _, KpB.refl _ _ _, ⟨by rw [List.map_append]; show _ = some (Value.int .i64 ((freeL R (pre.map Fin.val ++ [x.1]) : Nat) : Int)); rw [HS.out, if_pos hr]; exact hc, hf⟩, hB⟩
    · have hd : decide (0 < R x.1) = false := by simpa using hr
      gi_wp2_with (refine ⟨trivial, ?_⟩; gi_at_call 14; refine (CallsIn.inRound l (callsIn_wide.2 (inUse_any _ _ _ _ hx))).mono ?_; rintro e w' ⟨rfl, rfl⟩; rw [hd])
      exact ⟨(KeepsOthers.setCell _ _ _).from _, (KpB.refl _ _ _).set _ (Nat.le_refl _) (by omega), ⟨by rw [List.map_append]; show _ = some (Value.int .i64 ((freeL R (pre.map Fin.val ++ [x.1]) : Nat) : Int)); rw [HS.out, if_neg (by omega)]; exact World.cell?_setCell_same' _ _ _ (by rw [hc]; rfl), by rw [World.frozen?_setCell]; exact hf⟩, hB.setCell (p := ⟨w.heap.size, 0, none⟩) (Nat.le_refl _) _⟩
  case done =>
    rintro D ys W hD hys ⟨⟨hc, _⟩, hB⟩ hK
    rw [hys] at hc
    have HY := Lib.hid hys; clear hys
    gi_wp2
    refine ⟨by simp, .inl ⟨_, _, rfl, run_takeDeferred hK, ?_⟩⟩
    exact ⟨_, results_tmp rfl _ _ _, rfl, hB.trans (belowK_b (w := w) (Nat.le_refl _) W D _ _ (by simp at hD; omega) hK rfl rfl)⟩
  case stop =>
    rintro D c pre W _ _ h _
    exact h.elim

theorem left_any (h : MemAt w p g n R B) :
    Calls Try.prog 12 #[.pointer (some ⟨p, 0, none⟩)] w fun e W' => e = .returned (.int .i64 (leftN n R : Nat)) ∧ Below w.heap.size w W' := callsIn_wide.1 (left_in h)

set_option maxRecDepth 100000 in
set_option maxHeartbeats 1000000 in
theorem left_nil_in (w : World) :
    CallsIn Fence.wide 6 Try.prog 12 #[.pointer none] w fun e W' => e = .returned (.int .i64 0) ∧ Below w.heap.size w W' := by
  refine callsIn_of_wp_marks Try.func12 rfl trivial ?_ rfl
  simp only [Try.ntmps12, List.size_toArray, List.length_cons, List.length_nil, Nat.reduceAdd, Nat.reduceSub, Array.replicate_succ, Array.replicate_zero, List.push_toArray, List.append_toArray, List.nil_append, List.cons_append]
  gi_wp2_with (refine ⟨trivial, ?_⟩; gi_at_call 13; refine (all_in _ _ _).mono ?_; rintro e w' ⟨rfl, rfl⟩)
  have bS := Boxed.new w 3 (.int .i64 0)
  have bN := Boxed.new (w.alloc (.cells #[.int .i64 0] 3)) 24 (.pointer none)
  rw [World.size_alloc] at bN
  have hB0 : Below w.heap.size w ((w.alloc (.cells #[.int .i64 0] 3)).alloc (.cells #[.pointer none] 24)) := ((Below.refl _ w).alloc (Nat.le_refl _) _).alloc (by simp) _
  refine wpIn_rangeFunc_ownG (F := Fence.wide) (n := 6) rfl (by omega) (gf := 29) (lb := #[.pointer (some ⟨w.heap.size + 1, 0, none⟩)]) rfl trivial (enters_of Try.func29 (by kernel_rfl) rfl)
    (all_stops_nil (g := 0) 5 (by omega) (w.heap.size + 1) w.heap.size _ (by simp) bN.cell) KpB.trans (KpB.put (by simp; omega) (by simp)) (Below.refl _ _) (fun _ => rfl)
    (fun _ W => (W.cell? ⟨w.heap.size, 0, none⟩ = some (.int .i64 0) ∧ W.frozen? ⟨w.heap.size, 0, none⟩ = false) ∧ Below w.heap.size w W)
    (fun _ _ _ => False)
    (OwnFrom.and (Own.from (fun s A B row hs hg hr => ⟨cell_kept hs.1 hg hr, (frozen_kept hs.1 hg hr).trans hs.2⟩) _) (ownFrom_below (Nat.le_refl _) (by simp; omega)))
    (fun _ _ _ _ _ hs _ _ => hs)
    ⟨⟨(bS.alloc _).cell, (bS.alloc _).frozen⟩, hB0⟩
    (fun x => { tmps := #[.pointer none, undef, .int .i64 0, .pointer (some ⟨w.heap.size, 0, none⟩), undef, .pointer (some ⟨0, x.1 * 65, none⟩), .pointer none, .func (.func 29) #[] #[.pointer (some ⟨w.heap.size + 1, 0, none⟩)], .int .i64 (x.1 : Int), .pointer (some ⟨0, x.1 * 65, none⟩), undef, undef, undef, undef, undef, undef, undef, undef], defers := [] }) ?assign ?body ?done ?stop
  case assign =>
    intro l x W K hK
    exact absurd x.2 (by omega)
  case body =>
    rintro l pre x W _ hlen
    exact absurd x.2 (by omega)
  case done =>
    rintro D ys W hD hys ⟨⟨hc, _⟩, hB⟩ hK
    gi_wp2
    refine ⟨by simp, .inl ⟨_, _, rfl, run_takeDeferred hK, ?_⟩⟩
    exact ⟨_, results_tmp rfl _ _ _, rfl, hB.trans (belowK_b (w := w) (Nat.le_refl _) W D _ _ (by simp at hD; omega) hK rfl rfl)⟩
  case stop =>
    rintro D c pre W _ _ h _
    exact h.elim

theorem left_nil (w : World) :
    Calls Try.prog 12 #[.pointer none] w fun e W' => e = .returned (.int .i64 0) ∧ Below w.heap.size w W' := callsIn_wide.1 (left_nil_in w)

end
end Go.Proofs.Ytdkaaoboipphcaa
