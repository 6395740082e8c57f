/- Package space: Free, of a number of pages that may be, walked. -/
import Derived.Test.YtdkaaoboipphcaaSpFree
import Derived.Test.YtdkaaoboipphcaaSpAdd
namespace Go.Proofs.Ytdkaaoboipphcaa
open Go.RowKit Go.Shelf

attribute [local go_sem] Oper.semAt_some

section
variable {w : World}

set_option maxRecDepth 100000 in
set_option maxHeartbeats 8000000 in
theorem free_in (r t d h : Int) (a : Option Addr) (len cap : Nat) (al : List AttV) (count : Nat) (h1 : 1 ≤ count) (h2 : count ≤ 112) (hlen : al.length ≤ 1000) (ha : AttsAt w (.slice a len cap) al) :
    CallsIn Fence.wide 6 Try.prog 11 #[.agg #[.int .i64 r, .int .i64 t, .int .i64 d, .int .i64 h, .slice a len cap], .int .i64 count] w fun e w' =>
      ((∃ k, k < 113 - count ∧ e = .returned (.int .i64 ((128 + k : Nat) : Int)) ∧ al.any (hitA (128 + k) count) = false ∧ ∀ j, j < k → al.any (hitA (128 + j) count) = true) ∨ (e = .returned (.int .i64 0) ∧ ∀ j, j < 113 - count → al.any (hitA (128 + j) count) = true)) ∧ Below w.heap.size w w' := by
  have HA := Lib.hid ha; clear ha
  refine callsIn_of_wp_marks Try.func11 rfl trivial ?_ rfl
  simp only [Try.ntmps11, List.size_toArray, List.length_cons, List.length_nil, Nat.reduceAdd, Nat.reduceSub, Array.replicate_succ, Array.replicate_zero, List.push_toArray, List.append_toArray, List.nil_append, List.cons_append]
  gi_wp2
  refine wpIn_scope' ?_
  have hnew := heap_alloc_new ((w.alloc (.cells #[.int .i64 r, .int .i64 t, .int .i64 d, .int .i64 h, .slice a len cap] 32)).alloc (.cells #[.int .i64 count] 3)) (.cells #[.int .i64 count] 3)
  rw [World.size_alloc, World.size_alloc] at hnew
  gi_wp2_with fail
  refine ⟨trivial, callsIn_wide.2 ((within_true _ _ _ 1 (fun _ => (count : Int)) 1 112 (by omega) (fun j hj => ?_)).mono ?_)⟩
  · obtain rfl : j = 0 := by omega
    exact ⟨cell_of_heap hnew rfl, by omega, by omega⟩
  rintro e w' ⟨rfl, rfl⟩
  clear hnew
  have bS : (((w.alloc (.cells #[.int .i64 r, .int .i64 t, .int .i64 d, .int .i64 h, .slice a len cap] 32)).alloc (.cells #[.int .i64 count] 3)).alloc (.cells #[.int .i64 count] 3)).heap[w.heap.size]? = some (.cells #[.int .i64 r, .int .i64 t, .int .i64 d, .int .i64 h, .slice a len cap] 32 (0, 0)) :=
    (Below.heap_alloc _ _ _ (by simp; omega)).trans ((Below.heap_alloc _ _ _ (by simp)).trans (heap_alloc_new w _))
  have bC := (Boxed.new (w.alloc (.cells #[.int .i64 r, .int .i64 t, .int .i64 d, .int .i64 h, .slice a len cap] 32)) 3 (.int .i64 count)).alloc (.cells #[.int .i64 count] 3)
  rw [World.size_alloc] at bC
  have hB1 : Below w.heap.size w (((w.alloc (.cells #[.int .i64 r, .int .i64 t, .int .i64 d, .int .i64 h, .slice a len cap] 32)).alloc (.cells #[.int .i64 count] 3)).alloc (.cells #[.int .i64 count] 3)) := (((Below.refl _ w).alloc (Nat.le_refl _) _).alloc (by simp) _).alloc (by simp; omega) _
  have HS1 : Hid ((((w.alloc (.cells #[.int .i64 r, .int .i64 t, .int .i64 d, .int .i64 h, .slice a len cap] 32)).alloc (.cells #[.int .i64 count] 3)).alloc (.cells #[.int .i64 count] 3)).heap.size = w.heap.size + 3) := by unfold Hid; simp
  generalize (((w.alloc (.cells #[.int .i64 r, .int .i64 t, .int .i64 d, .int .i64 h, .slice a len cap] 32)).alloc (.cells #[.int .i64 count] 3)).alloc (.cells #[.int .i64 count] 3)) = W1 at *
  gi_wp2
  refine wpIn_label ?_
  have p0 := cell_allocL (.cells #[.int .i64 0] 3) bC.cell
  gi_wp2_with (refine ⟨trivial, ?_⟩; gi_at_call 27; refine (pagesFrom_in _ _ _ _).mono ?_; rintro e w' ⟨rfl, rfl⟩)
  have bF := (Boxed.new (W1.alloc (.cells #[.int .i64 0] 3)) 3 (.int .i64 128)).alloc (.cells #[.int .i64 ((112 : Int) - (count : Int) + 1)] 3)
  have bN := Boxed.new ((W1.alloc (.cells #[.int .i64 0] 3)).alloc (.cells #[.int .i64 128] 3)) 3 (.int .i64 ((112 : Int) - (count : Int) + 1))
  have b1 := ((Boxed.new W1 3 (.int .i64 0)).alloc (.cells #[.int .i64 128] 3)).alloc (.cells #[.int .i64 ((112 : Int) - (count : Int) + 1)] 3)
  rw [World.size_alloc] at bF
  rw [World.size_alloc, World.size_alloc] at bN
  have hcc : (((W1.alloc (.cells #[.int .i64 0] 3)).alloc (.cells #[.int .i64 128] 3)).alloc (.cells #[.int .i64 ((112 : Int) - (count : Int) + 1)] 3)).cell? ⟨W1.heap.size + 1 + 1, 0, none⟩ = some (.int .i64 ((113 - count : Nat) : Int)) := by rw [show ((113 - count : Nat) : Int) = (112 : Int) - (count : Int) + 1 by omega]; exact bN.cell
  have hbl : w.heap.size < W1.heap.size := (Array.getElem?_eq_some_iff.1 bS).1
  have bS2 : (((W1.alloc (.cells #[.int .i64 0] 3)).alloc (.cells #[.int .i64 128] 3)).alloc (.cells #[.int .i64 ((112 : Int) - (count : Int) + 1)] 3)).heap[w.heap.size]? = some (.cells #[.int .i64 r, .int .i64 t, .int .i64 d, .int .i64 h, .slice a len cap] 32 (0, 0)) := (Below.heap_alloc _ _ _ (by simp; omega)).trans ((Below.heap_alloc _ _ _ (by simp; omega)).trans ((Below.heap_alloc _ _ _ hbl).trans bS))
  have bC2 := ((bC.alloc (.cells #[.int .i64 0] 3)).alloc (.cells #[.int .i64 128] 3)).alloc (.cells #[.int .i64 ((112 : Int) - (count : Int) + 1)] 3)
  have hB2 : Below w.heap.size w (((W1.alloc (.cells #[.int .i64 0] 3)).alloc (.cells #[.int .i64 128] 3)).alloc (.cells #[.int .i64 ((112 : Int) - (count : Int) + 1)] 3)) := ((hB1.alloc hB1.size _).alloc (by simp; omega) _).alloc (by simp; omega) _
  have HS2 : Hid ((((W1.alloc (.cells #[.int .i64 0] 3)).alloc (.cells #[.int .i64 128] 3)).alloc (.cells #[.int .i64 ((112 : Int) - (count : Int) + 1)] 3)).heap.size = W1.heap.size + 3) := by unfold Hid; simp
  clear hB1 bS bC p0 hbl
  generalize (((W1.alloc (.cells #[.int .i64 0] 3)).alloc (.cells #[.int .i64 128] 3)).alloc (.cells #[.int .i64 ((112 : Int) - (count : Int) + 1)] 3)) = W3 at *
  refine wpIn_rangeFunc_ownG (F := Fence.wide) (n := 6) rfl (by omega) (gf := 42) (lb := #[.pointer (some ⟨W1.heap.size + 1 + 1, 0, none⟩), .pointer (some ⟨W1.heap.size + 1, 0, none⟩)]) rfl trivial (enters_of Try.func42 (by kernel_rfl) rfl)
    (pages_stops 5 (by omega) (W1.heap.size + 1 + 1) (W1.heap.size + 1) 128 (113 - count) (by omega) W3 hcc bF.cell) KpOne.trans (KpOne.put (by have := HS2.out; omega)) (Below.refl _ _) (fun _ => rfl)
    (fun pre W => ((∀ x ∈ pre, al.any (hitA (128 + x.1) count) = true) ∧ W.heap[w.heap.size]? = some (.cells #[.int .i64 r, .int .i64 t, .int .i64 d, .int .i64 h, .slice a len cap] 32 (0, 0)) ∧ Boxed W (w.heap.size + 1) 3 (.int .i64 count) ∧ Boxed W W1.heap.size 3 (.int .i64 0) ∧ Boxed W (W1.heap.size + 1) 3 (.int .i64 128)) ∧ Below w.heap.size w W)
    (fun c pre W => (c = .exit 0 ∧ ∃ (ini : List (Fin (113 - count))) (last : Fin (113 - count)), pre = ini ++ [last] ∧ (∀ x ∈ ini, al.any (hitA (128 + x.1) count) = true) ∧ al.any (hitA (128 + last.1) count) = false ∧ Boxed W W1.heap.size 3 (.int .i64 ((128 + last.1 : Nat) : Int))) ∧ Below w.heap.size w W)
    (OwnFrom.and (Own.from (fun pre X Y row hs hg hr => ⟨hs.1, (hg.block _ (Array.getElem?_eq_some_iff.1 hs.2.1).1 (fun e => by obtain ⟨o, ho, hc⟩ := hr _ e.symm; rw [hs.2.1] at ho; cases ho; cases hc)).trans hs.2.1, boxed_keptC hs.2.2.1 hg hr, boxed_keptC hs.2.2.2.1 hg hr, boxed_keptC hs.2.2.2.2 hg hr⟩) _) (ownFrom_below (Nat.le_refl _) (by have := HS2.out; have := HS1.out; omega)))
    (fun c => OwnFrom.and (Own.from (fun pre X Y row hs hg hr => by obtain ⟨x1, ini, last, x2, x3, x4, x5⟩ := hs; exact ⟨x1, ini, last, x2, x3, x4, boxed_keptC x5 hg hr⟩) _) (ownFrom_below (Nat.le_refl _) (by have := HS2.out; have := HS1.out; omega)))
    ⟨⟨by simp, bS2, bC2, b1, bF⟩, hB2⟩
    (fun x => { tmps := #[.agg #[.int .i64 r, .int .i64 t, .int .i64 d, .int .i64 h, .slice a len cap], .int .i64 count, .pointer (some ⟨w.heap.size, 0, none⟩), .pointer (some ⟨w.heap.size + 1, 0, none⟩), .int .i64 0, .pointer (some ⟨W1.heap.size, 0, none⟩), .int .i64 ((128 + x.1 : Nat) : Int), .int .i64 count, .slice (some ⟨w.heap.size + 1 + 1, 0, none⟩) 1 1, .bool true, .bool false, .int .i64 count, .int .i64 ((112 : Int) - (count : Int)), .int .i64 ((112 : Int) - (count : Int) + 1), .func (.func 42) #[] #[.pointer (some ⟨W1.heap.size + 1 + 1, 0, none⟩), .pointer (some ⟨W1.heap.size + 1, 0, none⟩)], .int .i64 ((128 + x.1 : Nat) : Int), undef, undef, undef, undef, undef, undef, undef, undef], defers := [] }) ?assign ?body ?done ?stop
  case assign =>
    intro l x W K hK
    unfold pgVals
    gi_wp2
    exact hK
  case body =>
    rintro l pre x W ⟨⟨hall, hS3, bC3, bR3, bF3⟩, hB3⟩ hlen2
    have q0 : W.cell? ⟨w.heap.size, 4, none⟩ = some (.slice a len cap) := cell_of_heap hS3 rfl
    have q1 := bC3.cell; have q2 := bR3.cell; have q3 := bR3.frozen
    have H3 := Lib.hid (⟨hall, hS3, bC3, bR3, bF3, hB3⟩ : _ ∧ _ ∧ _ ∧ _ ∧ _ ∧ _)
    have hx := x.2
    have HCAL : Hid (Calls Try.prog 28 #[.slice a len cap, .int .i64 ((128 : Int) + (x.1 : Int)), .int .i64 count] W fun e w' => e = .returned (.bool (al.any (hitA (128 + x.1) count))) ∧ Below W.heap.size W w') := by
      have := touches_any (.slice a len cap) al (128 + x.1) count (by omega) (by omega) hlen W (HA.out.below hB3)
      rw [show ((128 + x.1 : Nat) : Int) = (128 : Int) + (x.1 : Int) by omega] at this
      exact this
    clear hall hS3 bC3 bR3 bF3 hB3
    cases hh : al.any (hitA (128 + x.1) count) with
    | true =>
      have HH := Lib.hid hh; clear hh
      gi_wp2_with fail
      refine ⟨trivial, CallsIn.inRound l (callsIn_wide.2 (HCAL.out.mono ?_))⟩
      rintro e w5 ⟨rfl, hB5⟩
      rw [HH.out]
      have HB5 := Lib.hid hB5; clear hB5
      gi_wp2
      obtain ⟨hall, hS3, bC3, bR3, bF3, hB3⟩ := H3.out
      have hg5 := grown_of_below HB5.out none
      exact ⟨KeepsFrom.of_grownBy hg5 (fun j e => by cases e), hg5.block _ bF3.lt (by simp), ⟨fun y hy => (List.mem_append.1 hy).elim (hall y) (fun e => by simp at e; subst e; exact HH.out), (hg5.block _ (Array.getElem?_eq_some_iff.1 hS3).1 (by simp)).trans hS3, bC3.kept hg5 (by simp), bR3.kept hg5 (by simp), bF3.kept hg5 (by simp)⟩, below_step hB3 HB5.out⟩
    | false =>
      have HH := Lib.hid hh; clear hh
      gi_wp2_with fail
      refine ⟨trivial, CallsIn.inRound l (callsIn_wide.2 (HCAL.out.mono ?_))⟩
      rintro e w5 ⟨rfl, hB5⟩
      rw [HH.out]
      obtain ⟨hall, hS3, bC3, bR3, bF3, hB3⟩ := H3.out
      have hg5 := grown_of_below hB5 none
      have bR5 := bR3.kept hg5 (by simp)
      have q4 := bR5.cell; have q5 := bR5.frozen
      have H5 := Lib.hid (⟨hg5, bR5, below_step hB3 hB5, hall⟩ : _ ∧ _ ∧ _ ∧ _)
      clear hB5 hall hS3 bC3 bR3 bF3 hB3 hg5 bR5
      gi_wp2
      refine ⟨(KeepsFrom.of_grownBy H5.out.1 (fun j e => by cases e)).trans ((KeepsOthers.setCell _ _ _).from _), ⟨rfl, pre, x, rfl, H5.out.2.2.2, HH.out, ?_⟩, H5.out.2.2.1.setCell (p := ⟨W1.heap.size, 0, none⟩) (by show w.heap.size ≤ W1.heap.size; have := HS1.out; omega) _⟩
      rw [show ((128 + x.1 : Nat) : Int) = (128 : Int) + (x.1 : Int) by omega]
      exact H5.out.2.1.set _
  case done =>
    rintro D ys W hD hys ⟨⟨hall, hS3, bC3, bR3, bF3⟩, hB3⟩ hK
    have q2 := bR3.cell
    have HALL : Hid (∀ j, j < 113 - count → al.any (hitA (128 + j) count) = true) := by
      intro j hj
      have : j ∈ ys.map Fin.val := by rw [hys]; exact List.mem_range.2 hj
      obtain ⟨x, hx, rfl⟩ := List.mem_map.1 this
      exact hall x hx
    have HBL := Lib.hid (put_below (.deferred none) hB3 (show w.heap.size ≤ D by have := HS1.out; have := HS2.out; omega))
    have HK := Lib.hid hK
    clear hall hS3 bC3 bR3 bF3 hB3 hK hys
    gi_wp2
    rw [Exit.noGoto_ret]
    refine ⟨by simp, .inl ⟨_, _, rfl, run_takeDeferred HK.out, ?_⟩⟩
    exact ⟨_, results_tmp rfl _ _ _, .inr ⟨rfl, HALL.out⟩, HBL.out⟩
  case stop =>
    rintro D c pre W hD ⟨kk, hkk, hpre⟩ ⟨⟨rfl, ini, last, rfl, hall, hno, bR3⟩, hB3⟩ hK
    have q2 := bR3.cell
    have HALL : Hid (∀ j, j < last.1 → al.any (hitA (128 + j) count) = true) := by
      intro j hj
      rw [List.map_append] at hpre
      have hl : ini.length + 1 = kk := by have := congrArg List.length hpre; simpa using this
      rw [show List.range kk = List.range ini.length ++ [ini.length] by rw [← hl, List.range_succ]] at hpre
      obtain ⟨x1, x2⟩ := List.append_inj hpre (by simp)
      have x3 : last.1 = ini.length := by simpa using x2
      have : j ∈ ini.map Fin.val := by rw [x1]; exact List.mem_range.2 (by omega)
      obtain ⟨x, hx, rfl⟩ := List.mem_map.1 this
      exact hall x hx
    have HNO := Lib.hid hno
    have HBL := Lib.hid (put_below (.deferred none) hB3 (show w.heap.size ≤ D by have := HS1.out; have := HS2.out; omega))
    have HK := Lib.hid hK
    clear hall hno hpre bR3 hB3 hK
    gi_wp2
    rw [Exit.noGoto_ret]
    refine ⟨by simp, .inl ⟨_, _, rfl, run_takeDeferred HK.out, ?_⟩⟩
    exact ⟨_, results_tmp rfl _ _ _, .inl ⟨last.1, last.2, rfl, HNO.out, HALL.out⟩, HBL.out⟩

end
end Go.Proofs.Ytdkaaoboipphcaa
