/- Package space: within (where all numbers are), checkAttach (of pages that may be, and frames that are in use), walked. -/
import Derived.Test.YtdkaaoboipphcaaSpRound
namespace Go.Proofs.Ytdkaaoboipphcaa
open Go.RowKit Go.Shelf

attribute [local go_sem] Oper.semAt_some

theorem cell_of_heap {W : World} {b i : Nat} {C : Array Value} {t : TypeId} {v : Value} (h : W.heap[b]? = some (.cells C t (0, 0))) (hv : C[i]? = some v) : W.cell? ⟨b, i, none⟩ = some v := by simp [World.cell?, h, hv]
theorem put_below {w W : World} {D : Nat} {m : Nat} (o : Obj) (h : Below m w W) (hD : m ≤ D) : Below m w (W.putObj D o) :=
  ⟨h.os, h.tape, h.output, by rw [World.putObj_size]; exact h.size, fun k hk => (World.putObj_heap_other (by omega)).trans (h.block k hk)⟩

set_option maxRecDepth 100000 in
set_option maxHeartbeats 1000000 in
theorem within_true (w : World) (b cap n : Nat) (f : Nat → Int) (lo hi : Int) (hn : n ≤ 100) (hc : ∀ j, j < n → w.cell? ⟨b, j, none⟩ = some (.int .i64 (f j)) ∧ lo ≤ f j ∧ f j ≤ hi) :
    Calls Try.prog 26 #[.int .i64 lo, .int .i64 hi, .slice (some ⟨b, 0, none⟩) n cap] w fun e w' => e = .returned (.bool true) ∧ w' = w := by
  have HC := Lib.hid hc; clear hc
  go_enter Try.func26, Try.ntmps26
  go_wp2
  go_loop [11] (fun i => ∃ k : Nat, k ≤ n ∧ i = .int .i64 k) (fun i => n - (intOf i).toNat)
  case atStart => exact ⟨0, Nat.zero_le _, rfl⟩
  case round =>
    obtain ⟨k, hk, rfl⟩ := hrel
    by_cases hlt : k < n
    · obtain ⟨c0, c1, c2⟩ := HC.out k hlt
      have i0 : (0 : Int) ≤ (k : Int) := by omega
      have i1 : (k : Int) < (n : Int) := by omega
      generalize f k = x at *
      have d1 : decide (x < lo) = false := by simp; omega
      have d2 : decide (hi < x) = false := by simp; omega
      go_wp2
      go_round
      case rel => exact ⟨k + 1, by omega, by go_num⟩
      case measure => simp [intOf]; omega
    · obtain rfl : k = n := by omega
      go_wp2
      go_ret
      exact ⟨rfl, rfl⟩

section
variable {w : World} {p g n root : Nat} {S : PtS}

set_option maxRecDepth 100000 in
set_option maxHeartbeats 8000000 in
theorem checkAttach_in (hm : S.at w p g n) (hok : S.ok n root) (page len : Nat) (b cap : Nat) (f : Nat → Nat) (h1 : 128 ≤ page) (h2 : page + len ≤ 240) (h3 : 1 ≤ len) (hc : ∀ j, j < len → w.cell? ⟨b, j, none⟩ = some (.int .i64 (f j)) ∧ f j < n ∧ 0 < S.R (f j)) :
    CallsIn Fence.wide 6 Try.prog 23 #[.pointer (some ⟨p, 0, none⟩), .int .i64 root, .int .i64 page, .slice (some ⟨b, 0, none⟩) len cap] w fun e w' =>
      (e = .returned (.int .i64 0) ∧ (∀ i, i < len → S.E (page + i) = (0, 0)) ∨ e = .returned (.int .i64 20) ∧ ∃ i, i < len ∧ S.E (page + i) ≠ (0, 0)) ∧ Below w.heap.size w w' := by
  have HM := Lib.hid hm; have HOK := Lib.hid hok; have HC := Lib.hid hc
  have hblt : Hid (b < w.heap.size) := World.block_lt_of_cell? w _ (hc 0 (by omega)).1
  clear hm hok hc
  refine callsIn_of_wp_marks Try.func23 rfl trivial ?_ rfl
  simp only [Try.ntmps23, List.size_toArray, List.length_cons, List.length_nil, Nat.reduceAdd, Nat.reduceSub, Array.replicate_succ, Array.replicate_zero, List.push_toArray, List.append_toArray, List.nil_append, List.cons_append]
  have hz : ((len : Int) == 0) = false := by simp; omega
  gi_wp2_with fail
  have hnew := heap_alloc_new (((w.alloc (.cells #[.pointer (some ⟨p, 0, none⟩)] 24)).alloc (.cells #[.int .i64 root] 3)).alloc (.cells #[.int .i64 0] 25)) (.cells #[.int .i64 page, .int .i64 ((page : Int) + (len : Int) - 1)] 3)
  rw [World.size_alloc, World.size_alloc, World.size_alloc] at hnew
  refine ⟨trivial, callsIn_wide.2 ((within_true _ _ _ 2 (fun j => if j = 0 then (page : Int) else (page : Int) + (len : Int) - 1) 128 239 (by omega) (fun j hj => ?_)).mono ?_)⟩
  · rcases (by omega : j = 0 ∨ j = 1) with rfl | rfl
    · exact ⟨cell_of_heap hnew rfl, by simp; omega, by simp; omega⟩
    · exact ⟨cell_of_heap hnew rfl, by simp; omega, by simp; omega⟩
  rintro e w' ⟨rfl, rfl⟩
  clear hnew
  have bM := (((Boxed.new w 24 (.pointer (some ⟨p, 0, none⟩))).alloc (.cells #[.int .i64 root] 3)).alloc (.cells #[.int .i64 0] 25)).alloc (.cells #[.int .i64 page, .int .i64 ((page : Int) + (len : Int) - 1)] 3)
  have bR := ((Boxed.new (w.alloc (.cells #[.pointer (some ⟨p, 0, none⟩)] 24)) 3 (.int .i64 root)).alloc (.cells #[.int .i64 0] 25)).alloc (.cells #[.int .i64 page, .int .i64 ((page : Int) + (len : Int) - 1)] 3)
  have bE := (Boxed.new ((w.alloc (.cells #[.pointer (some ⟨p, 0, none⟩)] 24)).alloc (.cells #[.int .i64 root] 3)) 25 (.int .i64 0)).alloc (.cells #[.int .i64 page, .int .i64 ((page : Int) + (len : Int) - 1)] 3)
  have hB1 : Below w.heap.size w ((((w.alloc (.cells #[.pointer (some ⟨p, 0, none⟩)] 24)).alloc (.cells #[.int .i64 root] 3)).alloc (.cells #[.int .i64 0] 25)).alloc (.cells #[.int .i64 page, .int .i64 ((page : Int) + (len : Int) - 1)] 3)) := ((((Below.refl _ w).alloc (Nat.le_refl _) _).alloc (by simp) _).alloc (by simp; omega) _).alloc (by simp; omega) _
  rw [World.size_alloc] at bR
  rw [World.size_alloc, World.size_alloc] at bE
  have HS1 : Hid (((((w.alloc (.cells #[.pointer (some ⟨p, 0, none⟩)] 24)).alloc (.cells #[.int .i64 root] 3)).alloc (.cells #[.int .i64 0] 25)).alloc (.cells #[.int .i64 page, .int .i64 ((page : Int) + (len : Int) - 1)] 3)).heap.size = w.heap.size + 4) := by unfold Hid; simp
  generalize ((((w.alloc (.cells #[.pointer (some ⟨p, 0, none⟩)] 24)).alloc (.cells #[.int .i64 root] 3)).alloc (.cells #[.int .i64 0] 25)).alloc (.cells #[.int .i64 page, .int .i64 ((page : Int) + (len : Int) - 1)] 3)) = W1 at *
  gi_wp2_with (refine ⟨trivial, ?_⟩; gi_at_call 27; refine (pagesFrom_in _ _ _ _).mono ?_; rintro e w' ⟨rfl, rfl⟩)
  have bF := (Boxed.new W1 3 (.int .i64 page)).alloc (.cells #[.int .i64 len] 3)
  have bC := Boxed.new (W1.alloc (.cells #[.int .i64 page] 3)) 3 (.int .i64 len)
  rw [World.size_alloc] at bC
  have bM2 := (bM.alloc (.cells #[.int .i64 page] 3)).alloc (.cells #[.int .i64 len] 3)
  have bR2 := (bR.alloc (.cells #[.int .i64 page] 3)).alloc (.cells #[.int .i64 len] 3)
  have bE2 := (bE.alloc (.cells #[.int .i64 page] 3)).alloc (.cells #[.int .i64 len] 3)
  have hB2 : Below w.heap.size w ((W1.alloc (.cells #[.int .i64 page] 3)).alloc (.cells #[.int .i64 len] 3)) := (hB1.alloc hB1.size _).alloc (by have := hB1.size; simp; omega) _
  have HS2 : Hid (((W1.alloc (.cells #[.int .i64 page] 3)).alloc (.cells #[.int .i64 len] 3)).heap.size = W1.heap.size + 2) := by unfold Hid; simp
  generalize (W1.alloc (.cells #[.int .i64 page] 3)).alloc (.cells #[.int .i64 len] 3) = W3 at *
  clear bM bR bE hB1
  refine wpIn_rangeFunc_ownG (F := Fence.wide) (n := 6) rfl (by omega) (gf := 42) (lb := #[.pointer (some ⟨W1.heap.size + 1, 0, none⟩), .pointer (some ⟨W1.heap.size, 0, none⟩)]) rfl trivial (enters_of Try.func42 (by kernel_rfl) rfl)
    (pages_stops 5 (by omega) (W1.heap.size + 1) W1.heap.size page len (by omega) W3 bC.cell bF.cell) KpOne.trans (KpOne.put (by have := HS2.out; omega)) (Below.refl _ _) (fun _ => rfl)
    (fun pre W => ((∀ x ∈ pre, S.E (page + x.1) = (0, 0)) ∧ Boxed W w.heap.size 24 (.pointer (some ⟨p, 0, none⟩)) ∧ Boxed W (w.heap.size + 1) 3 (.int .i64 root) ∧ Boxed W (w.heap.size + 1 + 1) 25 (.int .i64 0) ∧ Boxed W W1.heap.size 3 (.int .i64 page)) ∧ Below w.heap.size w W)
    (fun c pre W => (c = .ret ∧ (∃ i, i < len ∧ S.E (page + i) ≠ (0, 0)) ∧ Boxed W (w.heap.size + 1 + 1) 25 (.int .i64 20)) ∧ Below w.heap.size w W)
    (OwnFrom.and (Own.from (fun pre X Y row hs hg hr => ⟨hs.1, hs.2.1.kept hg (fun e => by obtain ⟨o, ho, hc⟩ := hr _ e.symm; rw [show X.heap[_]? = _ from hs.2.1] at ho; cases ho; cases hc), hs.2.2.1.kept hg (fun e => by obtain ⟨o, ho, hc⟩ := hr _ e.symm; rw [show X.heap[_]? = _ from hs.2.2.1] at ho; cases ho; cases hc), hs.2.2.2.1.kept hg (fun e => by obtain ⟨o, ho, hc⟩ := hr _ e.symm; rw [show X.heap[_]? = _ from hs.2.2.2.1] at ho; cases ho; cases hc), hs.2.2.2.2.kept hg (fun e => by obtain ⟨o, ho, hc⟩ := hr _ e.symm; rw [show X.heap[_]? = _ from hs.2.2.2.2] at ho; cases ho; cases hc)⟩) _) (ownFrom_below (Nat.le_refl _) (by have := HS2.out; have := HS1.out; omega)))
    (fun c => OwnFrom.and (Own.from (fun pre X Y row hs hg hr => ⟨hs.1, hs.2.1, hs.2.2.kept hg (fun e => by obtain ⟨o, ho, hc⟩ := hr _ e.symm; rw [show X.heap[_]? = _ from hs.2.2] at ho; cases ho; cases hc)⟩) _) (ownFrom_below (Nat.le_refl _) (by have := HS2.out; have := HS1.out; omega)))
    ⟨⟨by simp, bM2, bR2, bE2, bF⟩, hB2⟩
    (fun x => { tmps := #[.pointer (some ⟨p, 0, none⟩), .int .i64 root, .int .i64 page, .slice (some ⟨b, 0, none⟩) len cap, .pointer (some ⟨w.heap.size, 0, none⟩), .pointer (some ⟨w.heap.size + 1, 0, none⟩), undef, undef, .pointer (some ⟨w.heap.size + 1 + 1, 0, none⟩), .int .i64 ((page + x.1 : Nat) : Int), undef, undef, undef, undef, undef, .pointer (some ⟨p, 0, none⟩), .bool false, .slice (some ⟨b, 0, none⟩) len cap, .int .i64 len, .bool false, .bool false, .int .i64 page, .int .i64 page, .slice (some ⟨b, 0, none⟩) len cap, .int .i64 len, .int .i64 ((page : Int) + (len : Int)), .int .i64 ((page : Int) + (len : Int) - 1), .slice (some ⟨w.heap.size + 1 + 1 + 1, 0, none⟩) 2 2, .bool true, .bool false, .bool false, .int .i64 page, .slice (some ⟨b, 0, none⟩) len cap, .int .i64 len, .func (.func 42) #[] #[.pointer (some ⟨W1.heap.size + 1, 0, none⟩), .pointer (some ⟨W1.heap.size, 0, none⟩)], .int .i64 ((page + x.1 : Nat) : Int), undef, undef, undef, undef, undef, undef, undef, undef, undef, undef, undef, undef, undef, undef, undef, undef, undef, undef, undef, undef, undef, undef, undef, undef, undef], defers := [] }) ?assign ?body ?done ?stop
  case assign =>
    intro l x W K hK
    unfold pgVals
    gi_wp2
    exact hK
  case body =>
    rintro l pre x W ⟨⟨hall, bM3, bR3, bE3, bF3⟩, hB3⟩ hlen
    have q0 := bM3.cell; have q1 := bR3.cell; have q2 := bE3.cell; have q3 := bE3.frozen
    have HALL := Lib.hid hall; have H3 := Lib.hid (⟨bM3, bR3, bE3, bF3, hB3⟩ : _ ∧ _ ∧ _ ∧ _ ∧ _)
    have HMW : Hid (S.at W p g n) := MemAt.below HM.out hB3
    have hx := x.2
    have HWE : Hid (wkE S.E ((page : Int) + (x.1 : Int)) = if S.E (page + x.1) = (0, 0) then 30 else 0) := by
      unfold Hid wkE
      rw [if_pos (by simp [belowB]; omega), show ((page : Int) + (x.1 : Int)).toNat = page + x.1 by omega]
    clear hall bM3 bR3 bE3 bF3 hB3
    by_cases hE : S.E (page + x.1) = (0, 0)
    · rw [if_pos hE] at HWE
      gi_wp2_with fail
      refine ⟨trivial, CallsIn.inRound l (callsIn_wide.2 ((walk_rep HMW.out HOK.out ((page : Int) + (x.1 : Int))).mono ?_))⟩
      rintro e w5 ⟨rfl, hB5⟩
      rw [HWE.out]
      have HB5 := Lib.hid hB5
      clear hB5
      gi_wp2
      obtain ⟨bM3, bR3, bE3, bF3, hB3⟩ := H3.out
      have hg5 := grown_of_below HB5.out none
      exact ⟨KeepsFrom.of_grownBy hg5 (fun j e => by cases e), hg5.block _ bF3.lt (by simp), ⟨fun y hy => (List.mem_append.1 hy).elim (HALL.out y) (fun e => by simp at e; subst e; exact hE), bM3.kept hg5 (by simp), bR3.kept hg5 (by simp), bE3.kept hg5 (by simp), bF3.kept hg5 (by simp)⟩, below_step hB3 HB5.out⟩
    · rw [if_neg hE] at HWE
      gi_wp2_with fail
      refine ⟨trivial, CallsIn.inRound l (callsIn_wide.2 ((walk_rep HMW.out HOK.out ((page : Int) + (x.1 : Int))).mono ?_))⟩
      rintro e w5 ⟨rfl, hB5⟩
      rw [HWE.out]
      obtain ⟨bM3, bR3, bE3, bF3, hB3⟩ := H3.out
      have hg5 := grown_of_below hB5 none
      have bE5 := bE3.kept hg5 (by simp)
      have q4 := bE5.cell; have q5 := bE5.frozen
      have H5 := Lib.hid (⟨hg5, bE5, below_step hB3 hB5⟩ : _ ∧ _ ∧ _)
      clear hB5 bM3 bR3 bE3 bF3 hB3 hg5 bE5
      gi_wp2
      exact ⟨(KeepsFrom.of_grownBy H5.out.1 (fun j e => by cases e)).trans ((KeepsOthers.setCell _ _ _).from _), ⟨rfl, ⟨x.1, x.2, hE⟩, H5.out.2.1.set _⟩, H5.out.2.2.setCell (p := ⟨w.heap.size + 1 + 1, 0, none⟩) (by show w.heap.size ≤ w.heap.size + 1 + 1; omega) _⟩
  case done =>
    rintro D ys W hD hys ⟨⟨hall, bM3, bR3, bE3, bF3⟩, hB3⟩ hK
    have HFR : Hid (∀ i, i < len → S.E (page + i) = (0, 0)) := by
      intro i hi
      have : i ∈ ys.map Fin.val := by rw [hys]; exact List.mem_range.2 hi
      obtain ⟨x, hx, rfl⟩ := List.mem_map.1 this
      exact hall x hx
    have H3 := Lib.hid (⟨bM3, bE3, hB3, hK⟩ : _ ∧ _ ∧ _ ∧ _)
    have HDL : Hid (w.heap.size + 4 ≤ D) := by have := HS1.out; have := HS2.out; unfold Hid; omega
    clear hall bM3 bR3 bE3 bF3 hB3 hK hys
    gi_wp2
    gi_loopw [52] (fun i wr => ∃ j : Nat, j ≤ len ∧ i = .int .i64 j ∧ Boxed wr w.heap.size 24 (.pointer (some ⟨p, 0, none⟩)) ∧ Boxed wr (w.heap.size + 1 + 1) 25 (.int .i64 0) ∧ Below w.heap.size w wr ∧ wr.heap[D]? = some (.deferred (some []))) (fun i _ => len - (intOf i).toNat)
    case atStart => exact ⟨0, Nat.zero_le _, rfl, H3.out⟩
    case round =>
      obtain ⟨j, hj, rfl, bM4, bE4, hB4, hK4⟩ := hrel
      have HM4 : Hid (S.at wr p g n) := MemAt.below HM.out hB4
      have H4 := Lib.hid (⟨bM4, bE4, hB4, hK4⟩ : _ ∧ _ ∧ _ ∧ _)
      by_cases hlt : j < len
      · have q0 := bM4.cell
        have q1 := (hB4.cell (p := ⟨b, j, none⟩) hblt.out).trans (HC.out j hlt).1
        have HRF : Hid ((refsN n S.R (f j) == 0) = false) := by
          obtain ⟨_, c2, c3⟩ := HC.out j hlt
          unfold Hid refsN
          rw [if_pos (by simp [liveB]; omega)]
          simp; omega
        have i0 : (0 : Int) ≤ (j : Int) := by omega
        have i1 : (j : Int) < (len : Int) := by omega
        clear bM4 bE4 hB4 hK4
        generalize f j = fj at *
        gi_wp2_with fail
        refine ⟨trivial, callsIn_wide.2 ((refs_fn HM4.out (fj : Int)).mono ?_)⟩
        rintro e w5 ⟨rfl, hB5⟩
        have hrf := HRF.out
        obtain ⟨bM4, bE4, hB4, hK4⟩ := H4.out
        have hg5 := grown_of_below hB5 none
        have H5 := Lib.hid (⟨bM4.kept hg5 (by simp), bE4.kept hg5 (by simp), below_step hB4 hB5, (hg5.block D (Array.getElem?_eq_some_iff.1 hK4).1 (by simp)).trans hK4⟩ : Boxed w5 w.heap.size 24 (.pointer (some ⟨p, 0, none⟩)) ∧ Boxed w5 (w.heap.size + 1 + 1) 25 (.int .i64 0) ∧ Below w.heap.size w w5 ∧ w5.heap[D]? = some (.deferred (some [])))
        clear hB5 bM4 bE4 hB4 hK4 hg5
        gi_wp2
        go_roundw
        case rel => exact ⟨j + 1, by omega, by go_num, H5.out⟩
        case measure => simp [intOf]; omega
      · obtain rfl : j = len := by omega
        have q2 := bE4.cell; have q3 := bE4.frozen
        have hbd : w.heap.size + 1 + 1 ≠ D := by have := HDL.out; omega
        have hK5 : (wr.setCell ⟨w.heap.size + 1 + 1, 0, none⟩ (.int .i64 0)).heap[D]? = some (.deferred (some [])) := (heap_setCell_other _ _ _ _ (Ne.symm hbd)).trans hK4
        have hcE : ((wr.setCell ⟨w.heap.size + 1 + 1, 0, none⟩ (.int .i64 0)).putObj D (.deferred none)).cell? ⟨w.heap.size + 1 + 1, 0, none⟩ = some (.int .i64 0) := (World.cell?_of_block (a := ⟨w.heap.size + 1 + 1, 0, none⟩) (World.putObj_heap_other hbd)).trans (bE4.set _).cell
        have HBL := Lib.hid (put_below (.deferred none) (hB4.setCell (p := ⟨w.heap.size + 1 + 1, 0, none⟩) (by show w.heap.size ≤ w.heap.size + 1 + 1; omega) (.int .i64 0)) (show w.heap.size ≤ D by have := HDL.out; omega))
        clear bM4 bE4 hB4 hK4
        gi_wp2
        refine ⟨by simp, .inl ⟨_, _, rfl, run_takeDeferred hK5, ?_⟩⟩
        exact ⟨.int .i64 0, by simp [results, Try.results23, go_sem, hcE], .inl ⟨rfl, HFR.out⟩, HBL.out⟩
  case stop =>
    rintro D c pre W hD ⟨kk, hkk, hpre⟩ ⟨⟨rfl, hex, bE3⟩, hB3⟩ hK
    have hbd : w.heap.size + 1 + 1 ≠ D := by have := HS1.out; have := HS2.out; omega
    have hcE : (W.putObj D (.deferred none)).cell? ⟨w.heap.size + 1 + 1, 0, none⟩ = some (.int .i64 20) := (World.cell?_of_block (a := ⟨w.heap.size + 1 + 1, 0, none⟩) (World.putObj_heap_other hbd)).trans bE3.cell
    have HBL := Lib.hid (put_below (.deferred none) hB3 (show w.heap.size ≤ D by have := HS1.out; have := HS2.out; omega))
    have HEX := Lib.hid hex; have HK := Lib.hid hK
    clear hex hK
    gi_wp2
    refine ⟨by simp, .inl ⟨_, _, rfl, run_takeDeferred HK.out, ?_⟩⟩
    exact ⟨.int .i64 20, by simp [results, Try.results23, go_sem, hcE], .inr ⟨rfl, HEX.out⟩, HBL.out⟩

end
end Go.Proofs.Ytdkaaoboipphcaa
