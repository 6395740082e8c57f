/- Go's slices.SortFunc at attachments, by the library's contract. -/
import Derived.Test.YtdkaaoboipphcaaSpAtts
namespace Go.Proofs.Ytdkaaoboipphcaa
open Go.RowKit Go.Shelf Go.Sort Go.Lib

set_option maxRecDepth 100000 in
set_option maxHeartbeats 2000000 in
theorem cmpA_any (x y : AttV) (W : World) : Calls Try.prog 40 #[.agg #[.int .i64 x.1.val, .int .i64 x.2.1.val, .bool x.2.2], .agg #[.int .i64 y.1.val, .int .i64 y.2.1.val, .bool y.2.2]] W fun e w' =>
    e = .returned (.int .i64 (Lib.compareInt x.1.val y.1.val)) ∧ ∃ q os', w' = grow (W.drewN q) os' := by
  obtain ⟨x0, x1, x2⟩ := x
  obtain ⟨y0, y1, y2⟩ := y
  dsimp only
  have hcon := fun W' => AnyG.cmp_Compare_int Try.cmpInt (x0.val : Int) (y0.val : Int) W'
  change ∀ W', Calls Try.prog 41 _ _ _ at hcon
  generalize Lib.compareInt (x0.val : Int) (y0.val : Int) = r at hcon ⊢
  generalize (x0.val : Int) = a0 at *
  generalize (x1.val : Int) = a1 at *
  generalize (y0.val : Int) = b0 at *
  generalize (y1.val : Int) = b1 at *
  go_enter Try.func40, Try.ntmps40
  go_wp2_with (go_at_call 41; refine (hcon _).mono ?_; rintro e w' ⟨rfl, rfl⟩)
  go_ret
  exact ⟨rfl, 0, _, by rw [alloc_eq_grow, alloc_eq_grow, grow_grow]; rfl⟩

theorem cmpA_swo : SWO (ltOf fun (x y : AttV) => Lib.compareInt (x.1.val : Int) (y.1.val : Int)) := by
  have h : ∀ x y : AttV, ltOf (fun (x y : AttV) => Lib.compareInt (x.1.val : Int) (y.1.val : Int)) x y = decide (x.1.val < y.1.val) := by
    intro x y
    unfold ltOf Lib.compareInt
    dsimp only
    split
    · rename_i c; simp; omega
    · split
      · simp; omega
      · simp; omega
  refine ⟨fun x => ?_, fun x y z => ?_, fun x y z => ?_⟩
  · rw [h]; simp
  · rw [h, h, h]; simp; omega
  · rw [h, h, h]; simp; omega

theorem lenA (n : Nat) (W : World) (h : n ≤ 12) : Calls Try.prog 57 #[.int .u64 n] W fun e w' => (∃ l : Int, e = .returned (.int .i64 l)) ∧ w' = W :=
  (Any.bits_Len Try.lays125 n W (by omega) (by omega)).mono fun _ _ ⟨he, hw⟩ => ⟨⟨_, he⟩, hw⟩

theorem sortA_any (gg cap : Nat) (d : Array AttV) (w : World) (hH : HoldsK encA 3 w gg 0 d) (hblk : gg < w.heap.size) (h12 : d.size ≤ 12) :
    Calls Try.prog 39 #[.slice (some ⟨gg, 0, none⟩) d.size cap, .func (.func 40) #[] #[]] w fun e w' => e = .returned (.tuple #[]) ∧ (∃ d' : Array AttV, PermIn 0 d.size d d' ∧ HoldsK encA 3 w' gg 0 d') ∧ w.grownBy w' (some gg) := by
  have hcon := AnyQ.slices_SortFunc_small_sorted Try.sortAtt 3 Try.isAgg66 Try.sizeOf66 encA (fun _ => rfl) (fun x v hv => by simp [encA] at hv; rcases hv with rfl | rfl | rfl <;> rfl) (fun x y => Lib.compareInt (x.1.val : Int) (y.1.val : Int)) 40 #[] cmpA_swo gg 0 cap d w (enters_of Try.func40 (by kernel_rfl) rfl) (fun _ _ _ _ x y => cmpA_any x y _) hH hblk h12 lenA
  change Calls Try.prog 39 _ _ _ at hcon
  refine hcon.mono ?_
  rintro e w' ⟨rfl, d', n, os, hp, _, rfl⟩
  have hbh : ∀ k, k < w.heap.size → k ≠ gg → (sortWorldK encA 3 w gg 0 n d' os).heap[k]? = w.heap[k]? := by
    intro k hk hne
    unfold sortWorldK grow putRowK putRow mapBlock
    show (w.heap.modify gg _ ++ os)[k]? = _
    rw [Array.getElem?_append_left (by simpa using hk), Array.getElem?_modify, if_neg (Ne.symm hne)]
  refine ⟨rfl, ⟨d', hp, ?_⟩, ?_⟩
  · have h1 := holdsK_putRowK (enc := encA) (k := 3) (Go.Sort.ahead w n) gg 0 d d' hH hp.1
    have hgl : gg < (putRowK encA 3 (Go.Sort.ahead w n) gg 0 d').heap.size := by rw [size_putRowK]; exact hblk
    have hh : (sortWorldK encA 3 w gg 0 n d' os).heap[gg]? = (putRowK encA 3 (Go.Sort.ahead w n) gg 0 d').heap[gg]? := by
      unfold sortWorldK grow
      exact Array.getElem?_append_left hgl
    intro j hj
    obtain ⟨x1, x2⟩ := h1 j hj
    exact ⟨(World.cell?_of_block (a := ⟨gg, 0 + j, none⟩) hh).trans x1, (World.frozen?_of_block (a := ⟨gg, 0 + j, none⟩) hh).trans x2⟩
  · refine ⟨rfl, rfl, rfl, ?_, fun k hk hne => hbh k hk (fun e => hne (by rw [e]))⟩
    unfold sortWorldK grow
    show w.heap.size ≤ ((putRowK encA 3 (Go.Sort.ahead w n) gg 0 d').heap ++ os).size
    rw [Array.size_append, size_putRowK]
    exact Nat.le_add_right _ _

end Go.Proofs.Ytdkaaoboipphcaa
