/- Package frames: wipe, walked. -/
import Derived.Test.YtdkaaoboipphcaaFramesIo
import Derived.Test.YtdkaaoboipphcaaExec
namespace Go.Proofs.Ytdkaaoboipphcaa
open Go.RowKit

/-- a page of bytes 0. -/
def zeroPage : List UInt8 := List.replicate 64 0
/-- .. as it lies. -/
def zeroCells64 : Array Value := (zeroPage.map bv).toArray

theorem updB_self (B : Nat → List UInt8) (k : Nat) : updB B k (B k) = B := by
  funext i; unfold updB; split
  · rename_i h; rw [h]
  · rfl
theorem putBytes_all (l s : List UInt8) (h : l.length = s.length) : putBytes l 0 s = s := by
  simp [putBytes, ← h]

theorem build_page (ev : Operand → Value) (ty : TypeId) (pos : String) (af : Array Edge) (W : World) :
    (execOp ev { dst := some 3, op := Op.build 52 #[], type := ty, pos := pos, after := af, guard := none }).run Try.prog W = .ok (.value (.agg zeroCells64)) W := by kernel_rfl
theorem alloc_page (ev : Operand → Value) (ty : TypeId) (pos : String) (af : Array Edge) (W : World) :
    (execOp ev { dst := some 2, op := Op.alloc 52, type := ty, pos := pos, after := af, guard := none }).run Try.prog W = .ok (.value (.pointer (some ⟨W.heap.size, 0, none⟩))) (W.alloc (.cells zeroCells64 52)) := by kernel_rfl

theorem zeroCells64_size : zeroCells64.size = 64 := by simp [zeroCells64, zeroPage]
theorem zeroCells64_one : zeroCells64.all (·.oneCell') = true := by kernel_rfl
theorem Try.sizePage : (Try.prog.info? 52).map (·.size) = some 64 := by kernel_rfl

/-- a row stored over itself. -/
theorem setCells_self (w : World) (g : Nat) (t : TypeId) : ∀ (vs : List Value) (o : Nat) (C : Array Value), w.heap[g]? = some (.cells C t (0, 0)) → (∀ j v, vs[j]? = some v → C[o + j]? = some v) → w.setCells g o vs = w
  | [], _, _, _, _ => rfl
  | v :: r, o, C, hC, h => by
    have h0 : C[o]? = some v := by simpa using h 0 v rfl
    have hlt : o < C.size := (Array.getElem?_eq_some_iff.1 h0).1
    have e : w.setCell ⟨g, o, none⟩ v = w := by
      rw [setCell_eq_setRow w g o C t (0, 0) v hC]
      have : C.setIfInBounds o v = C := by
        apply Array.ext_getElem?
        intro i
        rw [Array.getElem?_setIfInBounds]
        split
        · rename_i e; subst e; exact h0.symm
        · rfl
      rw [this]
      exact setRow_self w g C t (0, 0) hC
    rw [World.setCells, e]
    exact setCells_self w g t r (o + 1) C hC (fun j v hv => by rw [Nat.add_assoc, Nat.add_comm 1 j]; exact h (j + 1) v (by simpa using hv))

theorem page_over (w : World) : (w.alloc (.cells zeroCells64 52)).setCells w.heap.size 0 zeroCells64.toList = w.alloc (.cells zeroCells64 52) :=
  setCells_self _ _ 52 _ _ zeroCells64 (heap_alloc_new _ _) (fun j v hv => by simpa using hv)

theorem page_range (w : World) : (w.alloc (.cells zeroCells64 52)).rangeAt w.heap.size 0 (zeroPage.map bv) := fun j v hv => by
  rw [cell_of_row _ _ _ zeroCells64 52 (0, 0) (heap_alloc_new _ _)]
  simpa [zeroCells64] using hv
theorem page_there (w : World) : (w.alloc (.cells zeroCells64 52)).there w.heap.size 0 64 := fun j hj => by
  rw [cell_of_row _ _ _ zeroCells64 52 (0, 0) (heap_alloc_new _ _), frozen_of_row _ _ _ zeroCells64 52 (heap_alloc_new _ _)]
  have := zeroCells64_size
  have h2 : j < zeroCells64.size := by omega
  simp [h2]

section
variable {w : World} {p g n : Nat} {R : Nat → Int} {B : Nat → List UInt8}

theorem neq_page (W : World) (l : List UInt8) (hl : l.length = 64) :
    (binOp .neq 52 (.agg (l.map bv).toArray) (.agg (zeroPage.map bv).toArray)).run Try.prog W = .ok (.bool (!(l == zeroPage))) W := by
  have hi : ∃ i, Try.prog.info? 5 = some i := Option.isSome_iff_exists.1 (by kernel_rfl)
  obtain ⟨i, hi⟩ := hi
  exact run_neq_bytes (n := 64) (e := 5) (k := .u8) (by kernel_rfl) Try.underlying5 hi (by kernel_rfl) l zeroPage hl (by simp [zeroPage])

set_option maxRecDepth 100000 in
set_option maxHeartbeats 1000000 in
theorem wipe_any (h : MemAt w p g n R B) (k : Nat) (hk : k < n) :
    Calls Try.prog 15 #[.pointer (some ⟨g, k * 65, none⟩)] w fun e w' => e = .returned (.tuple #[]) ∧ MemAt w' p g n R (updB B k zeroPage) ∧ w.grownBy w' (some g) := by
  have HT := Lib.hid (page_there w)
  have h2 := h.alloc (.cells zeroCells64 52)
  have h64 := h.hB k hk
  have H64 := Lib.hid h64
  have HR1 := Lib.hid (h2.range hk)
  have HR2 := Lib.hid (page_range w)
  have HN := Lib.hid (fun W => neq_page W (B k) h64)
  have HB := Lib.hid build_page
  have HA := Lib.hid alloc_page
  have HO := Lib.hid (page_over w)
  have HS := Lib.hid (fun h2 : (Try.prog.info? 52).map (·.size) = some 64 => zeroCells64_size ▸ h2 : (Try.prog.info? 52).map (·.size) = some 64 → (Try.prog.info? 52).map (·.size) = some zeroCells64.size)
  have HT2 := Lib.hid (zeroCells64_size ▸ HT.out : (w.alloc (.cells zeroCells64 52)).there w.heap.size 0 zeroCells64.size)
  have H1 := Lib.hid zeroCells64_one
  clear HT h64
  generalize zeroCells64 = Z at *
  go_enter Try.func15, Try.ntmps15
  go_wp2_with (first | (refine wpList_exec rfl _ _ (HB.out _ _ _ _ _) ?_) | (refine wpList_exec rfl _ _ (HA.out _ _ _ _ _) ?_) | (refine wpList_store_mid rfl 52 _ _ rfl w.heap.size 0 Z rfl rfl HT2.out (HS.out Try.sizePage) H1.out ?_; rw [HO.out]))
  refine wp_region_quiet_lit (by kernel_rfl) (by kernel_rfl) ?_
  refine wpQuiet_exec rfl _ (fun _ _ => rfl) ?_
  refine wpQuiet_exec rfl (.pointer (some ⟨g, k * 65, none⟩)) (fun _ _ => rfl) ?_
  refine wpQuiet_exec rfl (.pointer (some ⟨g, k * 65 + 1, none⟩)) (fun _ _ => by kernel_rfl) ?_
  refine wpQuiet_exec rfl (.agg ((B k).map bv).toArray) ?_ ?_
  · rintro _ ⟨nq, rfl⟩
    exact exec_load_mid 52 (.tmp 6) rfl g (k * 65 + 1) rfl _ (.array 64 5) HR1.out (by kernel_rfl) rfl (by rw [List.length_map, H64.out]; exact Try.sizePage)
  refine wpQuiet_exec rfl (.agg (zeroPage.map bv).toArray) ?_ ?_
  · rintro _ ⟨nq, rfl⟩
    exact exec_load_mid 52 (.tmp 2) rfl w.heap.size 0 rfl _ (.array 64 5) HR2.out (by kernel_rfl) rfl (by rw [List.length_map, zeroPage, List.length_replicate]; exact Try.sizePage)
  refine wpQuiet_exec rfl (.bool (!(B k == zeroPage))) ?_ ?_
  · rintro _ ⟨nq, rfl⟩
    exact exec_neq_agg 52 52 (.tmp 7) (.tmp 8) rfl _ _ rfl rfl (by kernel_rfl) _ (HN.out _)
  refine wpQuiet_nil ?_
  rintro _ ⟨nq, rfl⟩
  generalize hA1 : ((B k).map bv).toArray = A1
  generalize hA2 : (zeroPage.map bv).toArray = A2
  clear hA1 hA2
  have HL : Hid ((zeroPage.map bv).length = 64) := by unfold Hid; simp [zeroPage]
  have HC : Hid ((zeroPage.map bv).toArray.all (·.oneCell') = true) := by unfold Hid; kernel_rfl
  have h2d : MemAt ((w.alloc (.cells Z 52)).drewN nq) p g n R B := h2.keep rfl rfl
  have hgd : w.grownBy ((w.alloc (.cells Z 52)).drewN nq) (some g) := by
    have hg2 := World.grownBy_alloc w (.cells Z 52) (some g)
    exact ⟨hg2.os, hg2.tape, hg2.output, hg2.size, hg2.block⟩
  have HM : Hid (MemAt (((w.alloc (.cells Z 52)).drewN nq).setCells g (k * 65 + 1) (zeroPage.map bv)) p g n R (updB B k zeroPage)) := by
    have := h2d.setB hk (o := 0) (s := zeroPage) (by simp [zeroPage])
    rw [putBytes_all _ _ (by rw [H64.out]; simp [zeroPage])] at this
    exact this
  have HTh : Hid ((w.alloc (.cells Z 52)).there g (k * 65 + 1) 64) := h2.there (by omega)
  have HG := Lib.hid (grown_trans hgd (grown_setCells ((w.alloc (.cells Z 52)).drewN nq) g (zeroPage.map bv) (k * 65 + 1)))
  have HGD := Lib.hid hgd
  clear hgd
  cases hz : (B k == zeroPage)
  · show Exit.then _ _ Exit.normal { tmps := #[.pointer (some ⟨g, k * 65, none⟩), undef, .pointer (some ⟨w.heap.size, 0, none⟩), .agg Z, .pointer (some ⟨g, k * 65, none⟩), .pointer (some ⟨g, k * 65, none⟩), .pointer (some ⟨g, k * 65 + 1, none⟩), .agg A1, .agg A2, .bool true, undef, undef, undef, undef], defers := [] } _
    clear hz HN HR1
    generalize zeroPage.map bv = ZL at *
    go_wp2_with (first | (refine wpList_load_mid rfl 52 (.tmp 2) rfl w.heap.size 0 rfl ZL (.array 64 5) HR2.out (by kernel_rfl) rfl (by rw [HL.out]; exact Try.sizePage) ?_) | (refine wpList_store_mid rfl 52 (.tmp 13) (.tmp 11) rfl g (k * 65 + 1) ZL.toArray rfl rfl (by rw [List.size_toArray, HL.out]; exact HTh.out) (by rw [List.size_toArray, HL.out]; exact Try.sizePage) HC.out ?_))
    go_end0
    exact ⟨rfl, HM.out, HG.out⟩
  · show Exit.then _ _ Exit.normal { tmps := #[.pointer (some ⟨g, k * 65, none⟩), undef, .pointer (some ⟨w.heap.size, 0, none⟩), .agg Z, .pointer (some ⟨g, k * 65, none⟩), .pointer (some ⟨g, k * 65, none⟩), .pointer (some ⟨g, k * 65 + 1, none⟩), .agg A1, .agg A2, .bool false, undef, undef, undef, undef], defers := [] } _
    have hz' : B k = zeroPage := by simpa using hz
    have HU : Hid (updB B k zeroPage = B) := by unfold Hid; rw [← hz', updB_self]
    clear hz hz'
    go_wp2
    go_end0
    exact ⟨rfl, by rw [HU.out]; exact h2d, HGD.out⟩

end
end Go.Proofs.Ytdkaaoboipphcaa
