/- Package frames: New, Read, Write, walked, over the plain machine. -/
import Derived.Test.YtdkaaoboipphcaaFramesOps
import Derived.Lib.LazyBuf
namespace Go.Proofs.Ytdkaaoboipphcaa
open Go.RowKit

section
variable {w : World} {p g n : Nat} {R : Nat → Int} {B : Nat → List UInt8}

set_option maxHeartbeats 400000 in
theorem new_bad (k : Int) (hk : k < 1 ∨ 256 < k) (w : World) : Calls Try.prog 5 #[.int .i64 k] w fun e w' => e = .returned (.tuple #[.pointer none, .int .i64 2]) ∧ w = w' := by
  by_cases h1 : k < 1
  · go_enter Try.func5, Try.ntmps5
    go_wp2
    go_ret2
    exact ⟨rfl, rfl⟩
  · have h2 : 256 < k := by omega
    clear hk
    go_enter Try.func5, Try.ntmps5
    go_wp2
    go_ret2
    exact ⟨rfl, rfl⟩

/-- a frame's cells, none of it in use, all bytes 0. -/
def zeroFrame : List Value := .int .i64 0 :: List.replicate 64 (.int .u8 0)

theorem Try.infoFrame : (Try.prog.info? 54).map (fun i => (i.zero, i.size, i.bytes)) = some (some (.agg zeroFrame.toArray), 65, 72) := by kernel_rfl

theorem made_frames (w : World) (n : Nat) (h1 : 1 ≤ n) (hn : n ≤ 256) :
    MemAt ((w.alloc (.cells (madeCells zeroFrame.toArray (n * 65)) 54)).alloc (.cells #[.slice (some ⟨w.heap.size, 0, none⟩) n n] 44)) (w.heap.size + 1) w.heap.size n (fun _ => 0) (fun _ => List.replicate 64 0) := by
  refine ⟨heap_alloc2_new _ _ _, ⟨_, heap_alloc2_old _ _ _, ?_, ?_, ?_⟩, fun _ _ => ⟨Int.le_refl _, by omega⟩, fun _ _ => by simp, hn, h1⟩
  · rw [size_madeCells]; omega
  · intro k hk
    have : k * 65 < n * 65 := by omega
    simp [madeCells, this, zeroFrame]
  · intro k hk j hj
    have h1 : k * 65 + 1 + j < n * 65 := by omega
    have h2 : (k * 65 + 1 + j) % 65 = j + 1 := by omega
    have hz : zeroFrame.toArray.size = 65 := by simp [zeroFrame]
    simp only [madeCells, hz]
    rw [Array.getElem?_map, Array.getElem?_range, if_pos h1, Option.map_some, h2]
    congr 1
    have h3 : j + 1 < zeroFrame.toArray.size := by rw [hz]; omega
    rw [getElem!_pos zeroFrame.toArray (j + 1) h3]
    simp only [zeroFrame, bv, List.getElem_toArray, List.getElem_cons_succ, List.getElem_replicate, List.getElem?_replicate, hj, if_true, Option.getD_some]
    rfl

set_option maxRecDepth 100000 in
set_option maxHeartbeats 400000 in
theorem new_ok (n : Nat) (h1 : 1 ≤ n) (hn : n ≤ 256) (w : World) : Calls Try.prog 5 #[.int .i64 n] w fun e w' =>
    e = .returned (.tuple #[.pointer (some ⟨w.heap.size + 1, 0, none⟩), .int .i64 0]) ∧ MemAt w' (w.heap.size + 1) w.heap.size n (fun _ => 0) (fun _ => List.replicate 64 0) ∧ Below w.heap.size w w' := by
  have HM := Lib.hid (made_frames w n h1 hn)
  obtain ⟨i0, hi, hz0, hz1, hz2⟩ := info_parts Try.infoFrame
  have hmk := run_make (P := Try.prog) w 42 54 i0 _ Try.underlying42 hi hz0 .i64 .i64 n n (by omega) (by omega) (by rw [hz2]; omega) (by omega)
  rw [hz1, Int.toNat_natCast] at hmk
  simp only [Value.cells] at hmk
  clear hi hz0 hz1 hz2
  generalize madeCells zeroFrame.toArray (n * 65) = C at hmk HM
  go_enter Try.func5, Try.ntmps5
  go_wp2
  go_ret2
  exact ⟨rfl, HM.out, ((Below.refl _ _).alloc (Nat.le_refl _) _).alloc (by simp) _⟩


/-- at and n, where they may be. -/
def spanB (o m : Int) : Bool := decide (0 ≤ o ∧ 0 ≤ m ∧ o + m ≤ 64)

set_option maxHeartbeats 400000 in
theorem write_nil (k o : Int) (s : ByteArray) (w : World) : Calls Try.prog 63 #[.pointer none, .int .i64 k, .int .i64 o, .string s] w fun e w' => e = .returned (.int .i64 1) ∧ w = w' := by
  go_enter Try.func63, Try.ntmps63
  go_wp2_with fail
  refine (find_nil k _).mono ?_
  rintro e w' ⟨rfl, rfl⟩
  go_wp2
  go_ret
  exact ⟨rfl, rfl⟩

set_option maxHeartbeats 400000 in
theorem read_nil (k o m : Int) (w : World) : Calls Try.prog 82 #[.pointer none, .int .i64 k, .int .i64 o, .int .i64 m] w fun e w' => e = .returned (.tuple #[.string ⟨#[]⟩, .int .i64 1]) ∧ w = w' := by
  go_enter Try.func82, Try.ntmps82
  go_wp2_with fail
  refine (find_nil k _).mono ?_
  rintro e w' ⟨rfl, rfl⟩
  go_wp2
  go_ret2
  exact ⟨rfl, rfl⟩

set_option maxHeartbeats 400000 in
theorem write_no (h : MemAt w p g n R B) (k o : Int) (s : ByteArray) (hl : liveB n R k = false) : Calls Try.prog 63 #[.pointer (some ⟨p, 0, none⟩), .int .i64 k, .int .i64 o, .string s] w fun e w' =>
    e = .returned (.int .i64 10) ∧ w.alloc (.cells #[.int .i64 k] 3) = w' := by
  have HL := Lib.hid hl; clear hl
  go_enter Try.func63, Try.ntmps63
  go_wp2_with fail
  refine (find_no h k HL.out).mono ?_
  rintro e w' ⟨rfl, rfl⟩
  go_wp2
  go_ret
  exact ⟨rfl, rfl⟩

set_option maxHeartbeats 400000 in
theorem read_no (h : MemAt w p g n R B) (k o m : Int) (hl : liveB n R k = false) : Calls Try.prog 82 #[.pointer (some ⟨p, 0, none⟩), .int .i64 k, .int .i64 o, .int .i64 m] w fun e w' =>
    e = .returned (.tuple #[.string ⟨#[]⟩, .int .i64 10]) ∧ w.alloc (.cells #[.int .i64 k] 3) = w' := by
  have HL := Lib.hid hl; clear hl
  go_enter Try.func82, Try.ntmps82
  go_wp2_with fail
  refine (find_no h k HL.out).mono ?_
  rintro e w' ⟨rfl, rfl⟩
  go_wp2
  go_ret2
  exact ⟨rfl, rfl⟩

set_option maxHeartbeats 400000 in
theorem write_span (h : MemAt w p g n R B) (k : Nat) (hk : k < n) (hr : 0 < R k) (o : Int) (s : ByteArray) (_hs : s.size ≤ maxLen) (hsp : spanB o s.size = false) : Calls Try.prog 63 #[.pointer (some ⟨p, 0, none⟩), .int .i64 k, .int .i64 o, .string s] w fun e w' =>
    e = .returned (.int .i64 2) ∧ (w.alloc (.cells #[.int .i64 k] 3)).alloc (.cells #[.int .i64 o, .int .i64 s.size] 3) = w' := by
  unfold maxLen at _hs
  unfold spanB at hsp
  go_enter Try.func63, Try.ntmps63
  go_wp2_with fail
  refine (find_ok h k hk hr).mono ?_
  rintro e w' ⟨rfl, rfl⟩
  go_wp2_with fail
  refine (within_two _ o s.size _ _ _ (by omega) (by omega) (by simp) (by simp)).mono ?_
  rintro e w' ⟨rfl, rfl⟩
  rw [hsp]
  go_wp2
  go_ret
  exact ⟨rfl, rfl⟩

set_option maxHeartbeats 400000 in
theorem read_span (h : MemAt w p g n R B) (k : Nat) (hk : k < n) (hr : 0 < R k) (o m : Int) (hsp : spanB o m = false) : Calls Try.prog 82 #[.pointer (some ⟨p, 0, none⟩), .int .i64 k, .int .i64 o, .int .i64 m] w fun e w' =>
    e = .returned (.tuple #[.string ⟨#[]⟩, .int .i64 2]) ∧ (w.alloc (.cells #[.int .i64 k] 3)).alloc (.cells #[.int .i64 o, .int .i64 m] 3) = w' := by
  unfold spanB at hsp
  go_enter Try.func82, Try.ntmps82
  go_wp2_with fail
  refine (find_ok h k hk hr).mono ?_
  rintro e w' ⟨rfl, rfl⟩
  go_wp2_with fail
  refine (within_two _ o m _ _ _ (by omega) (by omega) (by simp) (by simp)).mono ?_
  rintro e w' ⟨rfl, rfl⟩
  rw [hsp]
  go_wp2
  go_ret2
  exact ⟨rfl, rfl⟩

theorem fold_push : ∀ (l : List UInt8) (b : ByteArray), (l.map (fun x : UInt8 => (x.toNat : Int))).foldl (fun r n => r.push (UInt8.ofNat n.toNat)) b = ⟨b.data ++ l.toArray⟩
  | [], b => by simp
  | x :: l, b => by
    simp only [List.map_cons, List.foldl_cons]
    rw [fold_push l]
    simp [ByteArray.push]

/-- string(bytes), of bytes that lie in a block. -/
theorem conv_range (W : World) (b o m cap : Nat) (l : List UInt8) (hl : l.length = m) (h : W.rangeAt b o (l.map bv)) :
    (convert 40 9 (.slice (some ⟨b, o, none⟩) m cap)).run Try.prog W = .ok (.string ⟨l.toArray⟩) W := by
  rw [run_convert_bytes_string W 40 9 5 _ _ _ Try.underlying40 Try.underlying5 Try.underlying9]
  have hld : (loadCells ⟨b, o, none⟩ m).run Try.prog W = .ok ((l.map (fun x : UInt8 => (x.toNat : Int))).map (Value.int .u8)).toArray W := by
    have := run_loadCells_list (P := Try.prog) W ⟨b, o, none⟩ (l.map bv) (fun j v hv => by rw [Addr.add_mid]; exact h j v hv)
    rw [List.length_map, hl] at this
    rw [this]
    simp [bv, Function.comp_def]
  rw [run_bytesToString W _ _ _ _ hld, fold_push]
  simp

theorem sub_range {W : World} {b o : Nat} {l : List UInt8} (h : W.rangeAt b o (l.map bv)) (i m : Nat) : W.rangeAt b (o + i) (((l.drop i).take m).map bv) := fun j v hv => by
  have hj := (List.getElem?_eq_some_iff.1 hv).1
  simp only [List.length_map, List.length_take, List.length_drop] at hj
  rw [Nat.add_assoc]
  apply h (i + j) v
  rw [← hv]
  simp only [List.getElem?_map, List.getElem?_take, List.getElem?_drop]
  rw [if_pos (by omega)]

theorem slice_lo (W : World) (b a o : Nat) (ho : o ≤ 64) : (Instr.sliceAt 52 (.pointer (some ⟨b, a, none⟩)) (some (.int .i64 o)) none none).run Try.prog W = .ok (.slice (some ⟨b, if 64 = o then a else a + o, none⟩) (64 - o) (64 - o)) W := by
  have hz : ∀ W, (Go.sizeOf 5).run Try.prog W = .ok 1 W := fun _ => by kernel_rfl
  have ha : Try.prog.arrayLen 52 = 64 := by kernel_rfl
  have he : Try.prog.elem 52 = 5 := by kernel_rfl
  rw [run_sliceAt_array_l W 52 ⟨b, a, none⟩ (by kernel_rfl) .i64 o (by omega) (by rw [ha]; omega), ha, he, hz]
  simp only [slicedAt, Int.toNat_natCast, Nat.mul_one, Result.andThen_ok, Addr.add_mid]
  split <;> rfl

theorem slice_lohi (W : World) (b a o m : Nat) (ho : o + m ≤ 64) : (Instr.sliceAt 52 (.pointer (some ⟨b, a, none⟩)) (some (.int .i64 o)) (some (.int .i64 ((o : Int) + (m : Int)))) none).run Try.prog W = .ok (.slice (some ⟨b, if 64 = o then a else a + o, none⟩) m (64 - o)) W := by
  have hz : ∀ W, (Go.sizeOf 5).run Try.prog W = .ok 1 W := fun _ => by kernel_rfl
  have ha : Try.prog.arrayLen 52 = 64 := by kernel_rfl
  have he : Try.prog.elem 52 = 5 := by kernel_rfl
  rw [run_sliceAt_array_lh W 52 ⟨b, a, none⟩ (by kernel_rfl) .i64 .i64 o ((o : Int) + m) (by omega) (by omega) (by rw [ha]; omega), ha, he, hz]
  have e : ((o : Int) + (m : Int)).toNat = o + m := by omega
  have e2 : o + m - o = m := by omega
  simp only [slicedAt, Int.toNat_natCast, Nat.mul_one, Result.andThen_ok, Addr.add_mid, e, e2]
  split <;> rfl

theorem toList_length (s : ByteArray) : s.data.toList.length = s.size := by rw [Array.length_toList]; rfl

set_option maxHeartbeats 400000 in
theorem write_in (h : MemAt w p g n R B) (k : Nat) (hk : k < n) (hr : 0 < R k) (o : Nat) (s : ByteArray) (hsp : o + s.size ≤ 64) : Calls Try.prog 63 #[.pointer (some ⟨p, 0, none⟩), .int .i64 k, .int .i64 o, .string s] w fun e w' =>
    e = .returned (.int .i64 0) ∧ MemAt w' p g n R (updB B k (putBytes (B k) o s.data.toList)) ∧ w.grownBy w' (some g) := by
  have hd : decide (0 ≤ (o : Int) ∧ 0 ≤ (s.size : Int) ∧ (o : Int) + (s.size : Int) ≤ 64) = true := by simp; omega
  have hsl := fun W => slice_lo W g (k * 65 + 1) o (by omega)
  have hgr : w.grownBy ((w.alloc (.cells #[.int .i64 k] 3)).alloc (.cells #[.int .i64 o, .int .i64 s.size] 3)) (some g) :=
    grown_trans (World.grownBy_alloc _ _ _) (World.grownBy_alloc _ _ _)
  have h2 := (h.alloc (.cells #[.int .i64 k] 3)).alloc (.cells #[.int .i64 o, .int .i64 s.size] 3)
  have hzz : ∀ w, (Go.sizeOf 5).run Try.prog w = .ok 1 w := fun _ => by kernel_rfl
  have hcp : (Builtin.copy_ #[40, 9] 3 #[.slice (some ⟨g, if 64 = o then k * 65 + 1 else k * 65 + 1 + o, none⟩) (64 - o) (64 - o), .string s]).run Try.prog ((w.alloc (.cells #[.int .i64 k] 3)).alloc (.cells #[.int .i64 o, .int .i64 s.size] 3)) =
      .ok (goInt s.size) (((w.alloc (.cells #[.int .i64 k] 3)).alloc (.cells #[.int .i64 o, .int .i64 s.size] 3)).setCells g (k * 65 + 1 + o) (s.data.toList.map bv)) := by
    have hth := h2.there (o := k * 65 + 1 + o) (m := s.size) (by omega)
    by_cases e : 64 = o
    · have hs0 : s.size = 0 := by omega
      have hse : s.data.toList = [] := List.eq_nil_of_length_eq_zero (by rw [toList_length]; exact hs0)
      rw [run_copy_string _ _ _ _ 5 g _ _ _ s Try.underlying40 hzz (by omega) (fun j hj => by omega) (fun j hj => by omega), hse]
      rfl
    · rw [if_neg e]
      exact run_copy_string _ _ _ _ 5 g _ _ _ s Try.underlying40 hzz (by omega) (fun j hj => (hth j hj).1) (fun j hj => (hth j hj).2)
  have HM := Lib.hid (h2.setB hk (o := o) (s := s.data.toList) (by rw [toList_length]; exact hsp))
  have HG := Lib.hid (grown_trans hgr (grown_setCells _ g (s.data.toList.map bv) (k * 65 + 1 + o)))
  clear hgr h2 hzz
  generalize (if 64 = o then k * 65 + 1 else k * 65 + 1 + o) = a0 at hsl hcp
  go_enter Try.func63, Try.ntmps63
  go_wp2_with fail
  refine (find_ok h k hk hr).mono ?_
  rintro e w' ⟨rfl, rfl⟩
  go_wp2_with fail
  refine (within_two _ o s.size _ _ _ (by omega) (by omega) (by simp) (by simp)).mono ?_
  rintro e w' ⟨rfl, rfl⟩
  rw [hd]
  go_wp2
  go_ret
  exact ⟨rfl, HM.out, HG.out⟩

set_option maxHeartbeats 400000 in
theorem read_in (h : MemAt w p g n R B) (k : Nat) (hk : k < n) (hr : 0 < R k) (o m : Nat) (hsp : o + m ≤ 64) : Calls Try.prog 82 #[.pointer (some ⟨p, 0, none⟩), .int .i64 k, .int .i64 o, .int .i64 m] w fun e w' =>
    e = .returned (.tuple #[.string ⟨(((B k).drop o).take m).toArray⟩, .int .i64 0]) ∧ (w.alloc (.cells #[.int .i64 k] 3)).alloc (.cells #[.int .i64 o, .int .i64 m] 3) = w' := by
  have hd : decide (0 ≤ (o : Int) ∧ 0 ≤ (m : Int) ∧ (o : Int) + (m : Int) ≤ 64) = true := by simp; omega
  have hsl := fun W => slice_lohi W g (k * 65 + 1) o m hsp
  have h2 := (h.alloc (.cells #[.int .i64 k] 3)).alloc (.cells #[.int .i64 o, .int .i64 m] 3)
  have h64 := h2.hB k hk
  have hlen : (((B k).drop o).take m).length = m := by simp; omega
  have hcv : (convert 40 9 (.slice (some ⟨g, if 64 = o then k * 65 + 1 else k * 65 + 1 + o, none⟩) m (64 - o))).run Try.prog ((w.alloc (.cells #[.int .i64 k] 3)).alloc (.cells #[.int .i64 o, .int .i64 m] 3)) =
      .ok (.string ⟨(((B k).drop o).take m).toArray⟩) ((w.alloc (.cells #[.int .i64 k] 3)).alloc (.cells #[.int .i64 o, .int .i64 m] 3)) := by
    refine conv_range _ _ _ _ _ _ hlen ?_
    by_cases e : 64 = o
    · have : ((B k).drop o).take m = [] := List.eq_nil_of_length_eq_zero (by omega)
      rw [this]
      intro j v hv
      simp at hv
    · rw [if_neg e]
      exact sub_range (h2.range hk) o m
  clear h2 h64 hlen
  generalize (if 64 = o then k * 65 + 1 else k * 65 + 1 + o) = a0 at hsl hcv
  generalize ((B k).drop o).take m = l at *
  go_enter Try.func82, Try.ntmps82
  go_wp2_with fail
  refine (find_ok h k hk hr).mono ?_
  rintro e w' ⟨rfl, rfl⟩
  go_wp2_with fail
  refine (within_two _ o m _ _ _ (by omega) (by omega) (by simp) (by simp)).mono ?_
  rintro e w' ⟨rfl, rfl⟩
  rw [hd]
  go_wp2
  go_ret2
  exact ⟨rfl, rfl⟩

end
end Go.Proofs.Ytdkaaoboipphcaa
