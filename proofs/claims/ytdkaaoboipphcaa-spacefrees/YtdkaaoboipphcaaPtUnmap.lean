/- Package ptable: Unmap, walked. -/
import Derived.Test.YtdkaaoboipphcaaPtMap
namespace Go.Proofs.Ytdkaaoboipphcaa
open Go.RowKit

section
variable {w : World} {a : Option Addr} {root page e v0 v1 v2 v3 : Int}

set_option maxRecDepth 100000 in
set_option maxHeartbeats 1000000 in
theorem unmap_err (he : e ≠ 0) (hs : Seeks 50 a root page e v0 v1 v2 v3 w) :
    Calls Try.prog 70 #[.pointer a, .int .i64 root, .int .i64 page] w fun r w' => r = .returned (.tuple #[.int .i64 0, .int .i64 e]) ∧ Below w.heap.size w w' := by
  have he1 : (e != 0) = true := by simpa using he
  have HS := Lib.hid hs; clear hs he
  go_enter Try.func70, Try.ntmps70
  go_wp2_with fail
  refine (HS.out _ (Below.refl _ _)).mono ?_
  rintro r w2 ⟨rfl, hB2⟩
  have HB3 := Lib.hid (hB2.alloc hB2.size (.cells #[.int .i64 v0, .int .i64 v1, .int .i64 v2, .int .i64 v3] 102))
  clear hB2
  go_wp2
  go_ret2
  exact ⟨rfl, HB3.out⟩
end

section
variable {w : World} {p g n : Nat} {R : Nat → Int} {B : Nat → List UInt8}

set_option maxRecDepth 100000 in
set_option maxHeartbeats 1000000 in
theorem unmap_keep (h : MemAt w p g n R B) (k q j v0 t v2 v3 : Nat) (hq : q < 256) (hj : j < 16) (hqj : (q : Int) % 16 = j) (ht : t < n) (htr : 0 < R t)
    (hem : decide (entsTo (updB B t (putBytes (B t) (4 * j) (entBytes (0, 0))) t) 16 = []) = false) (hs : Seeks 50 (some ⟨p, 0, none⟩) k q 0 v0 t v2 v3 w) :
    Calls Try.prog 70 #[.pointer (some ⟨p, 0, none⟩), .int .i64 k, .int .i64 q] w fun r w' =>
      r = .returned (.tuple #[.int .i64 v3, .int .i64 0]) ∧ MemAt w' p g n R (updB B t (putBytes (B t) (4 * j) (entBytes (0, 0)))) ∧ w.grownBy w' (some g) := by
  have HS := Lib.hid hs; clear hs
  have HQ := Lib.hid hqj; clear hqj
  have HE := Lib.hid hem; clear hem
  have hgl := h.g_lt
  go_enter Try.func70, Try.ntmps70
  go_wp2_with fail
  refine (HS.out _ (Below.refl _ _)).mono ?_
  rintro r w2 ⟨rfl, hB2⟩
  have HB3 := Lib.hid (hB2.alloc hB2.size (.cells #[.int .i64 v0, .int .i64 t, .int .i64 v2, .int .i64 v3] 102))
  have bP := Boxed4.new w2 102 (.int .i64 v0) (.int .i64 t) (.int .i64 v2) (.int .i64 v3)
  have hsz := hB2.size
  clear hB2
  go_wp2_with fail
  refine (lower_any _ _ (by omega) (by omega) _).mono ?_
  rintro e w4 ⟨rfl, hB4⟩
  rw [HQ.out]
  have HB4 : Hid (Below w.heap.size w w4) := HB3.out.trans (hB4.mono HB3.out.size)
  have bP4 := bP.below hB4 bP.lt
  clear hB4 bP
  go_wp2_with fail
  refine (put_any (h.below2 HB4.out) t j 0 0 ht htr hj).mono ?_
  rintro e w5 ⟨rfl, hM5, hG5⟩
  have bP5 := bP4.grown hG5 (by omega)
  have c1 := bP5.c1
  have HM5 := Lib.hid hM5; have HG5 := Lib.hid (grown_trans (grown_of_below HB4.out _) hG5); have HP5 := Lib.hid bP5
  clear hM5 hG5 bP4 bP5
  go_wp2_with fail
  refine (isEmpty_any HM5.out t ht htr).mono ?_
  rintro e w6 ⟨rfl, hB6⟩
  rw [HE.out]
  have c3 := (HP5.out.below hB6 HP5.out.lt).c3
  have HM6 := Lib.hid (HM5.out.below hB6)
  have HG6 := Lib.hid (grown_trans HG5.out (grown_of_below hB6 _))
  clear hB6 c1
  go_wp2
  go_ret2
  exact ⟨rfl, HM6.out, HG6.out⟩

set_option maxRecDepth 100000 in
set_option maxHeartbeats 1000000 in
theorem unmap_free (h : MemAt w p g n R B) (k q i j v0 t v2 v3 : Nat) (hk : k < n) (hkr : 0 < R k) (hkt : k ≠ t) (hq : q < 256) (hi : i < 16) (hj : j < 16) (hqi : (q : Int) / 16 = i) (hqj : (q : Int) % 16 = j) (ht : t < n) (htr : R t = 1)
    (hem : decide (entsTo (updB B t (putBytes (B t) (4 * j) (entBytes (0, 0))) t) 16 = []) = true) (hs : Seeks 50 (some ⟨p, 0, none⟩) k q 0 v0 t v2 v3 w) :
    Calls Try.prog 70 #[.pointer (some ⟨p, 0, none⟩), .int .i64 k, .int .i64 q] w fun r w' =>
      r = .returned (.tuple #[.int .i64 v3, .int .i64 0]) ∧ MemAt w' p g n (updR R t 0) (updB (updB B t (putBytes (B t) (4 * j) (entBytes (0, 0)))) k (putBytes (B k) (4 * i) (entBytes (0, 0)))) ∧ w.grownBy w' (some g) := by
  have HS := Lib.hid hs; clear hs
  have HQ := Lib.hid hqj; clear hqj
  have HI := Lib.hid hqi; clear hqi
  have HE := Lib.hid hem; clear hem
  have htr' : 0 < R t := by omega
  have HBK : Hid (updB B t (putBytes (B t) (4 * j) (entBytes (0, 0))) k = B k) := updB_other _ _ hkt
  have HFE : Hid (freeE n R t = 0 ∧ freeR n R t = updR R t 0) := by
    have hl : liveB n R t = true := by simp [liveB, ht, htr']
    refine ⟨by simp [freeE, hl], ?_⟩
    simp only [freeR, hl, if_true, Int.toNat_natCast]
    rw [htr]; rfl
  have hgl := h.g_lt
  clear hkt htr
  go_enter Try.func70, Try.ntmps70
  go_wp2_with fail
  refine (HS.out _ (Below.refl _ _)).mono ?_
  rintro r w2 ⟨rfl, hB2⟩
  have HB3 := Lib.hid (hB2.alloc hB2.size (.cells #[.int .i64 v0, .int .i64 t, .int .i64 v2, .int .i64 v3] 102))
  have bP := Boxed4.new w2 102 (.int .i64 v0) (.int .i64 t) (.int .i64 v2) (.int .i64 v3)
  have hsz := hB2.size
  clear hB2
  go_wp2_with fail
  refine (lower_any _ _ (by omega) (by omega) _).mono ?_
  rintro e w4 ⟨rfl, hB4⟩
  rw [HQ.out]
  have HB4 : Hid (Below w.heap.size w w4) := HB3.out.trans (hB4.mono HB3.out.size)
  have bP4 := bP.below hB4 bP.lt
  clear hB4 bP
  go_wp2_with fail
  refine (put_any (h.below2 HB4.out) t j 0 0 ht htr' hj).mono ?_
  rintro e w5 ⟨rfl, hM5, hG5⟩
  have bP5 := bP4.grown hG5 (by omega)
  have c1 := bP5.c1
  have HM5 := Lib.hid hM5; have HG5 := Lib.hid (grown_trans (grown_of_below HB4.out _) hG5); have HP5 := Lib.hid bP5
  clear hM5 hG5 bP4 bP5
  go_wp2_with fail
  refine (isEmpty_any HM5.out t ht htr').mono ?_
  rintro e w6 ⟨rfl, hB6⟩
  rw [HE.out]
  have HP6 := Lib.hid (HP5.out.below hB6 HP5.out.lt)
  have HM6 := Lib.hid (HM5.out.below hB6)
  have HG6 := Lib.hid (grown_trans HG5.out (grown_of_below hB6 _))
  clear hB6 c1
  go_wp2_with fail
  refine (upper_any _ _ (by omega) (by omega) _).mono ?_
  rintro e w7 ⟨rfl, hB7⟩
  rw [HI.out]
  have HP7 := Lib.hid (HP6.out.below hB7 HP6.out.lt)
  have HM7 := Lib.hid (HM6.out.below hB7)
  have HG7 := Lib.hid (grown_trans HG6.out (grown_of_below hB7 _))
  clear hB7
  go_wp2_with fail
  refine (put_any HM7.out k i 0 0 hk hkr hi).mono ?_
  rintro e w8 ⟨rfl, hM8, hG8⟩
  rw [HBK.out] at hM8
  have bP8 := HP7.out.grown hG8 (by omega)
  have c1 := bP8.c1
  have HM8 := Lib.hid hM8; have HG8 := Lib.hid (grown_trans HG7.out hG8); have HP8 := Lib.hid bP8
  clear hM8 hG8 bP8
  go_wp2_with fail
  refine (free_mem HM8.out t).mono ?_
  rintro e w9 ⟨rfl, hM9, hG9⟩
  rw [HFE.out.2] at hM9
  have c3 := (HP8.out.grown hG9 (by omega)).c3
  have HM9 := Lib.hid hM9; have HG9 := Lib.hid (grown_trans HG8.out hG9)
  clear hM9 hG9 c1
  go_wp2
  go_ret2
  exact ⟨rfl, HM9.out, HG9.out⟩
end
end Go.Proofs.Ytdkaaoboipphcaa
