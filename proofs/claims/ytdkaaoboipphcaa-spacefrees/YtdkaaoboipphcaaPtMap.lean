/- Package ptable: Map, walked, over the plain machine. -/
import Derived.Test.YtdkaaoboipphcaaPtWalk
namespace Go.Proofs.Ytdkaaoboipphcaa
open Go.RowKit

section
variable {w : World} {a : Option Addr} {root page e v0 v1 v2 v3 : Int}

set_option maxRecDepth 100000 in
set_option maxHeartbeats 1000000 in
theorem map_err (frame flags : Int) (he : e ≠ 0) (hs : Seeks 64 a root page e v0 v1 v2 v3 w) :
    Calls Try.prog 68 #[.pointer a, .int .i64 root, .int .i64 page, .int .i64 frame, .int .i64 flags] w fun r w' => r = .returned (.int .i64 e) ∧ Below w.heap.size w w' := by
  have he1 : (e != 0) = true := by simpa using he
  have HS := Lib.hid hs; clear hs he
  go_enter Try.func68, Try.ntmps68
  go_wp2_with fail
  refine (HS.out _ (Below.refl _ _)).mono ?_
  rintro r w2 ⟨rfl, hB2⟩
  have HB3 := Lib.hid (hB2.alloc hB2.size (.cells #[.int .i64 v0, .int .i64 v1, .int .i64 v2, .int .i64 v3] 102))
  clear hB2
  go_wp2
  go_ret
  exact ⟨rfl, HB3.out⟩

set_option maxRecDepth 100000 in
set_option maxHeartbeats 1000000 in
theorem map_frame (frame flags : Int) (hf : belowB 256 frame = false) (hs : Seeks 64 a root page 0 v0 v1 v2 v3 w) :
    Calls Try.prog 68 #[.pointer a, .int .i64 root, .int .i64 page, .int .i64 frame, .int .i64 flags] w fun r w' => r = .returned (.int .i64 2) ∧ Below w.heap.size w w' := by
  have HS := Lib.hid hs; clear hs
  have HF := Lib.hid hf; clear hf
  go_enter Try.func68, Try.ntmps68
  go_wp2_with fail
  refine (HS.out _ (Below.refl _ _)).mono ?_
  rintro r w2 ⟨rfl, hB2⟩
  have HB3 := Lib.hid (hB2.alloc hB2.size (.cells #[.int .i64 v0, .int .i64 v1, .int .i64 v2, .int .i64 v3] 102))
  clear hB2
  go_wp2_with fail
  refine (pbelow_any _ _ _).mono ?_
  rintro e w' ⟨rfl, rfl⟩
  rw [HF.out]
  go_wp2
  go_ret
  exact ⟨rfl, HB3.out⟩

set_option maxRecDepth 100000 in
set_option maxHeartbeats 1000000 in
theorem map_flags (frame flags : Int) (h0 : -9223372036854775808 ≤ flags) (h1 : flags < 9223372036854775808) (hf : belowB 256 frame = true) (hl : flagB flags = false) (hs : Seeks 64 a root page 0 v0 v1 v2 v3 w) :
    Calls Try.prog 68 #[.pointer a, .int .i64 root, .int .i64 page, .int .i64 frame, .int .i64 flags] w fun r w' => r = .returned (.int .i64 2) ∧ Below w.heap.size w w' := by
  have HS := Lib.hid hs; clear hs
  have HF := Lib.hid hf; clear hf
  have HL := Lib.hid hl; clear hl
  have HO := Lib.hid (isOfPage_any flags h0 h1); clear h0 h1
  go_enter Try.func68, Try.ntmps68
  go_wp2_with fail
  refine (HS.out _ (Below.refl _ _)).mono ?_
  rintro r w2 ⟨rfl, hB2⟩
  have HB3 := Lib.hid (hB2.alloc hB2.size (.cells #[.int .i64 v0, .int .i64 v1, .int .i64 v2, .int .i64 v3] 102))
  clear hB2
  go_wp2_with fail
  refine (pbelow_any _ _ _).mono ?_
  rintro e w' ⟨rfl, rfl⟩
  rw [HF.out]
  go_wp2_with fail
  refine (HO.out _).mono ?_
  rintro e w' ⟨rfl, rfl⟩
  rw [HL.out]
  go_wp2
  go_ret
  exact ⟨rfl, HB3.out⟩

set_option maxRecDepth 100000 in
set_option maxHeartbeats 1000000 in
theorem map_there (frame flags : Int) (h0 : -9223372036854775808 ≤ flags) (h1 : flags < 9223372036854775808) (hf : belowB 256 frame = true) (hl : flagB flags = true) (hv : v2 ≠ 0) (hs : Seeks 64 a root page 0 v0 v1 v2 v3 w) :
    Calls Try.prog 68 #[.pointer a, .int .i64 root, .int .i64 page, .int .i64 frame, .int .i64 flags] w fun r w' => r = .returned (.int .i64 20) ∧ Below w.heap.size w w' := by
  have hv1 : (v2 == 0) = false := by simpa using hv
  clear hv
  have HS := Lib.hid hs; clear hs
  have HF := Lib.hid hf; clear hf
  have HL := Lib.hid hl; clear hl
  have HO := Lib.hid (isOfPage_any flags h0 h1); clear h0 h1
  go_enter Try.func68, Try.ntmps68
  go_wp2_with fail
  refine (HS.out _ (Below.refl _ _)).mono ?_
  rintro r w2 ⟨rfl, hB2⟩
  have HB3 := Lib.hid (hB2.alloc hB2.size (.cells #[.int .i64 v0, .int .i64 v1, .int .i64 v2, .int .i64 v3] 102))
  clear hB2
  go_wp2_with fail
  refine (pbelow_any _ _ _).mono ?_
  rintro e w' ⟨rfl, rfl⟩
  rw [HF.out]
  go_wp2_with fail
  refine (HO.out _).mono ?_
  rintro e w' ⟨rfl, rfl⟩
  rw [HL.out]
  go_wp2
  go_ret
  exact ⟨rfl, HB3.out⟩
end

section
variable {w : World} {p g n : Nat} {R : Nat → Int} {B : Nat → List UInt8} {root : Nat} {T E : Nat → Nat × Nat}

set_option maxRecDepth 100000 in
set_option maxHeartbeats 1000000 in
theorem map_put (h : MemAt w p g n R B) (k q v0 t j frame fl : Nat) (hq : q < 256) (hj : j < 16) (hqj : (q : Int) % 16 = j) (hv0 : v0 ≠ 0) (ht : t < n) (htr : 0 < R t) (hf : frame < 256) (hl : flagB fl = true) (hs : Seeks 64 (some ⟨p, 0, none⟩) k q 0 v0 t 0 0 w) :
    Calls Try.prog 68 #[.pointer (some ⟨p, 0, none⟩), .int .i64 k, .int .i64 q, .int .i64 frame, .int .i64 fl] w fun r w' =>
      r = .returned (.int .i64 0) ∧ MemAt w' p g n R (updB B t (putBytes (B t) (4 * j) (entBytes (fl, frame)))) ∧ w.grownBy w' (some g) := by
  have hv1 : ((v0 : Int) == 0) = false := by rw [beq_eq_false_iff_ne]; omega
  have hfl := flag_natlt hl
  have HS := Lib.hid hs; clear hs
  have HF : Hid (belowB 256 (frame : Int) = true) := by unfold Hid belowB; simp; omega
  have HL := Lib.hid hl; clear hl
  have HO := Lib.hid (isOfPage_any (fl : Int) (by omega) (by omega))
  have HQ := Lib.hid hqj; clear hqj
  clear hv0
  go_enter Try.func68, Try.ntmps68
  go_wp2_with fail
  refine (HS.out _ (Below.refl _ _)).mono ?_
  rintro r w2 ⟨rfl, hB2⟩
  have HB3 := Lib.hid (hB2.alloc hB2.size (.cells #[.int .i64 v0, .int .i64 t, .int .i64 0, .int .i64 0] 102))
  clear hB2
  go_wp2_with fail
  refine (pbelow_any _ _ _).mono ?_
  rintro e w' ⟨rfl, rfl⟩
  rw [HF.out]
  go_wp2_with fail
  refine (HO.out _).mono ?_
  rintro e w' ⟨rfl, rfl⟩
  rw [HL.out]
  go_wp2_with fail
  refine (lower_any _ _ (by omega) (by omega) _).mono ?_
  rintro e w4 ⟨rfl, hB4⟩
  rw [HQ.out]
  have HB4 : Hid (Below w.heap.size w w4) := HB3.out.trans (hB4.mono HB3.out.size)
  clear hB4
  go_wp2_with fail
  refine (put_any (h.below2 HB4.out) t j fl frame ht htr hj).mono ?_
  rintro e w5 ⟨rfl, hM5, hG5⟩
  have HM5 := Lib.hid hM5; have HG5 := Lib.hid hG5
  clear hM5 hG5
  go_wp2
  go_ret
  exact ⟨rfl, HM5.out, grown_trans (grown_of_below HB4.out _) HG5.out⟩

set_option maxRecDepth 100000 in
set_option maxHeartbeats 1000000 in
theorem map_full (h : MemAt w p g n R B) (k q i frame fl : Nat) (hq : q < 256) (hqi : (q : Int) / 16 = i) (hj : ∀ j, j < n → 0 < R j) (hf : frame < 256) (hl : flagB fl = true) (hs : Seeks 64 (some ⟨p, 0, none⟩) k q 0 0 0 0 0 w) :
    Calls Try.prog 68 #[.pointer (some ⟨p, 0, none⟩), .int .i64 k, .int .i64 q, .int .i64 frame, .int .i64 fl] w fun r w' =>
      r = .returned (.int .i64 11) ∧ MemAt w' p g n R B ∧ w.grownBy w' (some g) := by
  have hfl := flag_natlt hl
  have HS := Lib.hid hs; clear hs
  have HF : Hid (belowB 256 (frame : Int) = true) := by unfold Hid belowB; simp; omega
  have HL := Lib.hid hl; clear hl
  have HO := Lib.hid (isOfPage_any (fl : Int) (by omega) (by omega))
  have HI := Lib.hid hqi; clear hqi
  have HJ := Lib.hid hj; clear hj
  have hgl := h.g_lt
  go_enter Try.func68, Try.ntmps68
  go_wp2_with fail
  refine (HS.out _ (Below.refl _ _)).mono ?_
  rintro r w2 ⟨rfl, hB2⟩
  have HB3 := Lib.hid (hB2.alloc hB2.size (.cells #[.int .i64 0, .int .i64 0, .int .i64 0, .int .i64 0] 102))
  have bP := Boxed4.new w2 102 (.int .i64 0) (.int .i64 0) (.int .i64 0) (.int .i64 0)
  have hsz := hB2.size
  clear hB2
  go_wp2_with fail
  refine (pbelow_any _ _ _).mono ?_
  rintro e w' ⟨rfl, rfl⟩
  rw [HF.out]
  go_wp2_with fail
  refine (HO.out _).mono ?_
  rintro e w' ⟨rfl, rfl⟩
  rw [HL.out]
  go_wp2_with fail
  refine (upper_any _ _ (by omega) (by omega) _).mono ?_
  rintro e w4 ⟨rfl, hB4⟩
  rw [HI.out]
  have HB4 : Hid (Below w.heap.size w w4) := HB3.out.trans (hB4.mono HB3.out.size)
  have bP4 := bP.below hB4 bP.lt
  clear hB4 bP
  go_wp2_with fail
  refine (addTable_full (h.below2 HB4.out) k i HJ.out).mono ?_
  rintro e w5 ⟨rfl, hM5, hG5⟩
  have bP5 := bP4.grown hG5 (by omega)
  have c0 := bP5.c0; have c1 := bP5.c1; have f0 := bP5.fz 0; have f1 := bP5.fz 1
  have HM5 := Lib.hid hM5; have HG5 := Lib.hid hG5
  clear hM5 hG5 bP4 bP5
  have hpl := h.p_lt
  go_wp2
  go_ret
  exact ⟨rfl, (HM5.out.setOther _ _ _ (by omega) (by omega)).setOther _ _ _ (by omega) (by omega), grown_setNew (grown_setNew (grown_trans (grown_of_below HB4.out _) HG5.out) _ _ hsz) _ _ hsz⟩

set_option maxRecDepth 100000 in
set_option maxHeartbeats 1000000 in
theorem map_add (h : MemAt w p g n R B) (k q i j frame fl t : Nat) (hk : k < n) (hkr : 0 < R k) (hq : q < 256) (hi : i < 16) (hj : j < 16) (hqi : (q : Int) / 16 = i) (hqj : (q : Int) % 16 = j) (ht : t < n) (ht0 : R t = 0) (htj : ∀ j, j < t → 0 < R j) (hf : frame < 256) (hl : flagB fl = true) (hs : Seeks 64 (some ⟨p, 0, none⟩) k q 0 0 0 0 0 w) :
    Calls Try.prog 68 #[.pointer (some ⟨p, 0, none⟩), .int .i64 k, .int .i64 q, .int .i64 frame, .int .i64 fl] w fun r w' =>
      r = .returned (.int .i64 0) ∧ MemAt w' p g n (updR R t 1) (updB (updB (updB B t zeroPage) k (putBytes (B k) (4 * i) (entBytes (1, t)))) t (putBytes zeroPage (4 * j) (entBytes (fl, frame)))) ∧ w.grownBy w' (some g) := by
  have hfl := flag_natlt hl
  have htk : t ≠ k := fun e => by subst e; omega
  have HS := Lib.hid hs; clear hs
  have HF : Hid (belowB 256 (frame : Int) = true) := by unfold Hid belowB; simp; omega
  have HL := Lib.hid hl; clear hl
  have HO := Lib.hid (isOfPage_any (fl : Int) (by omega) (by omega))
  have HI := Lib.hid hqi; clear hqi
  have HQ := Lib.hid hqj; clear hqj
  have HT0 := Lib.hid ht0; clear ht0
  have HTJ := Lib.hid htj; clear htj
  have HT1 : Hid (0 < updR R t 1 t) := by unfold Hid; simp
  have HBT : Hid (updB (updB B t zeroPage) k (putBytes (B k) (4 * i) (entBytes (1, t))) t = zeroPage) := by unfold Hid; rw [updB_other _ _ htk, updB_same]
  clear htk
  have hgl := h.g_lt
  have hpl := h.p_lt
  go_enter Try.func68, Try.ntmps68
  go_wp2_with fail
  refine (HS.out _ (Below.refl _ _)).mono ?_
  rintro r w2 ⟨rfl, hB2⟩
  have HB3 := Lib.hid (hB2.alloc hB2.size (.cells #[.int .i64 0, .int .i64 0, .int .i64 0, .int .i64 0] 102))
  have bP := Boxed4.new w2 102 (.int .i64 0) (.int .i64 0) (.int .i64 0) (.int .i64 0)
  have hsz := hB2.size
  clear hB2
  go_wp2_with fail
  refine (pbelow_any _ _ _).mono ?_
  rintro e w' ⟨rfl, rfl⟩
  rw [HF.out]
  go_wp2_with fail
  refine (HO.out _).mono ?_
  rintro e w' ⟨rfl, rfl⟩
  rw [HL.out]
  go_wp2_with fail
  refine (upper_any _ _ (by omega) (by omega) _).mono ?_
  rintro e w4 ⟨rfl, hB4⟩
  rw [HI.out]
  have HB4 : Hid (Below w.heap.size w w4) := HB3.out.trans (hB4.mono HB3.out.size)
  have bP4 := bP.below hB4 bP.lt
  clear hB4 bP
  go_wp2_with fail
  refine (addTable_ok (h.below2 HB4.out) k i hk hkr hi ht HT0.out HTJ.out).mono ?_
  rintro e w5 ⟨rfl, hM5, hG5⟩
  have bP5 := bP4.grown hG5 (by omega)
  have c0 := bP5.c0; have c1 := bP5.c1; have f0 := bP5.fz 0; have f1 := bP5.fz 1
  have HM5 := Lib.hid hM5; have HG5 := Lib.hid hG5; have HP5 := Lib.hid bP5
  clear hM5 hG5 bP4 bP5
  go_wp2_with fail
  have HM6 := Lib.hid ((HM5.out.setOther w2.heap.size 0 (.int .i64 1) (by omega) (by omega)).setOther w2.heap.size 1 (.int .i64 t) (by omega) (by omega))
  have HG6 := Lib.hid (grown_setNew (grown_setNew (grown_trans (grown_of_below HB4.out (some g)) HG5.out) 0 (.int .i64 1) hsz) 1 (.int .i64 t) hsz)
  generalize (w5.setCell ⟨w2.heap.size, 0, none⟩ (.int .i64 1)).setCell ⟨w2.heap.size, 1, none⟩ (.int .i64 t) = w6 at *
  refine (lower_any _ _ (by omega) (by omega) _).mono ?_
  rintro e w7 ⟨rfl, hB7⟩
  rw [HQ.out]
  have HM7 := Lib.hid (HM6.out.below hB7)
  have HG7 := Lib.hid (grown_trans HG6.out (grown_of_below hB7 (some g)))
  clear hB7
  go_wp2_with fail
  refine (put_any HM7.out t j fl frame ht HT1.out hj).mono ?_
  rintro e w8 ⟨rfl, hM8, hG8⟩
  have HM8 := Lib.hid hM8; have HG8 := Lib.hid hG8
  clear hM8 hG8
  go_wp2
  go_ret
  have hM := HM8.out
  rw [HBT.out] at hM
  exact ⟨rfl, hM, grown_trans HG7.out HG8.out⟩
end
end Go.Proofs.Ytdkaaoboipphcaa
