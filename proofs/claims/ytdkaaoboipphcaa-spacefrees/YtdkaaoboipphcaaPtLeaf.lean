/- The leaves of package ptable, walked: below, isOfPage, upper, lower, checkRoot, unpack, pack. -/
import Derived.Test.YtdkaaoboipphcaaPtPure
import Derived.Laws.BitsAllLaws
import Derived.Lib.QuoteBits
import Derived.Maps.AppendAt
import Derived.StillTailTactics
namespace Go.Proofs.Ytdkaaoboipphcaa
open Go.RowKit

/-- at least 0, and less than the limit. -/
def belowB (l k : Int) : Bool := decide (0 ≤ k ∧ k < l)

set_option maxHeartbeats 400000 in
theorem pbelow_any (l k : Int) (w : World) : Calls Try.prog 84 #[.int .i64 l, .int .i64 k] w fun e w' => e = .returned (.bool (belowB l k)) ∧ w = w' := by
  by_cases h : 0 ≤ k
  · have HB : Hid (belowB l k = decide (k < l)) := by unfold Hid belowB; simp [h]
    go_enter Try.func84, Try.ntmps84
    go_wp2
    go_ret
    exact ⟨by rw [HB.out]; rfl, rfl⟩
  · have HB : Hid (belowB l k = false) := by unfold Hid belowB; simp; omega
    go_enter Try.func84, Try.ntmps84
    go_wp2
    go_ret
    exact ⟨by rw [HB.out]; rfl, rfl⟩

theorem and_hole (X : Nat) (hX : X < 18446744073709551616) : X &&& 18446744073709551609 = 8 * (X / 8) + X % 2 := by
  have h1 : (X &&& 18446744073709551609) / 2 ^ 3 = X / 8 := by
    rw [Nat.and_div_two_pow, show 18446744073709551609 / 2 ^ 3 = 2 ^ 61 - 1 from by decide, Nat.and_two_pow_sub_one_eq_mod]
    omega
  have h2 : (X &&& 18446744073709551609) % 2 ^ 3 = X % 2 := by
    rw [Nat.and_mod_two_pow, show 18446744073709551609 % 2 ^ 3 = 2 ^ 1 - 1 from by decide, Nat.and_two_pow_sub_one_eq_mod]
    omega
  omega

theorem flags_bits (f : Int) (h0 : -9223372036854775808 ≤ f) (h1 : f < 9223372036854775808) : (bits BinOp.andNot IntKind.i64 f 6 == 1) = flagB f := by
  have hb : bits BinOp.andNot IntKind.i64 f 6 = IntKind.i64.wrap ((BitVec.ofInt 64 f &&& ~~~BitVec.ofInt 64 ((6 : Nat) : Int)).toNat : Int) := rfl
  have hX : (BitVec.ofInt 64 f).toNat = (f % 18446744073709551616).toNat := by rw [BitVec.toNat_ofInt]; rfl
  rw [hb, BitVec.toNat_and, BitVec.toNat_not, ofInt_u64 6 (by omega), show 2 ^ 64 - 1 - 6 = 18446744073709551609 from by decide, hX, and_hole _ (by omega)]
  generalize hY : 8 * ((f % 18446744073709551616).toNat / 8) + (f % 18446744073709551616).toNat % 2 = Y
  have hw : (IntKind.i64.wrap (Y : Int) = 1) ↔ Y = 1 := by
    simp only [IntKind.wrap, IntKind.bits, IntKind.signed, Bool.true_and, decide_eq_true_eq, ge_iff_le]
    split <;> omega
  rw [Bool.eq_iff_iff]
  simp only [beq_iff_eq, flagB, decide_eq_true_eq, hw]
  omega

set_option maxHeartbeats 400000 in
theorem isOfPage_any (f : Int) (h0 : -9223372036854775808 ≤ f) (h1 : f < 9223372036854775808) (w : World) : Calls Try.prog 88 #[.int .i64 f] w fun e w' => e = .returned (.bool (flagB f)) ∧ w = w' := by
  have HB := Lib.hid (flags_bits f h0 h1)
  go_enter Try.func88, Try.ntmps88
  go_wp2
  go_ret
  exact ⟨by rw [← HB.out]; rfl, rfl⟩

set_option maxHeartbeats 400000 in
theorem upper_any (r p : Int) (h0 : 0 ≤ p) (h1 : p < 256) (w : World) : Calls Try.prog 86 #[.int .i64 r, .int .i64 p] w fun e w' => e = .returned (.agg #[.int .i64 r, .int .i64 (p / 16)]) ∧ Below w.heap.size w w' := by
  go_enter Try.func86, Try.ntmps86
  go_wp2
  exact bodyPost_ret (v := .agg #[.int .i64 r, .int .i64 (p / 16)]) (by simp [results, Try.results86, go_sem]) rfl ⟨rfl, (Below.refl _ _).alloc (Nat.le_refl _) _⟩

set_option maxHeartbeats 400000 in
theorem lower_any (r p : Int) (h0 : 0 ≤ p) (h1 : p < 256) (w : World) : Calls Try.prog 87 #[.int .i64 r, .int .i64 p] w fun e w' => e = .returned (.agg #[.int .i64 r, .int .i64 (p % 16)]) ∧ Below w.heap.size w w' := by
  go_enter Try.func87, Try.ntmps87
  go_wp2
  exact bodyPost_ret (v := .agg #[.int .i64 r, .int .i64 (p % 16)]) (by simp [results, Try.results87, go_sem]) rfl ⟨rfl, (Below.refl _ _).alloc (Nat.le_refl _) _⟩

set_option maxHeartbeats 400000 in
theorem checkRoot_nil (k : Int) (w : World) : Calls Try.prog 60 #[.pointer none, .int .i64 k] w fun e w' => e = .returned (.int .i64 1) ∧ w = w' := by
  go_enter Try.func60, Try.ntmps60
  go_wp2
  go_ret
  exact ⟨rfl, rfl⟩

section
variable {w : World} {p g n : Nat} {R : Nat → Int} {B : Nat → List UInt8}

set_option maxHeartbeats 400000 in
theorem checkRoot_no (h : MemAt w p g n R B) (k : Int) (hl : liveB n R k = false) : Calls Try.prog 60 #[.pointer (some ⟨p, 0, none⟩), .int .i64 k] w fun e w' => e = .returned (.int .i64 10) ∧ Below w.heap.size w w' := by
  have HE := Lib.hid (show refsN n R k = 0 by simp [refsN, hl])
  have HL := Lib.hid hl; clear hl
  go_enter Try.func60, Try.ntmps60
  go_wp2_with fail
  refine (refs_fn h k).mono ?_
  rintro e w' ⟨rfl, hB⟩
  rw [HE.out]
  have HB := Lib.hid hB; clear hB
  go_wp2
  go_ret
  exact ⟨rfl, HB.out⟩

set_option maxHeartbeats 400000 in
theorem checkRoot_ok (h : MemAt w p g n R B) (k : Int) (hl : liveB n R k = true) : Calls Try.prog 60 #[.pointer (some ⟨p, 0, none⟩), .int .i64 k] w fun e w' => e = .returned (.int .i64 0) ∧ Below w.heap.size w w' := by
  have hr := live_nat hl
  obtain ⟨j, rfl, hj, hr⟩ := hr
  have HE := Lib.hid (show refsN n R j = R j by simp [refsN, hl])
  have hne : (R j == 0) = false := by simp; omega
  clear hl
  generalize R j = r at *
  go_enter Try.func60, Try.ntmps60
  go_wp2_with fail
  refine (refs_fn h j).mono ?_
  rintro e w' ⟨rfl, hB⟩
  rw [HE.out]
  have HB := Lib.hid hB; clear hB
  go_wp2
  go_ret
  exact ⟨rfl, HB.out⟩
end


/-- a byte as an int. -/
theorem wrap64_byte (c : UInt8) : wrap64 (c.toNat : Int) = (c.toNat : Int) := by
  have := UInt8.toNat_lt c
  unfold wrap64; omega
theorem bit0_byte (c : UInt8) : (bits BinOp.and IntKind.i64 (wrap64 (c.toNat : Int)) 1 == 0) = decide (c.toNat % 2 = 0) := by
  have hc := UInt8.toNat_lt c
  have hb : bits BinOp.and IntKind.i64 (c.toNat : Int) 1 = IntKind.i64.wrap ((BitVec.ofInt 64 (c.toNat : Int) &&& BitVec.ofInt 64 ((1 : Nat) : Int)).toNat : Int) := rfl
  rw [wrap64_byte, hb, BitVec.toNat_and, ofInt_u64 _ (by omega), ofInt_u64 1 (by omega), nat_mask1, Lib.wrap_i64_small _ (by omega)]
  rw [Bool.eq_iff_iff]
  simp only [beq_iff_eq, decide_eq_true_eq]
  omega

theorem frame_bits (c d : UInt8) : bits BinOp.or IntKind.i64 (wrap64 (wrap64 (c.toNat : Int) * 256)) (wrap64 (d.toNat : Int)) = ((c.toNat * 256 + d.toNat : Nat) : Int) := by
  have hc := UInt8.toNat_lt c
  have hd := UInt8.toNat_lt d
  have h1 : wrap64 (wrap64 (c.toNat : Int) * 256) = ((c.toNat * 256 : Nat) : Int) := by rw [wrap64_byte]; unfold wrap64; omega
  rw [h1, wrap64_byte]
  have hb : bits BinOp.or IntKind.i64 ((c.toNat * 256 : Nat) : Int) (d.toNat : Int) = IntKind.i64.wrap ((BitVec.ofInt 64 ((c.toNat * 256 : Nat) : Int) ||| BitVec.ofInt 64 (d.toNat : Int)).toNat : Int) := rfl
  rw [hb, BitVec.toNat_or, ofInt_u64 _ (by omega), ofInt_u64 _ (by omega), nat_join 8 _ _ (by omega) (by omega), Lib.wrap_i64_small _ (by omega)]

theorem entP_zero {l : List UInt8} {i : Nat} (h : entF l i % 2 = 0) : entP l i = (0, 0) := by unfold entP; rw [if_pos h]

set_option maxHeartbeats 400000 in
theorem unpack_no (s : ByteArray) (hs : 4 ≤ s.size) (hc : entF s.data.toList 0 % 2 = 0) (w : World) : Calls Try.prog 83 #[.string s] w fun e w' => e = .returned (.agg #[.int .i64 (entP s.data.toList 0).1, .int .i64 (entP s.data.toList 0).2]) ∧ Below w.heap.size w w' := by
  have HE := Lib.hid (entP_zero hc)
  have h0 : 0 < s.size := by omega
  have hb : (bits BinOp.and IntKind.i64 (wrap64 (s[0].toNat : Int)) 1 == 0) = true := by
    rw [bit0_byte]
    simp only [decide_eq_true_eq]
    have : 0 < s.data.toList.length := by rw [Array.length_toList]; exact h0
    unfold entF at hc
    rw [Nat.mul_zero, List.getElem?_eq_getElem this] at hc
    exact hc
  clear hc
  go_enter Try.func83, Try.ntmps83
  go_wp2
  rw [HE.out]
  exact bodyPost_ret (v := .agg #[.int .i64 0, .int .i64 0]) (by simp [results, Try.results83, go_sem]) rfl ⟨rfl, (Below.refl _ _).alloc (Nat.le_refl _) _⟩

set_option maxHeartbeats 400000 in
theorem unpack_yes (s : ByteArray) (hs : 4 ≤ s.size) (hc : entF s.data.toList 0 % 2 ≠ 0) (w : World) : Calls Try.prog 83 #[.string s] w fun e w' => e = .returned (.agg #[.int .i64 (entP s.data.toList 0).1, .int .i64 (entP s.data.toList 0).2]) ∧ Below w.heap.size w w' := by
  have h0 : 0 < s.size := by omega
  have h2 : 2 < s.size := by omega
  have h3 : 3 < s.size := by omega
  have h2' : (2 : Int) < (s.size : Int) := by omega
  have h3' : (3 : Int) < (s.size : Int) := by omega
  have hg : ∀ (i : Nat) (hi : i < s.size), s.data.toList[i]?.getD 0 = s[i] := fun i hi => by
    have : i < s.data.toList.length := by rw [Array.length_toList]; exact hi
    rw [List.getElem?_eq_getElem this]
    rfl
  have hb : (bits BinOp.and IntKind.i64 (wrap64 (s[0].toNat : Int)) 1 == 0) = false := by
    rw [bit0_byte]
    simp only [decide_eq_false_iff_not]
    rw [← hg 0 h0]
    exact hc
  have HE : Hid (entP s.data.toList 0 = (s[0].toNat, s[2].toNat * 256 + s[3].toNat)) := by
    unfold Hid entP
    rw [if_neg hc]
    unfold ent entF entT
    rw [Nat.mul_zero, Nat.zero_add, Nat.zero_add, hg 0 h0, hg 2 h2, hg 3 h3]
  have HF := Lib.hid (frame_bits s[2] s[3])
  have HW := Lib.hid (wrap64_byte s[0])
  clear hg hc
  go_enter Try.func83, Try.ntmps83
  go_wp2
  go_region
  go_wp2
  exact bodyPost_ret (v := .agg #[.int .i64 (wrap64 (s[0].toNat : Int)), .int .i64 (bits BinOp.or IntKind.i64 (wrap64 (wrap64 (s[2].toNat : Int) * 256)) (wrap64 (s[3].toNat : Int)))]) (by simp [results, Try.results83, go_sem]) rfl ⟨by rw [HE.out, HF.out, HW.out], (((Below.refl _ _).alloc (Nat.le_refl _) _).drew)⟩

/-- the lowest byte of a number. -/
def lowB (a : Int) : UInt8 := UInt8.ofNat (a % 256).toNat
theorem lowB_bv (a : Int) : Value.int .u8 (IntKind.u8.wrap a) = bv (lowB a) := by
  unfold bv lowB
  rw [IntKind.wrap_u8', UInt8.toNat_ofNat']
  congr 1
  omega
theorem lowB_nat (a : Nat) : lowB (a : Int) = UInt8.ofNat a := by
  unfold lowB
  apply UInt8.toNat_inj.1
  rw [UInt8.toNat_ofNat', UInt8.toNat_ofNat']
  omega

theorem Try.infoByte : (Try.prog.info? 5).map (fun i => (i.zero, i.size, i.bytes)) = some (some (.int .u8 0), 1, 1) := by kernel_rfl

set_option maxRecDepth 100000 in
set_option maxHeartbeats 1000000 in
theorem pack_any (w : World) (b cap : Nat) (zs : List Int) (hz : zs.length ≤ 8) (h0 : 0 < zs.length) (hb : b < w.heap.size)
    (hc : ∀ j, j < zs.length → w.cell? ⟨b, j, none⟩ = some (.int .i64 (zs[j]?.getD 0))) :
    Calls Try.prog 97 #[.slice (some ⟨b, 0, none⟩) zs.length cap] w fun e w' => e = .returned (.string ⟨(zs.map lowB).toArray⟩) ∧ Below w.heap.size w w' := by
  obtain ⟨i0, hi, hz0, hz1, hz2⟩ := info_parts Try.infoByte
  obtain ⟨w1, hmk, hown, hgr⟩ := run_make_own (P := Try.prog) w w.heap.size 40 5 i0 _ 1 Try.underlying40 hi hz0 hz1 .i64 .i64 4 (by rw [hz2]; omega) (by unfold maxLen; omega) (Nat.le_refl _)
  rw [show ((4 : Nat) : Int) = 4 from rfl] at hmk
  have HI := Lib.hid hi; have HZ0 := Lib.hid hz0; have HZ1 := Lib.hid hz1; have HZ2 := Lib.hid hz2
  clear hi hz0 hz1 hz2
  have HO := Lib.hid hown
  have HB1 : Hid (Below w.heap.size w w1) := below_of_grown hgr (Nat.le_refl _) (fun k e => by cases e)
  clear hown hgr
  have HC := Lib.hid hc; clear hc
  have HCV : Hid (∀ (W : World) (v : Value), W.ownsRow w.heap.size 5 1 v zs.length ((zs.map lowB).map bv) → (convert 40 9 v).run Try.prog W = .ok (.string ⟨(zs.map lowB).toArray⟩) W) := by
    intro W v hv
    obtain ⟨m, hm⟩ : ∃ m, zs.length = m + 1 := ⟨zs.length - 1, by omega⟩
    have hv' := hv
    rw [hm] at hv'
    obtain ⟨g', cap', rfl⟩ := ownsRow_succ hv'
    refine conv_range W g' 0 (m + 1) cap' (zs.map lowB) (by simp [hm]) (fun j u hu => ?_)
    have := hv.cells (g := g') rfl j u hu
    simpa [Addr.add_mid] using this
  go_enter Try.func97, Try.ntmps97
  go_wp2
  go_loopw [3, 9] (fun t i wr => ∃ k : Nat, k ≤ zs.length ∧ i = .int .i64 k ∧ wr.ownsRow w.heap.size 5 1 t k (((zs.take k).map lowB).map bv) ∧ Below w.heap.size w wr) (fun _ i _ => zs.length - (intOf i).toNat)
  case atStart => exact ⟨0, Nat.zero_le _, rfl, HO.out, HB1.out⟩
  case round =>
    obtain ⟨k, hk, rfl, hown, hB⟩ := hrel
    by_cases hlt : k < zs.length
    · have hck := (hB.cell (p := ⟨b, k, none⟩) hb).trans (HC.out k hlt)
      have HTS := Lib.hid (take_snoc_int zs k hlt)
      generalize zs[k]?.getD 0 = x at hck HTS
      have HO2 := Lib.hid hown; clear hown
      have HB := Lib.hid hB; clear hB
      go_wp2_with (at_builtin; refine wpList_append_own _ rfl (.tmp 13) (.tmp 16) 40 rfl w.heap.size 5 i0 (.int .u8 0) 1 1 Try.underlying40 HI.out HZ0.out HZ1.out HZ2.out rfl (by decide) _ k _ rfl (HO2.out.alloc _) ⟨wr.heap.size, 0, none⟩ 1 1 [.int .u8 (IntKind.u8.wrap x)] rfl rfl (cell_one_new _ _ _) (by simp [Value.oneCell']) (by unfold maxLen; omega) (by omega) (by have := HB.out.size; simp; omega) ?_; intro v1 w2 hown1 hgrow1 _; obtain ⟨g1, cap1, rfl⟩ := ownsRow_succ hown1; have HO3 := Lib.hid hown1; have HG3 := Lib.hid hgrow1; clear hown1 hgrow1)
      go_roundw
      case rel => exact ⟨k + 1, by omega, by go_num, by rw [HTS.out, List.map_append, List.map_append]; show World.ownsRow _ _ _ _ _ _ (_ ++ [bv (lowB x)]); rw [← lowB_bv]; exact HO3.out, (HB.out.alloc HB.out.size _).trans (below_of_grown HG3.out (by have := HB.out.size; simp; omega) (fun j e => (HO2.out.lt j e).1))⟩
      case measure => simp [intOf]; omega
    · obtain rfl : k = zs.length := by omega
      rw [List.take_length] at hown
      have hcv := HCV.out _ _ hown
      clear hown
      go_wp2
      go_ret
      exact ⟨rfl, hB⟩

end Go.Proofs.Ytdkaaoboipphcaa
