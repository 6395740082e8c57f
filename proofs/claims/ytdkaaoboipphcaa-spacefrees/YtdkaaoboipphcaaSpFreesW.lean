/- SpaceFrees, walked: numbers that are asked for (1 to 4), any list of pages. -/
import Derived.Test.YtdkaaoboipphcaaSpFrK
import Derived.Test.YtdkaaoboipphcaaCells
import Derived.Test.YtdkaaoboipphcaaRows
namespace Go.Proofs.Ytdkaaoboipphcaa
open Go.RowKit Go.Shelf Go.ChangeShapes Go.WideShapes Go.ChangeAt

theorem and_15 (x : Int) : ∃ q : Nat, q ≤ 15 ∧ bits BinOp.and IntKind.i64 x 15 = (q : Int) := by
  have hb : bits BinOp.and IntKind.i64 x 15 = IntKind.i64.wrap ((BitVec.ofInt 64 x &&& BitVec.ofInt 64 ((15 : Nat) : Int)).toNat : Int) := rfl
  have hle : (BitVec.ofInt 64 x &&& BitVec.ofInt 64 ((15 : Nat) : Int)).toNat ≤ 15 := by
    rw [BitVec.toNat_and, ofInt_u64 15 (by omega)]
    exact Nat.and_le_right
  refine ⟨(BitVec.ofInt 64 x &&& BitVec.ofInt 64 ((15 : Nat) : Int)).toNat, hle, ?_⟩
  rw [hb, IntKind.wrap_i64]
  omega

set_option maxRecDepth 100000 in
set_option maxHeartbeats 8000000 in
theorem frees_walk (a : Option Addr) (len cap : Nat) (w : World) (hl : len ≤ maxLen) (hc : 0 < len → ∃ b off, a = some ⟨b, off, none⟩ ∧ b < w.heap.size ∧ ∀ i, i < len → ∃ x : Int, w.cell? ⟨b, off + i, none⟩ = some (.int .i64 x)) (n count : Nat) (h1 : 1 ≤ n) (h2 : n ≤ 4) (h3 : 1 ≤ count) (h4 : count ≤ 4) :
    Calls Try.prog 3 #[.slice a len cap, .int .i64 n, .int .i64 count] w fun e w' => e = .returned (.bool true) ∧ Below w.heap.size w w' := by
  have HC := Lib.hid hc; clear hc
  unfold maxLen at hl
  have d1 : decide ((n : Int) < 1) = false := decide_eq_false (by omega)
  have d2 : decide ((4 : Int) < n) = false := decide_eq_false (by omega)
  have d3 : decide ((count : Int) < 1) = false := decide_eq_false (by omega)
  have d4 : decide ((4 : Int) < count) = false := decide_eq_false (by omega)
  go_enter Try.func3, Try.ntmps3
  go_wp2_with fail
  refine (shown_any _).mono ?_
  rintro e w1 ⟨rfl, hB1⟩
  have HB1 := Lib.hid hB1; clear hB1
  go_wp2_with fail
  refine (new_ok 60 (by omega) (by omega) _).mono ?_
  rintro e w2 ⟨rfl, hM2, hB2⟩
  have HM2 := Lib.hid hM2
  have HB2 : Hid (Below w.heap.size w w2) := HB1.out.trans (hB2.mono HB1.out.size)
  have HPG : Hid (w.heap.size ≤ w1.heap.size) := HB1.out.size
  clear hM2 hB2
  rw [RK_zero] at HM2
  generalize hp : w1.heap.size + 1 = p at *
  generalize hg : w1.heap.size = g at *
  go_wp2_with fail
  go_loopw [10] (fun i wr => ∃ (k : Nat) (B : Nat → List UInt8), k ≤ 4 ∧ i = .int .i64 k ∧ MemAt wr p g 60 (RK k) B ∧ Below w.heap.size w wr) (fun i _ => 4 - (intOf i).toNat)
  case atStart => exact ⟨0, _, Nat.zero_le _, rfl, HM2.out, HB2.out⟩
  case round =>
    obtain ⟨k, B, hk, rfl, hM, hB⟩ := hrel
    have HM := Lib.hid hM; have HB := Lib.hid hB
    clear hM hB
    by_cases hlt : k < 4
    · go_wp2_with fail
      refine (alloc_fn HM.out).mono ?_
      rintro e w3 ⟨rfl, hM3, hG3⟩
      rw [RK_step k (by omega)] at hM3
      have HM3 := Lib.hid hM3
      have HB3 : Hid (Below w.heap.size w w3) := HB.out.trans (below_of_grown hG3 HB.out.size (fun j e => by cases e; exact HPG.out))
      clear hM3 hG3
      go_wp2
      go_roundw
      case rel => exact ⟨k + 1, _, by omega, by go_num, HM3.out, HB3.out⟩
      case measure => simp [intOf]; omega
    · obtain rfl : k = 4 := by omega
      go_wp2_with fail
      refine (image_small _ _ (by decide) (by decide) _).mono ?_
      rintro e w4 ⟨rfl, hB4⟩
      have HM4 := Lib.hid (MemAt.below2 HM.out hB4)
      have HB4 : Hid (Below w.heap.size w w4) := HB.out.trans (hB4.mono HB.out.size)
      clear hB4
      go_wp2_with fail
      have hex := exec_ok HM4.out (imgB (⟨#[116]⟩ : ByteArray).data.toList (⟨#[]⟩ : ByteArray).data.toList) 1 0 (by decide +kernel) (by omega) (by omega) (by decide +kernel) (by decide +kernel) (by decide +kernel) (by rw [RK_used]; omega)
      rw [show (1 + 63) / 64 = 1 from rfl, show (0 + 63) / 64 = 0 from rfl, RK_root, show ((imgB (⟨#[116]⟩ : ByteArray).data.toList (⟨#[]⟩ : ByteArray).data.toList).data.toList.drop 3).take 1 = [116] by decide +kernel, show (imgB (⟨#[116]⟩ : ByteArray).data.toList (⟨#[]⟩ : ByteArray).data.toList).data.toList.drop (3 + 1) = [] by decide +kernel] at hex
      refine hex.mono ?_
      clear hex
      rintro e w5 ⟨rfl, hM5, hG5⟩
      have HF0 := Lib.hid (frI_zero HM4.out.hB)
      have HM5 := Lib.hid hM5
      have HB5 : Hid (Below w.heap.size w w5) := HB4.out.trans (below_of_grown hG5 HB4.out.size (fun j e => by cases e; exact HPG.out))
      have HGP : Hid (g < w5.heap.size ∧ p < w5.heap.size) := ⟨MemAt.g_lt hM5, MemAt.p_lt hM5⟩
      clear hM5 hG5 HM4 HB4 HM HB HM2 HB2
      generalize loadS 60 4 _ 1 0 [116] [] = S0 at *
      go_wp2_with fail
      generalize hsb : w5.heap.size = sb at *
      have HGS : Hid (g < sb ∧ p < sb ∧ w.heap.size ≤ g) := ⟨HGP.out.1, HGP.out.2, HPG.out⟩
      go_loopw [13] (fun i wr => ∃ (k : Nat) (S : PtS) (va : Option Addr) (vl vc : Nat) (al : List AttV), k ≤ 6 ∧ k ≤ len ∧ i = .int .i64 k ∧ FrI k S al ∧ FrK w wr sb p g S va vl vc al) (fun i _ => 6 - (intOf i).toNat)
      case atStart =>
        refine ⟨0, S0, none, 0, 0, [], Nat.zero_le _, Nat.zero_le _, rfl, HF0.out, ?_⟩
        have hn := heap_alloc_new w5 (.cells #[.int .i64 4, .int .i64 1, .int .i64 0, .int .i64 0, .slice none 0 0] 32)
        rw [hsb] at hn
        exact ⟨MemAt.alloc HM5.out _, .inl ⟨rfl, rfl⟩, hn, HB5.out.alloc HB5.out.size _⟩
      case round =>
        obtain ⟨k, S, va, vl, vc, al, hk, hkl, rfl, hF, hK⟩ := hrel
        have HF := Lib.hid hF; have HK := Lib.hid hK
        clear hF hK
        by_cases hgo : k < len ∧ k < 6
        · obtain ⟨hlt, h6⟩ := hgo
          obtain ⟨b, off, rfl, hb, hcs⟩ := HC.out (by omega)
          obtain ⟨y, hy⟩ := hcs k hlt
          have i0 : (0 : Int) ≤ (k : Int) := by omega
          have i1 : (k : Int) < (len : Int) := by omega
          have t5 := (HK.out.bel.cell (p := ⟨b, off + k, none⟩) hb).trans hy
          obtain ⟨q, hq, hand⟩ := and_15 y
          have t0 : wr.cell? ⟨sb, 0, none⟩ = some (.int .i64 4) := cell_of_heap HK.out.blk rfl
          have t1 : wr.cell? ⟨sb, 1, none⟩ = some (.int .i64 1) := cell_of_heap HK.out.blk rfl
          have t2 : wr.cell? ⟨sb, 2, none⟩ = some (.int .i64 0) := cell_of_heap HK.out.blk rfl
          have t3 : wr.cell? ⟨sb, 3, none⟩ = some (.int .i64 0) := cell_of_heap HK.out.blk rfl
          have t4 : wr.cell? ⟨sb, 4, none⟩ = some (.slice va vl vc) := cell_of_heap HK.out.blk rfl
          have HY := Lib.hid hy
          have hsl := HK.out.slt
          have hgs := HGS.out.1
          have hbw : b < wr.heap.size := Nat.lt_of_lt_of_le hb HK.out.bel.size
          clear hcs hy
          have HW1 := Lib.hid (show IntKind.i64.wrap ((n : Int) - 1) = (n : Int) - 1 by rw [IntKind.wrap_i64]; omega)
          have HW2 := Lib.hid (show IntKind.i64.wrap (128 + (q : Int)) = ((128 + q : Nat) : Int) by rw [IntKind.wrap_i64]; omega)
          go_wp2_with fail
          go_region_held3 (fun w' => w'.cell? ⟨sb, 0, none⟩ = some (.int .i64 4) ∧ w'.cell? ⟨sb, 1, none⟩ = some (.int .i64 1) ∧ w'.cell? ⟨sb, 2, none⟩ = some (.int .i64 0) ∧ w'.cell? ⟨sb, 3, none⟩ = some (.int .i64 0) ∧ w'.cell? ⟨sb, 4, none⟩ = some (.slice va vl vc) ∧ w'.cell? ⟨b, off + k, none⟩ = some (.int .i64 y)) (first | with_reducible exact ⟨t0, t1, t2, t3, t4, t5⟩ | with_reducible exact ⟨v0, v1, v2, v3, v4, v5⟩ | go_keep | with_reducible exact ⟨far5 v0 (by omega), far5 v1 (by omega), far5 v2 (by omega), far5 v3 (by omega), far5 v4 (by omega), far5 v5 (by omega)⟩) (first
            | (go_at_call 10; rw [HW1.out]; refine (given_int n h1 h2 _).mono ?_; rintro e w6 ⟨rfl, rfl⟩)
            | (go_at_call 9; rw [HW2.out]; refine (attach_K (i := k) (by first | with_reducible exact (HK.out.alloc (.cells #[.int .i64 0, .int .i64 1, .int .i64 2, .int .i64 3] 3)).drew | with_reducible exact ((HK.out.alloc (.cells #[.int .i64 0, .int .i64 0, .int .i64 0, .int .i64 0, .slice none 0 0] 32)).alloc (.cells #[.int .i64 0, .int .i64 1, .int .i64 2, .int .i64 3] 3)).drew | with_reducible exact ((HK.out.alloc (.cells #[.int .i64 0, .int .i64 1, .int .i64 2, .int .i64 3] 3)).alloc (.cells #[.int .i64 0, .int .i64 0, .int .i64 0, .int .i64 0, .slice none 0 0] 32)).drew) HF.out (by omega) (by omega) (128 + q) n _ (by omega) (by omega) h1 h2 (by omega) (given_cells (by first | with_reducible exact alloc_one wr _ | with_reducible exact alloc_hi wr (.cells #[.int .i64 0, .int .i64 0, .int .i64 0, .int .i64 0, .slice none 0 0] 32) (.cells #[.int .i64 0, .int .i64 1, .int .i64 2, .int .i64 3] 3) | with_reducible exact alloc_lo wr (.cells #[.int .i64 0, .int .i64 1, .int .i64 2, .int .i64 3] 3) (.cells #[.int .i64 0, .int .i64 0, .int .i64 0, .int .i64 0, .slice none 0 0] 32))) HGS.out.2.2).mono ?_; rintro e w6 ⟨r, t, d, h, ra, rl, rc, x, S', rfl, hM6, hC6, hr6, hG6, hB6, hS6⟩; have v0 : w6.cell? ⟨sb, 0, none⟩ = some (.int .i64 4) := cell_of_heap hS6 rfl; have v1 : w6.cell? ⟨sb, 1, none⟩ = some (.int .i64 1) := cell_of_heap hS6 rfl; have v2 : w6.cell? ⟨sb, 2, none⟩ = some (.int .i64 0) := cell_of_heap hS6 rfl; have v3 : w6.cell? ⟨sb, 3, none⟩ = some (.int .i64 0) := cell_of_heap hS6 rfl; have v4 : w6.cell? ⟨sb, 4, none⟩ = some (.slice va vl vc) := cell_of_heap hS6 rfl; have v5 := (hB6.cell (p := ⟨b, off + k, none⟩) hb).trans HY.out; (first | (have hG' : World.grownBy (wr.alloc (.cells #[.int .i64 0, .int .i64 1, .int .i64 2, .int .i64 3] 3)).drew w6 (some g) := (by with_reducible exact hG6); have HT := Lib.hid (frT_alloc ((HK.out.alloc _).drew : FrK w (wr.alloc (.cells #[.int .i64 0, .int .i64 1, .int .i64 2, .int .i64 3] 3)).drew sb p g S va vl vc al) (by omega) hM6 hC6 (fun e y hy => hr6 e y hy) hG' hB6); clear hG') | (have hG' : World.grownBy ((wr.alloc (.cells #[.int .i64 0, .int .i64 0, .int .i64 0, .int .i64 0, .slice none 0 0] 32)).alloc (.cells #[.int .i64 0, .int .i64 1, .int .i64 2, .int .i64 3] 3)).drew w6 (some g) := (by with_reducible exact hG6); have z := grown_keep hG' (alloc_lo wr (.cells #[.int .i64 0, .int .i64 0, .int .i64 0, .int .i64 0, .slice none 0 0] 32) (.cells #[.int .i64 0, .int .i64 1, .int .i64 2, .int .i64 3] 3)) (by omega); have HT := Lib.hid (frT_set (tb := wr.heap.size) (((HK.out.alloc _).alloc _).drew : FrK w ((wr.alloc (.cells #[.int .i64 0, .int .i64 0, .int .i64 0, .int .i64 0, .slice none 0 0] 32)).alloc (.cells #[.int .i64 0, .int .i64 1, .int .i64 2, .int .i64 3] 3)).drew sb p g S va vl vc al) (by omega) hM6 hC6 (fun e y hy => hr6 e y hy) hG' hB6 (alloc_lo wr (.cells #[.int .i64 0, .int .i64 0, .int .i64 0, .int .i64 0, .slice none 0 0] 32) (.cells #[.int .i64 0, .int .i64 1, .int .i64 2, .int .i64 3] 3)) (by omega) (by omega) (by have := HGS.out.2.1; omega) (by have := HGS.out.2.2; omega) (fun y e => Nat.lt_of_lt_of_le (HK.out.atts.block y e) (by omega))); have z0 : w6.cell? ⟨wr.heap.size, 0, none⟩ = some (.int .i64 0) := cell_of_heap z rfl; have z1 : w6.cell? ⟨wr.heap.size, 1, none⟩ = some (.int .i64 0) := cell_of_heap z rfl; have z2 : w6.cell? ⟨wr.heap.size, 2, none⟩ = some (.int .i64 0) := cell_of_heap z rfl; have z3 : w6.cell? ⟨wr.heap.size, 3, none⟩ = some (.int .i64 0) := cell_of_heap z rfl; have z4 : w6.cell? ⟨wr.heap.size, 4, none⟩ = some (.slice none 0 0) := cell_of_heap z rfl; have y0 : w6.frozen? ⟨wr.heap.size, 0, none⟩ = false := (by simp [World.frozen?, z]); have y1 : w6.frozen? ⟨wr.heap.size, 1, none⟩ = false := (by simp [World.frozen?, z]); have y2 : w6.frozen? ⟨wr.heap.size, 2, none⟩ = false := (by simp [World.frozen?, z]); have y3 : w6.frozen? ⟨wr.heap.size, 3, none⟩ = false := (by simp [World.frozen?, z]); have y4 : w6.frozen? ⟨wr.heap.size, 4, none⟩ = false := (by simp [World.frozen?, z]); clear z hG') | (have hG' : World.grownBy ((wr.alloc (.cells #[.int .i64 0, .int .i64 1, .int .i64 2, .int .i64 3] 3)).alloc (.cells #[.int .i64 0, .int .i64 0, .int .i64 0, .int .i64 0, .slice none 0 0] 32)).drew w6 (some g) := (by with_reducible exact hG6); have z := grown_keep hG' (alloc_hi wr (.cells #[.int .i64 0, .int .i64 1, .int .i64 2, .int .i64 3] 3) (.cells #[.int .i64 0, .int .i64 0, .int .i64 0, .int .i64 0, .slice none 0 0] 32)) (by omega); have HT := Lib.hid (frT_set (tb := wr.heap.size + 1) (((HK.out.alloc _).alloc _).drew : FrK w ((wr.alloc (.cells #[.int .i64 0, .int .i64 1, .int .i64 2, .int .i64 3] 3)).alloc (.cells #[.int .i64 0, .int .i64 0, .int .i64 0, .int .i64 0, .slice none 0 0] 32)).drew sb p g S va vl vc al) (by omega) hM6 hC6 (fun e y hy => hr6 e y hy) hG' hB6 (alloc_hi wr (.cells #[.int .i64 0, .int .i64 1, .int .i64 2, .int .i64 3] 3) (.cells #[.int .i64 0, .int .i64 0, .int .i64 0, .int .i64 0, .slice none 0 0] 32)) (by omega) (by omega) (by have := HGS.out.2.1; omega) (by have := HGS.out.2.2; omega) (fun y e => Nat.lt_of_lt_of_le (HK.out.atts.block y e) (by omega))); have z0 : w6.cell? ⟨wr.heap.size + 1, 0, none⟩ = some (.int .i64 0) := cell_of_heap z rfl; have z1 : w6.cell? ⟨wr.heap.size + 1, 1, none⟩ = some (.int .i64 0) := cell_of_heap z rfl; have z2 : w6.cell? ⟨wr.heap.size + 1, 2, none⟩ = some (.int .i64 0) := cell_of_heap z rfl; have z3 : w6.cell? ⟨wr.heap.size + 1, 3, none⟩ = some (.int .i64 0) := cell_of_heap z rfl; have z4 : w6.cell? ⟨wr.heap.size + 1, 4, none⟩ = some (.slice none 0 0) := cell_of_heap z rfl; have y0 : w6.frozen? ⟨wr.heap.size + 1, 0, none⟩ = false := (by simp [World.frozen?, z]); have y1 : w6.frozen? ⟨wr.heap.size + 1, 1, none⟩ = false := (by simp [World.frozen?, z]); have y2 : w6.frozen? ⟨wr.heap.size + 1, 2, none⟩ = false := (by simp [World.frozen?, z]); have y3 : w6.frozen? ⟨wr.heap.size + 1, 3, none⟩ = false := (by simp [World.frozen?, z]); have y4 : w6.frozen? ⟨wr.heap.size + 1, 4, none⟩ = false := (by simp [World.frozen?, z]); clear z hG')); clear hM6 hC6 hr6 hG6 hB6 hS6))
          · clear v0 v1 v2 v3 v4 v5
            generalize w6.alloc (.cells #[.int .i64 r, .int .i64 t, .int .i64 d, .int .i64 h, .slice ra rl rc] 32) = W7 at *
            have bT := HT.out.blkT
            have bS := HT.out.blk
            have c0 := cell_of_heap (i := 0) (v := .int .i64 r) bT rfl
            have c1 := cell_of_heap (i := 1) (v := .int .i64 t) bT rfl
            have c2 := cell_of_heap (i := 2) (v := .int .i64 d) bT rfl
            have c3 := cell_of_heap (i := 3) (v := .int .i64 h) bT rfl
            have c4 := cell_of_heap (i := 4) (v := .slice ra rl rc) bT rfl
            have s0 := cell_of_heap (i := 0) (v := .int .i64 4) bS rfl
            have s1 := cell_of_heap (i := 1) (v := .int .i64 1) bS rfl
            have s2 := cell_of_heap (i := 2) (v := .int .i64 0) bS rfl
            have s3 := cell_of_heap (i := 3) (v := .int .i64 0) bS rfl
            have s4 := cell_of_heap (i := 4) (v := .slice va vl vc) bS rfl
            have f0 : W7.frozen? ⟨sb, 0, none⟩ = false := by simp [World.frozen?, bS]
            have f1 : W7.frozen? ⟨sb, 1, none⟩ = false := by simp [World.frozen?, bS]
            have f2 : W7.frozen? ⟨sb, 2, none⟩ = false := by simp [World.frozen?, bS]
            have f3 : W7.frozen? ⟨sb, 3, none⟩ = false := by simp [World.frozen?, bS]
            have f4 : W7.frozen? ⟨sb, 4, none⟩ = false := by simp [World.frozen?, bS]
            clear bT bS t0 t1 t2 t3 t4 t5
            rcases HT.out.con with ⟨rfl, rfl, hA, hex⟩ | ⟨rfl, rfl, rfl, rfl, rfl, rfl, rfl, hfr, al', yy, e1, e2, hpm, hA⟩
            · have HK7 : Hid (FrK w W7 sb p g S' va vl vc al) := ⟨HT.out.mem, hA, HT.out.blk, HT.out.bel⟩
              clear hA hex HT
              go_wp2
              go_roundw
              case rel => exact ⟨k + 1, _, va, vl, vc, al, by omega, by omega, by go_num, HF.out.mono, HK7.out⟩
              case measure => simp [intOf]; omega
            · have HK7 := Lib.hid (HT.out.put hA (by omega) HGS.out.2.1 (by have := HGS.out.2.2; omega))
              have HF7 := Lib.hid (HF.out.step (by omega) (128 + q) n yy e1 e2 (by omega) (by omega) h1 h2 hpm hfr)
              clear hA hfr HT e1 e2 hpm
              go_wp2
              go_roundw
              case rel => exact ⟨k + 1, _, ra, al.length + 1, rc, al', by omega, by omega, by go_num, HF7.out, HK7.out⟩
              case measure => simp [intOf]; omega
          · clear v0 v1 v2 v3 v4 v5
            clear z0 z1 z2 z3 z4 y0 y1 y2 y3 y4
            generalize (((((w6.setCell ⟨wr.heap.size + 1, 0, none⟩ (.int .i64 r)).setCell ⟨wr.heap.size + 1, 1, none⟩ (.int .i64 t)).setCell ⟨wr.heap.size + 1, 2, none⟩ (.int .i64 d)).setCell ⟨wr.heap.size + 1, 3, none⟩ (.int .i64 h)).setCell ⟨wr.heap.size + 1, 4, none⟩ (.slice ra rl rc)) = W7 at *
            have bT := HT.out.blkT
            have bS := HT.out.blk
            have c0 := cell_of_heap (i := 0) (v := .int .i64 r) bT rfl
            have c1 := cell_of_heap (i := 1) (v := .int .i64 t) bT rfl
            have c2 := cell_of_heap (i := 2) (v := .int .i64 d) bT rfl
            have c3 := cell_of_heap (i := 3) (v := .int .i64 h) bT rfl
            have c4 := cell_of_heap (i := 4) (v := .slice ra rl rc) bT rfl
            have s0 := cell_of_heap (i := 0) (v := .int .i64 4) bS rfl
            have s1 := cell_of_heap (i := 1) (v := .int .i64 1) bS rfl
            have s2 := cell_of_heap (i := 2) (v := .int .i64 0) bS rfl
            have s3 := cell_of_heap (i := 3) (v := .int .i64 0) bS rfl
            have s4 := cell_of_heap (i := 4) (v := .slice va vl vc) bS rfl
            have f0 : W7.frozen? ⟨sb, 0, none⟩ = false := by simp [World.frozen?, bS]
            have f1 : W7.frozen? ⟨sb, 1, none⟩ = false := by simp [World.frozen?, bS]
            have f2 : W7.frozen? ⟨sb, 2, none⟩ = false := by simp [World.frozen?, bS]
            have f3 : W7.frozen? ⟨sb, 3, none⟩ = false := by simp [World.frozen?, bS]
            have f4 : W7.frozen? ⟨sb, 4, none⟩ = false := by simp [World.frozen?, bS]
            clear bT bS t0 t1 t2 t3 t4 t5
            rcases HT.out.con with ⟨rfl, rfl, hA, hex⟩ | ⟨rfl, rfl, rfl, rfl, rfl, rfl, rfl, hfr, al', yy, e1, e2, hpm, hA⟩
            · have HK7 : Hid (FrK w W7 sb p g S' va vl vc al) := ⟨HT.out.mem, hA, HT.out.blk, HT.out.bel⟩
              clear hA hex HT
              go_wp2
              go_roundw
              case rel => exact ⟨k + 1, _, va, vl, vc, al, by omega, by omega, by go_num, HF.out.mono, HK7.out⟩
              case measure => simp [intOf]; omega
            · have HK7 := Lib.hid (HT.out.put hA (by omega) HGS.out.2.1 (by have := HGS.out.2.2; omega))
              have HF7 := Lib.hid (HF.out.step (by omega) (128 + q) n yy e1 e2 (by omega) (by omega) h1 h2 hpm hfr)
              clear hA hfr HT e1 e2 hpm
              go_wp2
              go_roundw
              case rel => exact ⟨k + 1, _, ra, al.length + 1, rc, al', by omega, by omega, by go_num, HF7.out, HK7.out⟩
              case measure => simp [intOf]; omega
          · clear v0 v1 v2 v3 v4 v5
            clear z0 z1 z2 z3 z4 y0 y1 y2 y3 y4
            generalize (((((w6.setCell ⟨wr.heap.size, 0, none⟩ (.int .i64 r)).setCell ⟨wr.heap.size, 1, none⟩ (.int .i64 t)).setCell ⟨wr.heap.size, 2, none⟩ (.int .i64 d)).setCell ⟨wr.heap.size, 3, none⟩ (.int .i64 h)).setCell ⟨wr.heap.size, 4, none⟩ (.slice ra rl rc)) = W7 at *
            have bT := HT.out.blkT
            have bS := HT.out.blk
            have c0 := cell_of_heap (i := 0) (v := .int .i64 r) bT rfl
            have c1 := cell_of_heap (i := 1) (v := .int .i64 t) bT rfl
            have c2 := cell_of_heap (i := 2) (v := .int .i64 d) bT rfl
            have c3 := cell_of_heap (i := 3) (v := .int .i64 h) bT rfl
            have c4 := cell_of_heap (i := 4) (v := .slice ra rl rc) bT rfl
            have s0 := cell_of_heap (i := 0) (v := .int .i64 4) bS rfl
            have s1 := cell_of_heap (i := 1) (v := .int .i64 1) bS rfl
            have s2 := cell_of_heap (i := 2) (v := .int .i64 0) bS rfl
            have s3 := cell_of_heap (i := 3) (v := .int .i64 0) bS rfl
            have s4 := cell_of_heap (i := 4) (v := .slice va vl vc) bS rfl
            have f0 : W7.frozen? ⟨sb, 0, none⟩ = false := by simp [World.frozen?, bS]
            have f1 : W7.frozen? ⟨sb, 1, none⟩ = false := by simp [World.frozen?, bS]
            have f2 : W7.frozen? ⟨sb, 2, none⟩ = false := by simp [World.frozen?, bS]
            have f3 : W7.frozen? ⟨sb, 3, none⟩ = false := by simp [World.frozen?, bS]
            have f4 : W7.frozen? ⟨sb, 4, none⟩ = false := by simp [World.frozen?, bS]
            clear bT bS t0 t1 t2 t3 t4 t5
            rcases HT.out.con with ⟨rfl, rfl, hA, hex⟩ | ⟨rfl, rfl, rfl, rfl, rfl, rfl, rfl, hfr, al', yy, e1, e2, hpm, hA⟩
            · have HK7 : Hid (FrK w W7 sb p g S' va vl vc al) := ⟨HT.out.mem, hA, HT.out.blk, HT.out.bel⟩
              clear hA hex HT
              go_wp2
              go_roundw
              case rel => exact ⟨k + 1, _, va, vl, vc, al, by omega, by omega, by go_num, HF.out.mono, HK7.out⟩
              case measure => simp [intOf]; omega
            · have HK7 := Lib.hid (HT.out.put hA (by omega) HGS.out.2.1 (by have := HGS.out.2.2; omega))
              have HF7 := Lib.hid (HF.out.step (by omega) (128 + q) n yy e1 e2 (by omega) (by omega) h1 h2 hpm hfr)
              clear hA hfr HT e1 e2 hpm
              go_wp2
              go_roundw
              case rel => exact ⟨k + 1, _, ra, al.length + 1, rc, al', by omega, by omega, by go_num, HF7.out, HK7.out⟩
              case measure => simp [intOf]; omega
        · have hex : (¬ k < len) ∨ (k < len ∧ ¬ k < 6) := by omega
          have t0 : wr.cell? ⟨sb, 0, none⟩ = some (.int .i64 4) := cell_of_heap HK.out.blk rfl
          have t1 : wr.cell? ⟨sb, 1, none⟩ = some (.int .i64 1) := cell_of_heap HK.out.blk rfl
          have t2 : wr.cell? ⟨sb, 2, none⟩ = some (.int .i64 0) := cell_of_heap HK.out.blk rfl
          have t3 : wr.cell? ⟨sb, 3, none⟩ = some (.int .i64 0) := cell_of_heap HK.out.blk rfl
          have t4 : wr.cell? ⟨sb, 4, none⟩ = some (.slice va vl vc) := cell_of_heap HK.out.blk rfl
          clear hgo
          rcases hex with h5 | ⟨h5, h6⟩
          all_goals
            go_wp2_with fail
            refine (callsIn_wide.1 (free_in 4 1 0 0 va vl vc al count h3 (by omega) (by have := HF.out.len; omega) HK.out.atts)).mono ?_
            rintro e w8 ⟨hor, hB8⟩
            obtain ⟨j, hj, rfl, hno, hyes⟩ := hor.resolve_right (fun ⟨_, hall⟩ => by
              have := hall 20 (by omega)
              rw [show 128 + 20 = 148 from rfl, HF.out.room] at this
              cases this)
            have HK8 := Lib.hid (HK.out.below hB8)
            have HJ := Lib.hid (⟨hno, hyes⟩ : _ ∧ _)
            clear hor hB8 hno hyes t0 t1 t2 t3 t4 HK
            go_wp2_with fail
            obtain rfl : vl = al.length := HK8.out.atts.len
            go_loopw [17] (fun i wr => ∃ m : Nat, m ≤ j ∧ i = .int .i64 ((128 + m : Nat) : Int) ∧ FrK w wr sb p g S va al.length vc al) (fun i _ => 128 + j - (intOf i).toNat)
            case atStart => exact ⟨0, Nat.zero_le _, rfl, HK8.out⟩
            case round =>
              obtain ⟨m, hm, rfl, hK9⟩ := hrel
              have HK9 := Lib.hid hK9
              clear hK9
              have hgs := HGS.out.1
              by_cases hmj : m < j
              · have hlt9 : ((128 + m : Nat) : Int) < ((128 + j : Nat) : Int) := by omega
                have hsl := HK9.out.slt
                have t0 : wr.cell? ⟨sb, 0, none⟩ = some (.int .i64 4) := cell_of_heap HK9.out.blk rfl
                have t1 : wr.cell? ⟨sb, 1, none⟩ = some (.int .i64 1) := cell_of_heap HK9.out.blk rfl
                have t2 : wr.cell? ⟨sb, 2, none⟩ = some (.int .i64 0) := cell_of_heap HK9.out.blk rfl
                have t3 : wr.cell? ⟨sb, 3, none⟩ = some (.int .i64 0) := cell_of_heap HK9.out.blk rfl
                have t4 : wr.cell? ⟨sb, 4, none⟩ = some (.slice va al.length vc) := cell_of_heap HK9.out.blk rfl
                have HW1 := Lib.hid (show IntKind.i64.wrap ((count : Int) - 1) = (count : Int) - 1 by rw [IntKind.wrap_i64]; omega)
                go_wp2_with fail
                go_region_held3 (fun w' => w'.cell? ⟨sb, 0, none⟩ = some (.int .i64 4) ∧ w'.cell? ⟨sb, 1, none⟩ = some (.int .i64 1) ∧ w'.cell? ⟨sb, 2, none⟩ = some (.int .i64 0) ∧ w'.cell? ⟨sb, 3, none⟩ = some (.int .i64 0) ∧ w'.cell? ⟨sb, 4, none⟩ = some (.slice va al.length vc)) (first | with_reducible exact ⟨t0, t1, t2, t3, t4⟩ | with_reducible exact ⟨v0, v1, v2, v3, v4⟩ | go_keep | with_reducible exact ⟨far5 v0 (by omega), far5 v1 (by omega), far5 v2 (by omega), far5 v3 (by omega), far5 v4 (by omega)⟩) (first
                  | (go_at_call 10; rw [HW1.out]; refine (given_int count h3 h4 _).mono ?_; rintro e w6 ⟨rfl, rfl⟩)
                  | (go_at_call 9; refine (attach_K (i := k) (by first | with_reducible exact (HK9.out.alloc (.cells #[.int .i64 0, .int .i64 1, .int .i64 2, .int .i64 3] 3)).drew | with_reducible exact ((HK9.out.alloc (.cells #[.int .i64 0, .int .i64 0, .int .i64 0, .int .i64 0, .slice none 0 0] 32)).alloc (.cells #[.int .i64 0, .int .i64 1, .int .i64 2, .int .i64 3] 3)).drew | with_reducible exact ((HK9.out.alloc (.cells #[.int .i64 0, .int .i64 1, .int .i64 2, .int .i64 3] 3)).alloc (.cells #[.int .i64 0, .int .i64 0, .int .i64 0, .int .i64 0, .slice none 0 0] 32)).drew) HF.out (by omega) (by omega) (128 + m) count _ (by omega) (by omega) h3 h4 (by omega) (given_cells (by first | with_reducible exact alloc_one wr _ | with_reducible exact alloc_hi wr (.cells #[.int .i64 0, .int .i64 0, .int .i64 0, .int .i64 0, .slice none 0 0] 32) (.cells #[.int .i64 0, .int .i64 1, .int .i64 2, .int .i64 3] 3) | with_reducible exact alloc_lo wr (.cells #[.int .i64 0, .int .i64 1, .int .i64 2, .int .i64 3] 3) (.cells #[.int .i64 0, .int .i64 0, .int .i64 0, .int .i64 0, .slice none 0 0] 32))) HGS.out.2.2).mono ?_; rintro e w6 ⟨r, t, d, h, ra, rl, rc, x, S', rfl, hM6, hC6, hr6, hG6, hB6, hS6⟩; have v0 : w6.cell? ⟨sb, 0, none⟩ = some (.int .i64 4) := cell_of_heap hS6 rfl; have v1 : w6.cell? ⟨sb, 1, none⟩ = some (.int .i64 1) := cell_of_heap hS6 rfl; have v2 : w6.cell? ⟨sb, 2, none⟩ = some (.int .i64 0) := cell_of_heap hS6 rfl; have v3 : w6.cell? ⟨sb, 3, none⟩ = some (.int .i64 0) := cell_of_heap hS6 rfl; have v4 : w6.cell? ⟨sb, 4, none⟩ = some (.slice va al.length vc) := cell_of_heap hS6 rfl; (first | (have hG' : World.grownBy (wr.alloc (.cells #[.int .i64 0, .int .i64 1, .int .i64 2, .int .i64 3] 3)).drew w6 (some g) := (by with_reducible exact hG6); have HT := Lib.hid (frT_alloc ((HK9.out.alloc _).drew : FrK w (wr.alloc (.cells #[.int .i64 0, .int .i64 1, .int .i64 2, .int .i64 3] 3)).drew sb p g S va al.length vc al) (by omega) hM6 hC6 (fun e y hy => hr6 e y hy) hG' hB6); clear hG') | (have hG' : World.grownBy ((wr.alloc (.cells #[.int .i64 0, .int .i64 0, .int .i64 0, .int .i64 0, .slice none 0 0] 32)).alloc (.cells #[.int .i64 0, .int .i64 1, .int .i64 2, .int .i64 3] 3)).drew w6 (some g) := (by with_reducible exact hG6); have z := grown_keep hG' (alloc_lo wr (.cells #[.int .i64 0, .int .i64 0, .int .i64 0, .int .i64 0, .slice none 0 0] 32) (.cells #[.int .i64 0, .int .i64 1, .int .i64 2, .int .i64 3] 3)) (by omega); have HT := Lib.hid (frT_set (tb := wr.heap.size) (((HK9.out.alloc _).alloc _).drew : FrK w ((wr.alloc (.cells #[.int .i64 0, .int .i64 0, .int .i64 0, .int .i64 0, .slice none 0 0] 32)).alloc (.cells #[.int .i64 0, .int .i64 1, .int .i64 2, .int .i64 3] 3)).drew sb p g S va al.length vc al) (by omega) hM6 hC6 (fun e y hy => hr6 e y hy) hG' hB6 (alloc_lo wr (.cells #[.int .i64 0, .int .i64 0, .int .i64 0, .int .i64 0, .slice none 0 0] 32) (.cells #[.int .i64 0, .int .i64 1, .int .i64 2, .int .i64 3] 3)) (by omega) (by omega) (by have := HGS.out.2.1; omega) (by have := HGS.out.2.2; omega) (fun y e => Nat.lt_of_lt_of_le (HK9.out.atts.block y e) (by omega))); have z0 : w6.cell? ⟨wr.heap.size, 0, none⟩ = some (.int .i64 0) := cell_of_heap z rfl; have z1 : w6.cell? ⟨wr.heap.size, 1, none⟩ = some (.int .i64 0) := cell_of_heap z rfl; have z2 : w6.cell? ⟨wr.heap.size, 2, none⟩ = some (.int .i64 0) := cell_of_heap z rfl; have z3 : w6.cell? ⟨wr.heap.size, 3, none⟩ = some (.int .i64 0) := cell_of_heap z rfl; have z4 : w6.cell? ⟨wr.heap.size, 4, none⟩ = some (.slice none 0 0) := cell_of_heap z rfl; have y0 : w6.frozen? ⟨wr.heap.size, 0, none⟩ = false := (by simp [World.frozen?, z]); have y1 : w6.frozen? ⟨wr.heap.size, 1, none⟩ = false := (by simp [World.frozen?, z]); have y2 : w6.frozen? ⟨wr.heap.size, 2, none⟩ = false := (by simp [World.frozen?, z]); have y3 : w6.frozen? ⟨wr.heap.size, 3, none⟩ = false := (by simp [World.frozen?, z]); have y4 : w6.frozen? ⟨wr.heap.size, 4, none⟩ = false := (by simp [World.frozen?, z]); clear z hG') | (have hG' : World.grownBy ((wr.alloc (.cells #[.int .i64 0, .int .i64 1, .int .i64 2, .int .i64 3] 3)).alloc (.cells #[.int .i64 0, .int .i64 0, .int .i64 0, .int .i64 0, .slice none 0 0] 32)).drew w6 (some g) := (by with_reducible exact hG6); have z := grown_keep hG' (alloc_hi wr (.cells #[.int .i64 0, .int .i64 1, .int .i64 2, .int .i64 3] 3) (.cells #[.int .i64 0, .int .i64 0, .int .i64 0, .int .i64 0, .slice none 0 0] 32)) (by omega); have HT := Lib.hid (frT_set (tb := wr.heap.size + 1) (((HK9.out.alloc _).alloc _).drew : FrK w ((wr.alloc (.cells #[.int .i64 0, .int .i64 1, .int .i64 2, .int .i64 3] 3)).alloc (.cells #[.int .i64 0, .int .i64 0, .int .i64 0, .int .i64 0, .slice none 0 0] 32)).drew sb p g S va al.length vc al) (by omega) hM6 hC6 (fun e y hy => hr6 e y hy) hG' hB6 (alloc_hi wr (.cells #[.int .i64 0, .int .i64 1, .int .i64 2, .int .i64 3] 3) (.cells #[.int .i64 0, .int .i64 0, .int .i64 0, .int .i64 0, .slice none 0 0] 32)) (by omega) (by omega) (by have := HGS.out.2.1; omega) (by have := HGS.out.2.2; omega) (fun y e => Nat.lt_of_lt_of_le (HK9.out.atts.block y e) (by omega))); have z0 : w6.cell? ⟨wr.heap.size + 1, 0, none⟩ = some (.int .i64 0) := cell_of_heap z rfl; have z1 : w6.cell? ⟨wr.heap.size + 1, 1, none⟩ = some (.int .i64 0) := cell_of_heap z rfl; have z2 : w6.cell? ⟨wr.heap.size + 1, 2, none⟩ = some (.int .i64 0) := cell_of_heap z rfl; have z3 : w6.cell? ⟨wr.heap.size + 1, 3, none⟩ = some (.int .i64 0) := cell_of_heap z rfl; have z4 : w6.cell? ⟨wr.heap.size + 1, 4, none⟩ = some (.slice none 0 0) := cell_of_heap z rfl; have y0 : w6.frozen? ⟨wr.heap.size + 1, 0, none⟩ = false := (by simp [World.frozen?, z]); have y1 : w6.frozen? ⟨wr.heap.size + 1, 1, none⟩ = false := (by simp [World.frozen?, z]); have y2 : w6.frozen? ⟨wr.heap.size + 1, 2, none⟩ = false := (by simp [World.frozen?, z]); have y3 : w6.frozen? ⟨wr.heap.size + 1, 3, none⟩ = false := (by simp [World.frozen?, z]); have y4 : w6.frozen? ⟨wr.heap.size + 1, 4, none⟩ = false := (by simp [World.frozen?, z]); clear z hG')); clear hM6 hC6 hr6 hG6 hB6 hS6))
                · clear v0 v1 v2 v3 v4
                  generalize w6.alloc (.cells #[.int .i64 r, .int .i64 t, .int .i64 d, .int .i64 h, .slice ra rl rc] 32) = W7 at *
                  clear t0 t1 t2 t3 t4
                  rcases HT.out.con with ⟨rfl, rfl, hA, hex⟩ | ⟨rfl, rfl, rfl, rfl, rfl, rfl, rfl, hfr, al', yy, e1, e2, hpm, hA⟩
                  · have HK7 : Hid (FrK w W7 sb p g S' va al.length vc al) := ⟨HT.out.mem, hA, HT.out.blk, HT.out.bel⟩
                    clear hA hex HT
                    go_wp2
                    go_roundw
                    case rel => exact ⟨m + 1, by omega, by go_num, HK7.out⟩
                    case measure => simp [intOf]; omega
                  · exfalso
                    obtain ⟨i, hi, hE⟩ := HF.out.hit h3 (HJ.out.2 m hmj)
                    exact hE (hfr i hi)
                · clear v0 v1 v2 v3 v4
                  clear z0 z1 z2 z3 z4 y0 y1 y2 y3 y4
                  generalize (((((w6.setCell ⟨wr.heap.size + 1, 0, none⟩ (.int .i64 r)).setCell ⟨wr.heap.size + 1, 1, none⟩ (.int .i64 t)).setCell ⟨wr.heap.size + 1, 2, none⟩ (.int .i64 d)).setCell ⟨wr.heap.size + 1, 3, none⟩ (.int .i64 h)).setCell ⟨wr.heap.size + 1, 4, none⟩ (.slice ra rl rc)) = W7 at *
                  clear t0 t1 t2 t3 t4
                  rcases HT.out.con with ⟨rfl, rfl, hA, hex⟩ | ⟨rfl, rfl, rfl, rfl, rfl, rfl, rfl, hfr, al', yy, e1, e2, hpm, hA⟩
                  · have HK7 : Hid (FrK w W7 sb p g S' va al.length vc al) := ⟨HT.out.mem, hA, HT.out.blk, HT.out.bel⟩
                    clear hA hex HT
                    go_wp2
                    go_roundw
                    case rel => exact ⟨m + 1, by omega, by go_num, HK7.out⟩
                    case measure => simp [intOf]; omega
                  · exfalso
                    obtain ⟨i, hi, hE⟩ := HF.out.hit h3 (HJ.out.2 m hmj)
                    exact hE (hfr i hi)
                · clear v0 v1 v2 v3 v4
                  clear z0 z1 z2 z3 z4 y0 y1 y2 y3 y4
                  generalize (((((w6.setCell ⟨wr.heap.size, 0, none⟩ (.int .i64 r)).setCell ⟨wr.heap.size, 1, none⟩ (.int .i64 t)).setCell ⟨wr.heap.size, 2, none⟩ (.int .i64 d)).setCell ⟨wr.heap.size, 3, none⟩ (.int .i64 h)).setCell ⟨wr.heap.size, 4, none⟩ (.slice ra rl rc)) = W7 at *
                  clear t0 t1 t2 t3 t4
                  rcases HT.out.con with ⟨rfl, rfl, hA, hex⟩ | ⟨rfl, rfl, rfl, rfl, rfl, rfl, rfl, hfr, al', yy, e1, e2, hpm, hA⟩
                  · have HK7 : Hid (FrK w W7 sb p g S' va al.length vc al) := ⟨HT.out.mem, hA, HT.out.blk, HT.out.bel⟩
                    clear hA hex HT
                    go_wp2
                    go_roundw
                    case rel => exact ⟨m + 1, by omega, by go_num, HK7.out⟩
                    case measure => simp [intOf]; omega
                  · exfalso
                    obtain ⟨i, hi, hE⟩ := HF.out.hit h3 (HJ.out.2 m hmj)
                    exact hE (hfr i hi)
              · obtain rfl : m = j := by omega
                have hsl := HK9.out.slt
                have t0 : wr.cell? ⟨sb, 0, none⟩ = some (.int .i64 4) := cell_of_heap HK9.out.blk rfl
                have t1 : wr.cell? ⟨sb, 1, none⟩ = some (.int .i64 1) := cell_of_heap HK9.out.blk rfl
                have t2 : wr.cell? ⟨sb, 2, none⟩ = some (.int .i64 0) := cell_of_heap HK9.out.blk rfl
                have t3 : wr.cell? ⟨sb, 3, none⟩ = some (.int .i64 0) := cell_of_heap HK9.out.blk rfl
                have t4 : wr.cell? ⟨sb, 4, none⟩ = some (.slice va al.length vc) := cell_of_heap HK9.out.blk rfl
                have HW1 := Lib.hid (show IntKind.i64.wrap ((count : Int) - 1) = (count : Int) - 1 by rw [IntKind.wrap_i64]; omega)
                go_wp2_with fail
                go_region_held3 (fun w' => w'.cell? ⟨sb, 0, none⟩ = some (.int .i64 4) ∧ w'.cell? ⟨sb, 1, none⟩ = some (.int .i64 1) ∧ w'.cell? ⟨sb, 2, none⟩ = some (.int .i64 0) ∧ w'.cell? ⟨sb, 3, none⟩ = some (.int .i64 0) ∧ w'.cell? ⟨sb, 4, none⟩ = some (.slice va al.length vc)) (first | with_reducible exact ⟨t0, t1, t2, t3, t4⟩ | with_reducible exact ⟨v0, v1, v2, v3, v4⟩ | go_keep | with_reducible exact ⟨far5 v0 (by omega), far5 v1 (by omega), far5 v2 (by omega), far5 v3 (by omega), far5 v4 (by omega)⟩) (first
                  | (go_at_call 10; rw [HW1.out]; refine (given_int count h3 h4 _).mono ?_; rintro e w6 ⟨rfl, rfl⟩)
                  | (go_at_call 9; refine (attach_K (i := k) (by first | with_reducible exact (HK9.out.alloc (.cells #[.int .i64 0, .int .i64 1, .int .i64 2, .int .i64 3] 3)).drew | with_reducible exact ((HK9.out.alloc (.cells #[.int .i64 0, .int .i64 0, .int .i64 0, .int .i64 0, .slice none 0 0] 32)).alloc (.cells #[.int .i64 0, .int .i64 1, .int .i64 2, .int .i64 3] 3)).drew | with_reducible exact ((HK9.out.alloc (.cells #[.int .i64 0, .int .i64 1, .int .i64 2, .int .i64 3] 3)).alloc (.cells #[.int .i64 0, .int .i64 0, .int .i64 0, .int .i64 0, .slice none 0 0] 32)).drew) HF.out (by omega) (by omega) (128 + m) count _ (by omega) (by omega) h3 h4 (by omega) (given_cells (by first | with_reducible exact alloc_one wr _ | with_reducible exact alloc_hi wr (.cells #[.int .i64 0, .int .i64 0, .int .i64 0, .int .i64 0, .slice none 0 0] 32) (.cells #[.int .i64 0, .int .i64 1, .int .i64 2, .int .i64 3] 3) | with_reducible exact alloc_lo wr (.cells #[.int .i64 0, .int .i64 1, .int .i64 2, .int .i64 3] 3) (.cells #[.int .i64 0, .int .i64 0, .int .i64 0, .int .i64 0, .slice none 0 0] 32))) HGS.out.2.2).mono ?_; rintro e w6 ⟨r, t, d, h, ra, rl, rc, x, S', rfl, hM6, hC6, hr6, hG6, hB6, hS6⟩; have v0 : w6.cell? ⟨sb, 0, none⟩ = some (.int .i64 4) := cell_of_heap hS6 rfl; have v1 : w6.cell? ⟨sb, 1, none⟩ = some (.int .i64 1) := cell_of_heap hS6 rfl; have v2 : w6.cell? ⟨sb, 2, none⟩ = some (.int .i64 0) := cell_of_heap hS6 rfl; have v3 : w6.cell? ⟨sb, 3, none⟩ = some (.int .i64 0) := cell_of_heap hS6 rfl; have v4 : w6.cell? ⟨sb, 4, none⟩ = some (.slice va al.length vc) := cell_of_heap hS6 rfl; (first | (have hG' : World.grownBy (wr.alloc (.cells #[.int .i64 0, .int .i64 1, .int .i64 2, .int .i64 3] 3)).drew w6 (some g) := (by with_reducible exact hG6); have HT := Lib.hid (frT_alloc ((HK9.out.alloc _).drew : FrK w (wr.alloc (.cells #[.int .i64 0, .int .i64 1, .int .i64 2, .int .i64 3] 3)).drew sb p g S va al.length vc al) (by omega) hM6 hC6 (fun e y hy => hr6 e y hy) hG' hB6); clear hG') | (have hG' : World.grownBy ((wr.alloc (.cells #[.int .i64 0, .int .i64 0, .int .i64 0, .int .i64 0, .slice none 0 0] 32)).alloc (.cells #[.int .i64 0, .int .i64 1, .int .i64 2, .int .i64 3] 3)).drew w6 (some g) := (by with_reducible exact hG6); have z := grown_keep hG' (alloc_lo wr (.cells #[.int .i64 0, .int .i64 0, .int .i64 0, .int .i64 0, .slice none 0 0] 32) (.cells #[.int .i64 0, .int .i64 1, .int .i64 2, .int .i64 3] 3)) (by omega); have HT := Lib.hid (frT_set (tb := wr.heap.size) (((HK9.out.alloc _).alloc _).drew : FrK w ((wr.alloc (.cells #[.int .i64 0, .int .i64 0, .int .i64 0, .int .i64 0, .slice none 0 0] 32)).alloc (.cells #[.int .i64 0, .int .i64 1, .int .i64 2, .int .i64 3] 3)).drew sb p g S va al.length vc al) (by omega) hM6 hC6 (fun e y hy => hr6 e y hy) hG' hB6 (alloc_lo wr (.cells #[.int .i64 0, .int .i64 0, .int .i64 0, .int .i64 0, .slice none 0 0] 32) (.cells #[.int .i64 0, .int .i64 1, .int .i64 2, .int .i64 3] 3)) (by omega) (by omega) (by have := HGS.out.2.1; omega) (by have := HGS.out.2.2; omega) (fun y e => Nat.lt_of_lt_of_le (HK9.out.atts.block y e) (by omega))); have z0 : w6.cell? ⟨wr.heap.size, 0, none⟩ = some (.int .i64 0) := cell_of_heap z rfl; have z1 : w6.cell? ⟨wr.heap.size, 1, none⟩ = some (.int .i64 0) := cell_of_heap z rfl; have z2 : w6.cell? ⟨wr.heap.size, 2, none⟩ = some (.int .i64 0) := cell_of_heap z rfl; have z3 : w6.cell? ⟨wr.heap.size, 3, none⟩ = some (.int .i64 0) := cell_of_heap z rfl; have z4 : w6.cell? ⟨wr.heap.size, 4, none⟩ = some (.slice none 0 0) := cell_of_heap z rfl; have y0 : w6.frozen? ⟨wr.heap.size, 0, none⟩ = false := (by simp [World.frozen?, z]); have y1 : w6.frozen? ⟨wr.heap.size, 1, none⟩ = false := (by simp [World.frozen?, z]); have y2 : w6.frozen? ⟨wr.heap.size, 2, none⟩ = false := (by simp [World.frozen?, z]); have y3 : w6.frozen? ⟨wr.heap.size, 3, none⟩ = false := (by simp [World.frozen?, z]); have y4 : w6.frozen? ⟨wr.heap.size, 4, none⟩ = false := (by simp [World.frozen?, z]); clear z hG') | (have hG' : World.grownBy ((wr.alloc (.cells #[.int .i64 0, .int .i64 1, .int .i64 2, .int .i64 3] 3)).alloc (.cells #[.int .i64 0, .int .i64 0, .int .i64 0, .int .i64 0, .slice none 0 0] 32)).drew w6 (some g) := (by with_reducible exact hG6); have z := grown_keep hG' (alloc_hi wr (.cells #[.int .i64 0, .int .i64 1, .int .i64 2, .int .i64 3] 3) (.cells #[.int .i64 0, .int .i64 0, .int .i64 0, .int .i64 0, .slice none 0 0] 32)) (by omega); have HT := Lib.hid (frT_set (tb := wr.heap.size + 1) (((HK9.out.alloc _).alloc _).drew : FrK w ((wr.alloc (.cells #[.int .i64 0, .int .i64 1, .int .i64 2, .int .i64 3] 3)).alloc (.cells #[.int .i64 0, .int .i64 0, .int .i64 0, .int .i64 0, .slice none 0 0] 32)).drew sb p g S va al.length vc al) (by omega) hM6 hC6 (fun e y hy => hr6 e y hy) hG' hB6 (alloc_hi wr (.cells #[.int .i64 0, .int .i64 1, .int .i64 2, .int .i64 3] 3) (.cells #[.int .i64 0, .int .i64 0, .int .i64 0, .int .i64 0, .slice none 0 0] 32)) (by omega) (by omega) (by have := HGS.out.2.1; omega) (by have := HGS.out.2.2; omega) (fun y e => Nat.lt_of_lt_of_le (HK9.out.atts.block y e) (by omega))); have z0 : w6.cell? ⟨wr.heap.size + 1, 0, none⟩ = some (.int .i64 0) := cell_of_heap z rfl; have z1 : w6.cell? ⟨wr.heap.size + 1, 1, none⟩ = some (.int .i64 0) := cell_of_heap z rfl; have z2 : w6.cell? ⟨wr.heap.size + 1, 2, none⟩ = some (.int .i64 0) := cell_of_heap z rfl; have z3 : w6.cell? ⟨wr.heap.size + 1, 3, none⟩ = some (.int .i64 0) := cell_of_heap z rfl; have z4 : w6.cell? ⟨wr.heap.size + 1, 4, none⟩ = some (.slice none 0 0) := cell_of_heap z rfl; have y0 : w6.frozen? ⟨wr.heap.size + 1, 0, none⟩ = false := (by simp [World.frozen?, z]); have y1 : w6.frozen? ⟨wr.heap.size + 1, 1, none⟩ = false := (by simp [World.frozen?, z]); have y2 : w6.frozen? ⟨wr.heap.size + 1, 2, none⟩ = false := (by simp [World.frozen?, z]); have y3 : w6.frozen? ⟨wr.heap.size + 1, 3, none⟩ = false := (by simp [World.frozen?, z]); have y4 : w6.frozen? ⟨wr.heap.size + 1, 4, none⟩ = false := (by simp [World.frozen?, z]); clear z hG')); clear hM6 hC6 hr6 hG6 hB6 hS6))
                · clear v0 v1 v2 v3 v4
                  generalize w6.alloc (.cells #[.int .i64 r, .int .i64 t, .int .i64 d, .int .i64 h, .slice ra rl rc] 32) = W7 at *
                  clear t0 t1 t2 t3 t4
                  have bT := HT.out.blkT
                  have bS := HT.out.blk
                  have c0 := cell_of_heap (i := 0) (v := .int .i64 r) bT rfl
                  have c1 := cell_of_heap (i := 1) (v := .int .i64 t) bT rfl
                  have c2 := cell_of_heap (i := 2) (v := .int .i64 d) bT rfl
                  have c3 := cell_of_heap (i := 3) (v := .int .i64 h) bT rfl
                  have c4 := cell_of_heap (i := 4) (v := .slice ra rl rc) bT rfl
                  have s0 := cell_of_heap (i := 0) (v := .int .i64 4) bS rfl
                  have s1 := cell_of_heap (i := 1) (v := .int .i64 1) bS rfl
                  have s2 := cell_of_heap (i := 2) (v := .int .i64 0) bS rfl
                  have s3 := cell_of_heap (i := 3) (v := .int .i64 0) bS rfl
                  have s4 := cell_of_heap (i := 4) (v := .slice va al.length vc) bS rfl
                  clear bT bS
                  rcases HT.out.con with ⟨rfl, rfl, hA, hex⟩ | ⟨rfl, rfl, rfl, rfl, rfl, rfl, rfl, hfr, al', yy, e1, e2, hpm, hA⟩
                  · exfalso
                    obtain ⟨i, hi, hE⟩ := hex
                    exact hE (HF.out.free (by omega) (by omega) HJ.out.1 i hi)
                  · have HB7 := Lib.hid HT.out.bel
                    clear hA hfr HT e1 e2 hpm
                    have g1 : decide ((128 : Int) ≤ ((128 + m : Nat) : Int)) = true := decide_eq_true (by omega)
                    have g2 : ((((al.length + 1 : Nat) : Int)) == (al.length : Int) + 1) = true := by simp
                    have g3 : (al.length : Int) ≤ 6 := by have := HF.out.len; omega
                    go_wp2
                    go_ret
                    exact ⟨rfl, HB7.out⟩
                · clear v0 v1 v2 v3 v4
                  clear z0 z1 z2 z3 z4 y0 y1 y2 y3 y4
                  generalize (((((w6.setCell ⟨wr.heap.size + 1, 0, none⟩ (.int .i64 r)).setCell ⟨wr.heap.size + 1, 1, none⟩ (.int .i64 t)).setCell ⟨wr.heap.size + 1, 2, none⟩ (.int .i64 d)).setCell ⟨wr.heap.size + 1, 3, none⟩ (.int .i64 h)).setCell ⟨wr.heap.size + 1, 4, none⟩ (.slice ra rl rc)) = W7 at *
                  clear t0 t1 t2 t3 t4
                  have bT := HT.out.blkT
                  have bS := HT.out.blk
                  have c0 := cell_of_heap (i := 0) (v := .int .i64 r) bT rfl
                  have c1 := cell_of_heap (i := 1) (v := .int .i64 t) bT rfl
                  have c2 := cell_of_heap (i := 2) (v := .int .i64 d) bT rfl
                  have c3 := cell_of_heap (i := 3) (v := .int .i64 h) bT rfl
                  have c4 := cell_of_heap (i := 4) (v := .slice ra rl rc) bT rfl
                  have s0 := cell_of_heap (i := 0) (v := .int .i64 4) bS rfl
                  have s1 := cell_of_heap (i := 1) (v := .int .i64 1) bS rfl
                  have s2 := cell_of_heap (i := 2) (v := .int .i64 0) bS rfl
                  have s3 := cell_of_heap (i := 3) (v := .int .i64 0) bS rfl
                  have s4 := cell_of_heap (i := 4) (v := .slice va al.length vc) bS rfl
                  clear bT bS
                  rcases HT.out.con with ⟨rfl, rfl, hA, hex⟩ | ⟨rfl, rfl, rfl, rfl, rfl, rfl, rfl, hfr, al', yy, e1, e2, hpm, hA⟩
                  · exfalso
                    obtain ⟨i, hi, hE⟩ := hex
                    exact hE (HF.out.free (by omega) (by omega) HJ.out.1 i hi)
                  · have HB7 := Lib.hid HT.out.bel
                    clear hA hfr HT e1 e2 hpm
                    have g1 : decide ((128 : Int) ≤ ((128 + m : Nat) : Int)) = true := decide_eq_true (by omega)
                    have g2 : ((((al.length + 1 : Nat) : Int)) == (al.length : Int) + 1) = true := by simp
                    have g3 : (al.length : Int) ≤ 6 := by have := HF.out.len; omega
                    go_wp2
                    go_ret
                    exact ⟨rfl, HB7.out⟩
                · clear v0 v1 v2 v3 v4
                  clear z0 z1 z2 z3 z4 y0 y1 y2 y3 y4
                  generalize (((((w6.setCell ⟨wr.heap.size, 0, none⟩ (.int .i64 r)).setCell ⟨wr.heap.size, 1, none⟩ (.int .i64 t)).setCell ⟨wr.heap.size, 2, none⟩ (.int .i64 d)).setCell ⟨wr.heap.size, 3, none⟩ (.int .i64 h)).setCell ⟨wr.heap.size, 4, none⟩ (.slice ra rl rc)) = W7 at *
                  clear t0 t1 t2 t3 t4
                  have bT := HT.out.blkT
                  have bS := HT.out.blk
                  have c0 := cell_of_heap (i := 0) (v := .int .i64 r) bT rfl
                  have c1 := cell_of_heap (i := 1) (v := .int .i64 t) bT rfl
                  have c2 := cell_of_heap (i := 2) (v := .int .i64 d) bT rfl
                  have c3 := cell_of_heap (i := 3) (v := .int .i64 h) bT rfl
                  have c4 := cell_of_heap (i := 4) (v := .slice ra rl rc) bT rfl
                  have s0 := cell_of_heap (i := 0) (v := .int .i64 4) bS rfl
                  have s1 := cell_of_heap (i := 1) (v := .int .i64 1) bS rfl
                  have s2 := cell_of_heap (i := 2) (v := .int .i64 0) bS rfl
                  have s3 := cell_of_heap (i := 3) (v := .int .i64 0) bS rfl
                  have s4 := cell_of_heap (i := 4) (v := .slice va al.length vc) bS rfl
                  clear bT bS
                  rcases HT.out.con with ⟨rfl, rfl, hA, hex⟩ | ⟨rfl, rfl, rfl, rfl, rfl, rfl, rfl, hfr, al', yy, e1, e2, hpm, hA⟩
                  · exfalso
                    obtain ⟨i, hi, hE⟩ := hex
                    exact hE (HF.out.free (by omega) (by omega) HJ.out.1 i hi)
                  · have HB7 := Lib.hid HT.out.bel
                    clear hA hfr HT e1 e2 hpm
                    have g1 : decide ((128 : Int) ≤ ((128 + m : Nat) : Int)) = true := decide_eq_true (by omega)
                    have g2 : ((((al.length + 1 : Nat) : Int)) == (al.length : Int) + 1) = true := by simp
                    have g3 : (al.length : Int) ≤ 6 := by have := HF.out.len; omega
                    go_wp2
                    go_ret
                    exact ⟨rfl, HB7.out⟩

end Go.Proofs.Ytdkaaoboipphcaa
