/- PtableDoes: for every number of frames and every list of acts the law answers true: what acts tell, all frames and pages behind each of them, and dropping in the end, are the document's. No conditions. -/
import Derived.Test.YtkcoeibbmfkjlaaRef2Un
import Derived.Test.YtkcoeibbmfkjlaaPtActs
namespace Go.Proofs.Ytkcoeibbmfkjlaa
open Go.RowKit Go.ChangeShapes Go.WideShapes Go.ChangeAt

/-- the ways through a switch of four. -/
theorem sw4p (x : Int) : (x == 0) = true ∨ ((x == 0) = false ∧ (x == 1) = true) ∨ ((x == 0) = false ∧ (x == 1) = false ∧ (x == 2) = true) ∨ ((x == 0) = false ∧ (x == 1) = false ∧ (x == 2) = false ∧ (x == 3) = true) ∨ ((x == 0) = false ∧ (x == 1) = false ∧ (x == 2) = false ∧ (x == 3) = false) := by
  cases (x == 0) <;> cases (x == 1) <;> cases (x == 2) <;> cases (x == 3) <;> simp

theorem rpages_sl {w : World} {q gb gr n root : Nat} {S : PtS} (hm : S.rat w q gb gr n) (h : S.ok n root) :
    Calls Try.prog 21 #[.pointer (some ⟨q, 0, none⟩), .int .i64 root] w fun e W' =>
      (∃ a cap, e = .returned (.tuple #[.slice a (pagesL S.E).length cap, .int .i64 0]) ∧ ListAt W' (.slice a (pagesL S.E).length cap) (pagesL S.E) ∧ ∀ b, (Value.slice a (pagesL S.E).length cap).ownBlock = some b → w.heap.size ≤ b ∧ b < W'.heap.size) ∧ Below w.heap.size w W' := by
  refine (rpages hm h).mono ?_
  rintro e W' ⟨⟨v, rfl, hrow⟩, hB⟩
  have hl := listAt_own hrow
  obtain ⟨a, cap, rfl⟩ := hl.form
  exact ⟨⟨a, cap, rfl, hl, fun b e => hrow.lt b e⟩, hB⟩

theorem Two.cell {a b : World} {x y : Nat} (h : Two a b x y) {c o : Nat} {v : Value} (hc : a.cell? ⟨c, o, none⟩ = some v) (h1 : c ≠ x) (h2 : c ≠ y) : b.cell? ⟨c, o, none⟩ = some v :=
  (World.cell?_of_block (w := a) (h.block c (World.block_lt_of_cell? a _ hc) h1 h2)).trans hc

theorem refOf {w w' : World} {p g q gb gr n : Nat} {S : PtS} (hm : S.at w p g n) (hr : S.rat w q gb gr n) (hg : w.grownBy w' (some g)) : S.rat w' q gb gr n := Both.refMem ⟨hm, hr⟩ hg

set_option maxRecDepth 100000 in
set_option maxHeartbeats 16000000 in
theorem does_walk (n : Nat) (hn1 : 1 ≤ n) (hn40 : n ≤ 40) (a : Option Addr) (len cap : Nat) (w : World) (hacts : ActsAt w a len) :
    Calls Try.prog 3 #[.int .i64 n, .slice a len cap] w fun e w' => e = .returned (.bool true) ∧ Below w.heap.size w w' := by
  obtain ⟨_hlen, hc⟩ := hacts
  unfold maxLen at _hlen
  have HC := Lib.hid hc; clear hc
  have d40 : decide (40 < (n : Int)) = false := by simp; omega
  go_enter Try.func3, Try.ntmps3
  go_wp2_with fail
  refine (shown_any _).mono ?_
  rintro e w1 ⟨rfl, hB1⟩
  have HB1 := Lib.hid hB1; clear hB1
  go_wp2_with fail
  refine (new_ok n hn1 (by omega) _).mono ?_
  rintro e w2 ⟨rfl, hM2, hB2⟩
  have HB2 := Lib.hid (below_step HB1.out hB2)
  have hs2 := hB2.size
  clear hB2
  go_wp2_with fail
  refine (rnew_ok n hn1 (by omega) _).mono ?_
  rintro e w3 ⟨rfl, ⟨gb, gr, hgb, hgr, hR3⟩, hB3⟩
  have HBO : Hid (Both w3 (w1.heap.size + 1) w1.heap.size w2.heap.size gb gr n (fun _ => 0) (fun _ => zeroPage)) := ⟨hM2.below hB3, hR3⟩
  have HB3 := Lib.hid (below_step HB2.out hB3)
  have hs1 : Hid (w.heap.size ≤ w1.heap.size ∧ w.heap.size ≤ gb ∧ w.heap.size ≤ gr) := by have := HB1.out.size; have := HB2.out.size; exact ⟨by omega, by omega, by omega⟩
  clear hR3 hB3 hM2 hgb hgr hs2
  generalize w2.heap.size = q at *
  generalize w1.heap.size + 1 = p at *
  generalize w1.heap.size = g at *
  have hgt : Hid (∀ (W W' : World), Below w.heap.size w W → Three W W' g gb gr → Below w.heap.size w W') := fun W W' h1 h => h1.trans (h.below h1.size hs1.out.1 hs1.out.2.1 hs1.out.2.2)
  go_wp2_with fail
  refine (pnew_any HBO.out.mem).mono ?_
  rintro e w4 ⟨rfl, hM4, hG4⟩
  have HR4 := Lib.hid (HBO.out.refMem hG4)
  have HB4 := Lib.hid (hgt.out _ _ HB3.out (Three.of_mem gb gr hG4))
  have HM4 := Lib.hid hM4
  clear hM4 hG4
  go_wp2_with fail
  refine (rpnew HR4.out).mono ?_
  rintro e w5 ⟨rfl, hR5, hT5⟩
  have HM5 : Hid (S0.at w5 p g n) := memTwo HM4.out HR4.out hT5
  have HR5 : Hid (S0.rat w5 q gb gr n) := hR5
  have HB5 := Lib.hid (hgt.out _ _ HB4.out (Three.of_two g hT5))
  clear hR5 hT5
  go_wp2_with fail
  go_loopw [14] (fun i wr => ∃ (k : Nat) (S : PtS), k ≤ len ∧ i = .int .i64 k ∧ S.ok n 0 ∧ S.at wr p g n ∧ S.rat wr q gb gr n ∧ Below w.heap.size w wr) (fun i _ => len - (intOf i).toNat)
  case atStart => exact ⟨0, S0, Nat.zero_le _, rfl, S0_ok hn1 (by omega), HM5.out, HR5.out, HB5.out⟩
  case round =>
    obtain ⟨k, S, hk, rfl, hok, hM, hR, hB⟩ := hrel
    have HO := Lib.hid hok; have HM := Lib.hid hM; have HR := Lib.hid hR; have HB := Lib.hid hB
    clear hok hM hR hB HM4 HR4 HB4 HM5 HR5 HB5 HBO HB3 HB2 HB1
    by_cases hgo : k < len ∧ k < 80
    · obtain ⟨hlt, h80⟩ := hgo
      obtain ⟨b, off, rfl, hb, hcs⟩ := HC.out (by omega)
      obtain ⟨d, pg, fr, fl, hA⟩ := hcs k hlt
      obtain ⟨c0, c1, c2, c3, x0, x1⟩ := hA.below HB.out hb
      have HX0 := Lib.hid x0; have HX1 := Lib.hid x1
      have i0 : (0 : Int) ≤ (k : Int) := by omega
      have i1 : (k : Int) < (len : Int) := by omega
      have hgl := MemAt.g_lt HM.out
      have hgbl := RefAt.gb_lt HR.out
      have hgrl := RefAt.gr_lt HR.out
      have HNE : Hid (wr.heap.size ≠ g ∧ wr.heap.size ≠ gb ∧ wr.heap.size ≠ gr) := ⟨by omega, by omega, by omega⟩
      have bX := Boxed4.new wr 35 (.int .i64 d) (.int .i64 pg) (.int .i64 fr) (.int .i64 fl)
      have hW0 : Below wr.heap.size wr (wr.alloc (.cells #[.int .i64 d, .int .i64 pg, .int .i64 fr, .int .i64 fl] 35)) := (Below.refl _ wr).alloc (Nat.le_refl _) _
      have HMx := Lib.hid (S_keep HM.out hW0)
      have HRx := Lib.hid (RefAt.below HR.out hW0)
      have HBx := Lib.hid (below_step HB.out hW0)
      have HBX := Lib.hid bX
      clear hA x0 x1 hcs hgl hgbl hgrl bX hW0
      rcases sw4p ((IntKind.u64.wrap d).tmod 4) with y0 | ⟨y0, y1⟩ | ⟨y0, y1, y2⟩ | ⟨y0, y1, y2, y3⟩ | ⟨y0, y1, y2, y3⟩
      · go_wp2_with fail
        generalize wr.alloc (.cells #[.int .i64 d, .int .i64 pg, .int .i64 fr, .int .i64 fl] 35) = W0 at *
        generalize wr.heap.size = xb at *
        clear c0 c1 c2 c3
        have c1 := HBX.out.c1; have c2 := HBX.out.c2; have c3 := HBX.out.c3
        go_region_held3 (fun w' => w'.cell? ⟨xb, 1, none⟩ = some (.int .i64 pg) ∧ w'.cell? ⟨xb, 2, none⟩ = some (.int .i64 fr) ∧ w'.cell? ⟨xb, 3, none⟩ = some (.int .i64 fl)) (first | exact ⟨c1, c2, c3⟩ | exact ⟨d1, d2, d3⟩ | exact ⟨e1, e2, e3⟩ | go_keep) (first
          | (go_at_call 14; refine (map_rep (MemAt.drew HMx.out) HO.out pg fr fl HX0.out HX1.out).mono ?_; rintro e w4 ⟨rfl, hM4, hG4⟩; have d1 := hG4.cell c1 (by intro e; exact HNE.out.1 (Option.some.inj e)); have d2 := hG4.cell c2 (by intro e; exact HNE.out.1 (Option.some.inj e)); have d3 := hG4.cell c3 (by intro e; exact HNE.out.1 (Option.some.inj e)); have HM4 := Lib.hid hM4; have HR4 := Lib.hid (refOf HMx.out HRx.out (drew_grown hG4)); have HB4 := Lib.hid (hgt.out _ _ HBx.out (Three.of_mem gb gr (drew_grown hG4))); clear hM4 hG4)
          | (go_at_call 15; refine (rmap HR4.out HO.out pg fr fl).mono ?_; rintro e w5 ⟨rfl, hR5, hT5⟩; have e1 := hT5.cell d1 HNE.out.2.1 HNE.out.2.2; have e2 := hT5.cell d2 HNE.out.2.1 HNE.out.2.2; have e3 := hT5.cell d3 HNE.out.2.1 HNE.out.2.2; have HM5 : Hid ((mapS n 0 S pg fr fl).2.at w5 p g n) := memTwo HM4.out HR4.out hT5; have HR5 := Lib.hid hR5; have HB5 := Lib.hid (hgt.out _ _ HB4.out (Three.of_two g hT5)); clear hR5 hT5))
        have HO2 := Lib.hid (map_ok HO.out pg fr fl)
        clear c1 c2 c3 d1 d2 d3 e1 e2 e3 HMx HRx HBx HBX HM4 HR4 HB4 HM HR HB
        generalize (mapS n 0 S pg fr fl).1 = u1 at *
        generalize (mapS n 0 S pg fr fl).2 = S2 at *
        have HGL : Hid (g < w5.heap.size ∧ gb < w5.heap.size ∧ gr < w5.heap.size) := ⟨MemAt.g_lt HM5.out, RefAt.gb_lt HR5.out, RefAt.gr_lt HR5.out⟩
        go_wp2_with fail
        refine (pages_sl HM5.out HO2.out).mono ?_
        rintro e w6 ⟨⟨pa, pc, rfl, hL6, hO6⟩, hB6⟩
        have hp6 := pages_len_le S2.E
        have HM6 := Lib.hid (S_keep HM5.out hB6)
        have HR6 := Lib.hid (RefAt.below HR5.out hB6)
        have HB6 := Lib.hid (below_step HB5.out hB6)
        have HL6 := Lib.hid hL6
        have HO6 : Hid (∀ b, (Value.slice pa (pagesL S2.E).length pc).ownBlock = some b → b < w6.heap.size) := fun b e => (hO6 b e).2
        clear hB6 hL6 hO6
        go_wp2_with fail
        refine (rpages_sl HR6.out HO2.out).mono ?_
        rintro e w7 ⟨⟨qa, qc, rfl, hL7, hO7⟩, hB7⟩
        have HM7 := Lib.hid (S_keep HM6.out hB7)
        have HR7 := Lib.hid (RefAt.below HR6.out hB7)
        have HB7 := Lib.hid (below_step HB6.out hB7)
        have HL7' := Lib.hid (HL6.out.below hB7 HO6.out)
        have HO7' : Hid (∀ b, (Value.slice pa (pagesL S2.E).length pc).ownBlock = some b → b < w7.heap.size) := fun b e => Nat.lt_of_lt_of_le (HO6.out b e) hB7.size
        have HL7 := Lib.hid hL7
        have HO7 : Hid (∀ b, (Value.slice qa (pagesL S2.E).length qc).ownBlock = some b → b < w7.heap.size) := fun b e => (hO7 b e).2
        clear hB7 hL7 hO7
        go_wp2_with fail
        refine (ints_same (by omega) HL7'.out HL7.out HO7'.out HO7.out).mono ?_
        rintro e w8 ⟨rfl, hB8⟩
        have HM8 := Lib.hid (S_keep HM7.out hB8)
        have HR8 := Lib.hid (RefAt.below HR7.out hB8)
        have HB8 := Lib.hid (below_step HB7.out hB8)
        clear hB8
        go_wp2_with fail
        refine (left_any HM8.out).mono ?_
        rintro e w9 ⟨rfl, hB9⟩
        have HM9 := Lib.hid (S_keep HM8.out hB9)
        have HR9 := Lib.hid (RefAt.below HR8.out hB9)
        have HB9 := Lib.hid (below_step HB8.out hB9)
        clear hB9
        go_wp2_with fail
        refine (rleft HR9.out).mono ?_
        rintro e w' ⟨rfl, rfl⟩
        generalize leftN n S2.R = LF
        go_wp2_with fail
        go_loopw [30] (fun t wi => ∃ j : Nat, j ≤ n ∧ t = .int .i64 j ∧ S2.at wi p g n ∧ S2.rat wi q gb gr n ∧ Below w.heap.size w wi) (fun t _ => n - (intOf t).toNat)
        case atStart => exact ⟨0, Nat.zero_le _, rfl, HM9.out, HR9.out, HB9.out⟩
        case round =>
          obtain ⟨j, hj, rfl, hMi, hRi, hBi⟩ := hrel
          have HMi := Lib.hid hMi; have HRi := Lib.hid hRi; have HBi := Lib.hid hBi
          clear hMi hRi hBi
          by_cases hjn : j < n
          · go_wp2_with fail
            refine (read_fn HMi.out j 0 64).mono ?_
            rintro e w10 ⟨rfl, hB10⟩
            have HM10 := Lib.hid (S_keep HMi.out hB10)
            have HR10 := Lib.hid (RefAt.below HRi.out hB10)
            have HB10 := Lib.hid (below_step HBi.out hB10)
            clear hB10
            go_wp2_with fail
            refine (rread HR10.out j 0 64).mono ?_
            rintro e w' ⟨rfl, rfl⟩
            rw [show tx (readS n S2.R S2.B j 0 64) = ⟨(readS n S2.R S2.B j 0 64).toArray⟩ from rfl]
            generalize (⟨(readS n S2.R S2.B j 0 64).toArray⟩ : ByteArray) = X
            generalize readE n S2.R j 0 64 = E10
            go_wp2
            go_roundw
            case rel => exact ⟨j + 1, by omega, by go_num, HM10.out, HR10.out, HB10.out⟩
            case measure => simp [intOf]; omega
          · obtain rfl : n = j := by omega
            go_wp2
            go_roundw
            case rel => exact ⟨k + 1, S2, by omega, by go_num, HO2.out, HMi.out, HRi.out, HBi.out⟩
            case measure => simp [intOf]; omega
      · go_wp2_with fail
        generalize wr.alloc (.cells #[.int .i64 d, .int .i64 pg, .int .i64 fr, .int .i64 fl] 35) = W0 at *
        generalize wr.heap.size = xb at *
        clear c0 c1 c2 c3
        have c1 := HBX.out.c1; have c2 := HBX.out.c2; have c3 := HBX.out.c3
        go_region_held3 (fun w' => w'.cell? ⟨xb, 1, none⟩ = some (.int .i64 pg) ∧ w'.cell? ⟨xb, 2, none⟩ = some (.int .i64 fr) ∧ w'.cell? ⟨xb, 3, none⟩ = some (.int .i64 fl)) (first | exact ⟨c1, c2, c3⟩ | exact ⟨d1, d2, d3⟩ | exact ⟨e1, e2, e3⟩ | go_keep) (first
          | (go_at_call 14; refine (map_rep (MemAt.drew HMx.out) HO.out pg fr fl HX0.out HX1.out).mono ?_; rintro e w4 ⟨rfl, hM4, hG4⟩; have d1 := hG4.cell c1 (by intro e; exact HNE.out.1 (Option.some.inj e)); have d2 := hG4.cell c2 (by intro e; exact HNE.out.1 (Option.some.inj e)); have d3 := hG4.cell c3 (by intro e; exact HNE.out.1 (Option.some.inj e)); have HM4 := Lib.hid hM4; have HR4 := Lib.hid (refOf HMx.out HRx.out (drew_grown hG4)); have HB4 := Lib.hid (hgt.out _ _ HBx.out (Three.of_mem gb gr (drew_grown hG4))); clear hM4 hG4)
          | (go_at_call 15; refine (rmap HR4.out HO.out pg fr fl).mono ?_; rintro e w5 ⟨rfl, hR5, hT5⟩; have e1 := hT5.cell d1 HNE.out.2.1 HNE.out.2.2; have e2 := hT5.cell d2 HNE.out.2.1 HNE.out.2.2; have e3 := hT5.cell d3 HNE.out.2.1 HNE.out.2.2; have HM5 : Hid ((mapS n 0 S pg fr fl).2.at w5 p g n) := memTwo HM4.out HR4.out hT5; have HR5 := Lib.hid hR5; have HB5 := Lib.hid (hgt.out _ _ HB4.out (Three.of_two g hT5)); clear hR5 hT5))
        have HO2 := Lib.hid (map_ok HO.out pg fr fl)
        clear c1 c2 c3 d1 d2 d3 e1 e2 e3 HMx HRx HBx HBX HM4 HR4 HB4 HM HR HB
        generalize (mapS n 0 S pg fr fl).1 = u1 at *
        generalize (mapS n 0 S pg fr fl).2 = S2 at *
        have HGL : Hid (g < w5.heap.size ∧ gb < w5.heap.size ∧ gr < w5.heap.size) := ⟨MemAt.g_lt HM5.out, RefAt.gb_lt HR5.out, RefAt.gr_lt HR5.out⟩
        go_wp2_with fail
        refine (pages_sl HM5.out HO2.out).mono ?_
        rintro e w6 ⟨⟨pa, pc, rfl, hL6, hO6⟩, hB6⟩
        have hp6 := pages_len_le S2.E
        have HM6 := Lib.hid (S_keep HM5.out hB6)
        have HR6 := Lib.hid (RefAt.below HR5.out hB6)
        have HB6 := Lib.hid (below_step HB5.out hB6)
        have HL6 := Lib.hid hL6
        have HO6 : Hid (∀ b, (Value.slice pa (pagesL S2.E).length pc).ownBlock = some b → b < w6.heap.size) := fun b e => (hO6 b e).2
        clear hB6 hL6 hO6
        go_wp2_with fail
        refine (rpages_sl HR6.out HO2.out).mono ?_
        rintro e w7 ⟨⟨qa, qc, rfl, hL7, hO7⟩, hB7⟩
        have HM7 := Lib.hid (S_keep HM6.out hB7)
        have HR7 := Lib.hid (RefAt.below HR6.out hB7)
        have HB7 := Lib.hid (below_step HB6.out hB7)
        have HL7' := Lib.hid (HL6.out.below hB7 HO6.out)
        have HO7' : Hid (∀ b, (Value.slice pa (pagesL S2.E).length pc).ownBlock = some b → b < w7.heap.size) := fun b e => Nat.lt_of_lt_of_le (HO6.out b e) hB7.size
        have HL7 := Lib.hid hL7
        have HO7 : Hid (∀ b, (Value.slice qa (pagesL S2.E).length qc).ownBlock = some b → b < w7.heap.size) := fun b e => (hO7 b e).2
        clear hB7 hL7 hO7
        go_wp2_with fail
        refine (ints_same (by omega) HL7'.out HL7.out HO7'.out HO7.out).mono ?_
        rintro e w8 ⟨rfl, hB8⟩
        have HM8 := Lib.hid (S_keep HM7.out hB8)
        have HR8 := Lib.hid (RefAt.below HR7.out hB8)
        have HB8 := Lib.hid (below_step HB7.out hB8)
        clear hB8
        go_wp2_with fail
        refine (left_any HM8.out).mono ?_
        rintro e w9 ⟨rfl, hB9⟩
        have HM9 := Lib.hid (S_keep HM8.out hB9)
        have HR9 := Lib.hid (RefAt.below HR8.out hB9)
        have HB9 := Lib.hid (below_step HB8.out hB9)
        clear hB9
        go_wp2_with fail
        refine (rleft HR9.out).mono ?_
        rintro e w' ⟨rfl, rfl⟩
        generalize leftN n S2.R = LF
        go_wp2_with fail
        go_loopw [30] (fun t wi => ∃ j : Nat, j ≤ n ∧ t = .int .i64 j ∧ S2.at wi p g n ∧ S2.rat wi q gb gr n ∧ Below w.heap.size w wi) (fun t _ => n - (intOf t).toNat)
        case atStart => exact ⟨0, Nat.zero_le _, rfl, HM9.out, HR9.out, HB9.out⟩
        case round =>
          obtain ⟨j, hj, rfl, hMi, hRi, hBi⟩ := hrel
          have HMi := Lib.hid hMi; have HRi := Lib.hid hRi; have HBi := Lib.hid hBi
          clear hMi hRi hBi
          by_cases hjn : j < n
          · go_wp2_with fail
            refine (read_fn HMi.out j 0 64).mono ?_
            rintro e w10 ⟨rfl, hB10⟩
            have HM10 := Lib.hid (S_keep HMi.out hB10)
            have HR10 := Lib.hid (RefAt.below HRi.out hB10)
            have HB10 := Lib.hid (below_step HBi.out hB10)
            clear hB10
            go_wp2_with fail
            refine (rread HR10.out j 0 64).mono ?_
            rintro e w' ⟨rfl, rfl⟩
            rw [show tx (readS n S2.R S2.B j 0 64) = ⟨(readS n S2.R S2.B j 0 64).toArray⟩ from rfl]
            generalize (⟨(readS n S2.R S2.B j 0 64).toArray⟩ : ByteArray) = X
            generalize readE n S2.R j 0 64 = E10
            go_wp2
            go_roundw
            case rel => exact ⟨j + 1, by omega, by go_num, HM10.out, HR10.out, HB10.out⟩
            case measure => simp [intOf]; omega
          · obtain rfl : n = j := by omega
            go_wp2
            go_roundw
            case rel => exact ⟨k + 1, S2, by omega, by go_num, HO2.out, HMi.out, HRi.out, HBi.out⟩
            case measure => simp [intOf]; omega
      · go_wp2_with fail
        generalize wr.alloc (.cells #[.int .i64 d, .int .i64 pg, .int .i64 fr, .int .i64 fl] 35) = W0 at *
        refine (walk_rep HMx.out HO.out pg).mono ?_
        rintro e w4 ⟨rfl, hB4⟩
        have HM4 := Lib.hid (S_keep HMx.out hB4)
        have HR4 := Lib.hid (RefAt.below HRx.out hB4)
        have HB4 := Lib.hid (below_step HBx.out hB4)
        have g1 := (HBX.out.below hB4 HBX.out.lt).c1
        clear hB4
        go_wp2_with fail
        refine (rwalk HR4.out HO.out pg).mono ?_
        rintro e w5 ⟨rfl, hB5⟩
        have HM5 := Lib.hid (S_keep HM4.out hB5)
        have HR5 := Lib.hid (RefAt.below HR4.out hB5)
        have HB5 := Lib.hid (below_step HB4.out hB5)
        clear hB5 g1 c0 c1 c2 c3
        generalize wkT S.E pg = u1; generalize wkF S.E pg = u2; generalize wkE S.E pg = u3
        have HO2 := Lib.hid HO.out
        clear HMx HRx HBx HBX HM4 HR4 HB4 HM HR HB HO
        generalize S = S2 at *
        have HGL : Hid (g < w5.heap.size ∧ gb < w5.heap.size ∧ gr < w5.heap.size) := ⟨MemAt.g_lt HM5.out, RefAt.gb_lt HR5.out, RefAt.gr_lt HR5.out⟩
        go_wp2_with fail
        refine (pages_sl HM5.out HO2.out).mono ?_
        rintro e w6 ⟨⟨pa, pc, rfl, hL6, hO6⟩, hB6⟩
        have hp6 := pages_len_le S2.E
        have HM6 := Lib.hid (S_keep HM5.out hB6)
        have HR6 := Lib.hid (RefAt.below HR5.out hB6)
        have HB6 := Lib.hid (below_step HB5.out hB6)
        have HL6 := Lib.hid hL6
        have HO6 : Hid (∀ b, (Value.slice pa (pagesL S2.E).length pc).ownBlock = some b → b < w6.heap.size) := fun b e => (hO6 b e).2
        clear hB6 hL6 hO6
        go_wp2_with fail
        refine (rpages_sl HR6.out HO2.out).mono ?_
        rintro e w7 ⟨⟨qa, qc, rfl, hL7, hO7⟩, hB7⟩
        have HM7 := Lib.hid (S_keep HM6.out hB7)
        have HR7 := Lib.hid (RefAt.below HR6.out hB7)
        have HB7 := Lib.hid (below_step HB6.out hB7)
        have HL7' := Lib.hid (HL6.out.below hB7 HO6.out)
        have HO7' : Hid (∀ b, (Value.slice pa (pagesL S2.E).length pc).ownBlock = some b → b < w7.heap.size) := fun b e => Nat.lt_of_lt_of_le (HO6.out b e) hB7.size
        have HL7 := Lib.hid hL7
        have HO7 : Hid (∀ b, (Value.slice qa (pagesL S2.E).length qc).ownBlock = some b → b < w7.heap.size) := fun b e => (hO7 b e).2
        clear hB7 hL7 hO7
        go_wp2_with fail
        refine (ints_same (by omega) HL7'.out HL7.out HO7'.out HO7.out).mono ?_
        rintro e w8 ⟨rfl, hB8⟩
        have HM8 := Lib.hid (S_keep HM7.out hB8)
        have HR8 := Lib.hid (RefAt.below HR7.out hB8)
        have HB8 := Lib.hid (below_step HB7.out hB8)
        clear hB8
        go_wp2_with fail
        refine (left_any HM8.out).mono ?_
        rintro e w9 ⟨rfl, hB9⟩
        have HM9 := Lib.hid (S_keep HM8.out hB9)
        have HR9 := Lib.hid (RefAt.below HR8.out hB9)
        have HB9 := Lib.hid (below_step HB8.out hB9)
        clear hB9
        go_wp2_with fail
        refine (rleft HR9.out).mono ?_
        rintro e w' ⟨rfl, rfl⟩
        generalize leftN n S2.R = LF
        go_wp2_with fail
        go_loopw [30] (fun t wi => ∃ j : Nat, j ≤ n ∧ t = .int .i64 j ∧ S2.at wi p g n ∧ S2.rat wi q gb gr n ∧ Below w.heap.size w wi) (fun t _ => n - (intOf t).toNat)
        case atStart => exact ⟨0, Nat.zero_le _, rfl, HM9.out, HR9.out, HB9.out⟩
        case round =>
          obtain ⟨j, hj, rfl, hMi, hRi, hBi⟩ := hrel
          have HMi := Lib.hid hMi; have HRi := Lib.hid hRi; have HBi := Lib.hid hBi
          clear hMi hRi hBi
          by_cases hjn : j < n
          · go_wp2_with fail
            refine (read_fn HMi.out j 0 64).mono ?_
            rintro e w10 ⟨rfl, hB10⟩
            have HM10 := Lib.hid (S_keep HMi.out hB10)
            have HR10 := Lib.hid (RefAt.below HRi.out hB10)
            have HB10 := Lib.hid (below_step HBi.out hB10)
            clear hB10
            go_wp2_with fail
            refine (rread HR10.out j 0 64).mono ?_
            rintro e w' ⟨rfl, rfl⟩
            rw [show tx (readS n S2.R S2.B j 0 64) = ⟨(readS n S2.R S2.B j 0 64).toArray⟩ from rfl]
            generalize (⟨(readS n S2.R S2.B j 0 64).toArray⟩ : ByteArray) = X
            generalize readE n S2.R j 0 64 = E10
            go_wp2
            go_roundw
            case rel => exact ⟨j + 1, by omega, by go_num, HM10.out, HR10.out, HB10.out⟩
            case measure => simp [intOf]; omega
          · obtain rfl : n = j := by omega
            go_wp2
            go_roundw
            case rel => exact ⟨k + 1, S2, by omega, by go_num, HO2.out, HMi.out, HRi.out, HBi.out⟩
            case measure => simp [intOf]; omega
      · go_wp2_with fail
        generalize wr.alloc (.cells #[.int .i64 d, .int .i64 pg, .int .i64 fr, .int .i64 fl] 35) = W0 at *
        refine (unmap_rep HMx.out HO.out pg).mono ?_
        rintro e w4 ⟨rfl, hM4, hG4⟩
        have HM4 := Lib.hid hM4
        have HR4 := Lib.hid (refOf HMx.out HRx.out hG4)
        have HB4 := Lib.hid (hgt.out _ _ HBx.out (Three.of_mem gb gr hG4))
        have g1 := (HBX.out.grown hG4 HNE.out.1).c1
        clear hM4 hG4
        go_wp2_with fail
        refine (runmap HR4.out HO.out pg).mono ?_
        rintro e w5 ⟨rfl, hR5, hT5⟩
        have HM5 : Hid ((unmapS 0 S pg).2.2.at w5 p g n) := memTwo HM4.out HR4.out hT5
        have HR5 := Lib.hid hR5
        have HB5 := Lib.hid (hgt.out _ _ HB4.out (Three.of_two g hT5))
        have HO2 := Lib.hid (unmap_ok HO.out pg)
        clear hR5 hT5 g1 c0 c1 c2 c3 HMx HRx HBx HBX HM4 HR4 HB4 HM HR HB
        generalize (unmapS 0 S pg).1 = u1 at *
        generalize (unmapS 0 S pg).2.1 = u2 at *
        generalize (unmapS 0 S pg).2.2 = S2 at *
        have HGL : Hid (g < w5.heap.size ∧ gb < w5.heap.size ∧ gr < w5.heap.size) := ⟨MemAt.g_lt HM5.out, RefAt.gb_lt HR5.out, RefAt.gr_lt HR5.out⟩
        go_wp2_with fail
        refine (pages_sl HM5.out HO2.out).mono ?_
        rintro e w6 ⟨⟨pa, pc, rfl, hL6, hO6⟩, hB6⟩
        have hp6 := pages_len_le S2.E
        have HM6 := Lib.hid (S_keep HM5.out hB6)
        have HR6 := Lib.hid (RefAt.below HR5.out hB6)
        have HB6 := Lib.hid (below_step HB5.out hB6)
        have HL6 := Lib.hid hL6
        have HO6 : Hid (∀ b, (Value.slice pa (pagesL S2.E).length pc).ownBlock = some b → b < w6.heap.size) := fun b e => (hO6 b e).2
        clear hB6 hL6 hO6
        go_wp2_with fail
        refine (rpages_sl HR6.out HO2.out).mono ?_
        rintro e w7 ⟨⟨qa, qc, rfl, hL7, hO7⟩, hB7⟩
        have HM7 := Lib.hid (S_keep HM6.out hB7)
        have HR7 := Lib.hid (RefAt.below HR6.out hB7)
        have HB7 := Lib.hid (below_step HB6.out hB7)
        have HL7' := Lib.hid (HL6.out.below hB7 HO6.out)
        have HO7' : Hid (∀ b, (Value.slice pa (pagesL S2.E).length pc).ownBlock = some b → b < w7.heap.size) := fun b e => Nat.lt_of_lt_of_le (HO6.out b e) hB7.size
        have HL7 := Lib.hid hL7
        have HO7 : Hid (∀ b, (Value.slice qa (pagesL S2.E).length qc).ownBlock = some b → b < w7.heap.size) := fun b e => (hO7 b e).2
        clear hB7 hL7 hO7
        go_wp2_with fail
        refine (ints_same (by omega) HL7'.out HL7.out HO7'.out HO7.out).mono ?_
        rintro e w8 ⟨rfl, hB8⟩
        have HM8 := Lib.hid (S_keep HM7.out hB8)
        have HR8 := Lib.hid (RefAt.below HR7.out hB8)
        have HB8 := Lib.hid (below_step HB7.out hB8)
        clear hB8
        go_wp2_with fail
        refine (left_any HM8.out).mono ?_
        rintro e w9 ⟨rfl, hB9⟩
        have HM9 := Lib.hid (S_keep HM8.out hB9)
        have HR9 := Lib.hid (RefAt.below HR8.out hB9)
        have HB9 := Lib.hid (below_step HB8.out hB9)
        clear hB9
        go_wp2_with fail
        refine (rleft HR9.out).mono ?_
        rintro e w' ⟨rfl, rfl⟩
        generalize leftN n S2.R = LF
        go_wp2_with fail
        go_loopw [30] (fun t wi => ∃ j : Nat, j ≤ n ∧ t = .int .i64 j ∧ S2.at wi p g n ∧ S2.rat wi q gb gr n ∧ Below w.heap.size w wi) (fun t _ => n - (intOf t).toNat)
        case atStart => exact ⟨0, Nat.zero_le _, rfl, HM9.out, HR9.out, HB9.out⟩
        case round =>
          obtain ⟨j, hj, rfl, hMi, hRi, hBi⟩ := hrel
          have HMi := Lib.hid hMi; have HRi := Lib.hid hRi; have HBi := Lib.hid hBi
          clear hMi hRi hBi
          by_cases hjn : j < n
          · go_wp2_with fail
            refine (read_fn HMi.out j 0 64).mono ?_
            rintro e w10 ⟨rfl, hB10⟩
            have HM10 := Lib.hid (S_keep HMi.out hB10)
            have HR10 := Lib.hid (RefAt.below HRi.out hB10)
            have HB10 := Lib.hid (below_step HBi.out hB10)
            clear hB10
            go_wp2_with fail
            refine (rread HR10.out j 0 64).mono ?_
            rintro e w' ⟨rfl, rfl⟩
            rw [show tx (readS n S2.R S2.B j 0 64) = ⟨(readS n S2.R S2.B j 0 64).toArray⟩ from rfl]
            generalize (⟨(readS n S2.R S2.B j 0 64).toArray⟩ : ByteArray) = X
            generalize readE n S2.R j 0 64 = E10
            go_wp2
            go_roundw
            case rel => exact ⟨j + 1, by omega, by go_num, HM10.out, HR10.out, HB10.out⟩
            case measure => simp [intOf]; omega
          · obtain rfl : n = j := by omega
            go_wp2
            go_roundw
            case rel => exact ⟨k + 1, S2, by omega, by go_num, HO2.out, HMi.out, HRi.out, HBi.out⟩
            case measure => simp [intOf]; omega
      · go_wp2_with fail
        generalize wr.alloc (.cells #[.int .i64 d, .int .i64 pg, .int .i64 fr, .int .i64 fl] 35) = w5 at *
        have HM5 := Lib.hid HMx.out
        have HR5 := Lib.hid HRx.out
        have HB5 := Lib.hid HBx.out
        have HO2 := Lib.hid HO.out
        clear c0 c1 c2 c3 HMx HRx HBx HBX HM HR HB HO
        generalize S = S2 at *
        have HGL : Hid (g < w5.heap.size ∧ gb < w5.heap.size ∧ gr < w5.heap.size) := ⟨MemAt.g_lt HM5.out, RefAt.gb_lt HR5.out, RefAt.gr_lt HR5.out⟩
        refine (pages_sl HM5.out HO2.out).mono ?_
        rintro e w6 ⟨⟨pa, pc, rfl, hL6, hO6⟩, hB6⟩
        have hp6 := pages_len_le S2.E
        have HM6 := Lib.hid (S_keep HM5.out hB6)
        have HR6 := Lib.hid (RefAt.below HR5.out hB6)
        have HB6 := Lib.hid (below_step HB5.out hB6)
        have HL6 := Lib.hid hL6
        have HO6 : Hid (∀ b, (Value.slice pa (pagesL S2.E).length pc).ownBlock = some b → b < w6.heap.size) := fun b e => (hO6 b e).2
        clear hB6 hL6 hO6
        go_wp2_with fail
        refine (rpages_sl HR6.out HO2.out).mono ?_
        rintro e w7 ⟨⟨qa, qc, rfl, hL7, hO7⟩, hB7⟩
        have HM7 := Lib.hid (S_keep HM6.out hB7)
        have HR7 := Lib.hid (RefAt.below HR6.out hB7)
        have HB7 := Lib.hid (below_step HB6.out hB7)
        have HL7' := Lib.hid (HL6.out.below hB7 HO6.out)
        have HO7' : Hid (∀ b, (Value.slice pa (pagesL S2.E).length pc).ownBlock = some b → b < w7.heap.size) := fun b e => Nat.lt_of_lt_of_le (HO6.out b e) hB7.size
        have HL7 := Lib.hid hL7
        have HO7 : Hid (∀ b, (Value.slice qa (pagesL S2.E).length qc).ownBlock = some b → b < w7.heap.size) := fun b e => (hO7 b e).2
        clear hB7 hL7 hO7
        go_wp2_with fail
        refine (ints_same (by omega) HL7'.out HL7.out HO7'.out HO7.out).mono ?_
        rintro e w8 ⟨rfl, hB8⟩
        have HM8 := Lib.hid (S_keep HM7.out hB8)
        have HR8 := Lib.hid (RefAt.below HR7.out hB8)
        have HB8 := Lib.hid (below_step HB7.out hB8)
        clear hB8
        go_wp2_with fail
        refine (left_any HM8.out).mono ?_
        rintro e w9 ⟨rfl, hB9⟩
        have HM9 := Lib.hid (S_keep HM8.out hB9)
        have HR9 := Lib.hid (RefAt.below HR8.out hB9)
        have HB9 := Lib.hid (below_step HB8.out hB9)
        clear hB9
        go_wp2_with fail
        refine (rleft HR9.out).mono ?_
        rintro e w' ⟨rfl, rfl⟩
        generalize leftN n S2.R = LF
        go_wp2_with fail
        go_loopw [30] (fun t wi => ∃ j : Nat, j ≤ n ∧ t = .int .i64 j ∧ S2.at wi p g n ∧ S2.rat wi q gb gr n ∧ Below w.heap.size w wi) (fun t _ => n - (intOf t).toNat)
        case atStart => exact ⟨0, Nat.zero_le _, rfl, HM9.out, HR9.out, HB9.out⟩
        case round =>
          obtain ⟨j, hj, rfl, hMi, hRi, hBi⟩ := hrel
          have HMi := Lib.hid hMi; have HRi := Lib.hid hRi; have HBi := Lib.hid hBi
          clear hMi hRi hBi
          by_cases hjn : j < n
          · go_wp2_with fail
            refine (read_fn HMi.out j 0 64).mono ?_
            rintro e w10 ⟨rfl, hB10⟩
            have HM10 := Lib.hid (S_keep HMi.out hB10)
            have HR10 := Lib.hid (RefAt.below HRi.out hB10)
            have HB10 := Lib.hid (below_step HBi.out hB10)
            clear hB10
            go_wp2_with fail
            refine (rread HR10.out j 0 64).mono ?_
            rintro e w' ⟨rfl, rfl⟩
            rw [show tx (readS n S2.R S2.B j 0 64) = ⟨(readS n S2.R S2.B j 0 64).toArray⟩ from rfl]
            generalize (⟨(readS n S2.R S2.B j 0 64).toArray⟩ : ByteArray) = X
            generalize readE n S2.R j 0 64 = E10
            go_wp2
            go_roundw
            case rel => exact ⟨j + 1, by omega, by go_num, HM10.out, HR10.out, HB10.out⟩
            case measure => simp [intOf]; omega
          · obtain rfl : n = j := by omega
            go_wp2
            go_roundw
            case rel => exact ⟨k + 1, S2, by omega, by go_num, HO2.out, HMi.out, HRi.out, HBi.out⟩
            case measure => simp [intOf]; omega
    · have hex : (¬ k < len) ∨ (k < len ∧ ¬ k < 80) := by omega
      clear hgo
      rcases hex with h1 | ⟨h1, h2⟩
      all_goals
        go_wp2_with fail
        refine (drop_rep HM.out HO.out).mono ?_
        rintro e w6 ⟨rfl, ⟨R6, hM6, hZ6⟩, hG6⟩
        have HR6 := Lib.hid (refOf HM.out HR.out hG6)
        have HB6 := Lib.hid (hgt.out _ _ HB.out (Three.of_mem gb gr hG6))
        have HM6 := Lib.hid hM6; have HZ6 := Lib.hid (left_none hZ6)
        clear hM6 hG6 hZ6
        go_wp2_with fail
        refine (rdrop HR6.out HO.out).mono ?_
        rintro e w7 ⟨rfl, ⟨R7, hR7, hZ7⟩, hT7⟩
        have HM7 := Lib.hid (memTwo HM6.out HR6.out hT7)
        have HR7 := Lib.hid hR7
        have HB7 := Lib.hid (hgt.out _ _ HB6.out (Three.of_two g hT7))
        have HZ7 := Lib.hid (left_none hZ7)
        clear hR7 hZ7 hT7
        go_wp2_with fail
        refine (left_any HM7.out).mono ?_
        rintro e w8 ⟨rfl, hB8⟩
        rw [HZ6.out]
        have HR8 := Lib.hid (RefAt.below HR7.out hB8)
        have HB8 := Lib.hid (below_step HB7.out hB8)
        clear hB8
        go_wp2_with fail
        refine (rleft HR8.out).mono ?_
        rintro e w' ⟨rfl, rfl⟩
        rw [HZ7.out]
        go_wp2
        go_ret
        exact ⟨rfl, HB8.out⟩

set_option maxRecDepth 100000 in
set_option maxHeartbeats 1000000 in
theorem does_out (n : Int) (hn : n < 1 ∨ 40 < n) (a : Option Addr) (len cap : Nat) (w : World) :
    Calls Try.prog 3 #[.int .i64 n, .slice a len cap] w fun e w' => e = .returned (.bool true) ∧ Below w.heap.size w w' := by
  have hn' : (n < 1) ∨ (¬ n < 1 ∧ 40 < n) := by omega
  clear hn
  rcases hn' with h1 | ⟨h1, h2⟩
  all_goals
    go_enter Try.func3, Try.ntmps3
    go_wp2_with fail
    refine (shown_any _).mono ?_
    rintro e w1 ⟨rfl, hB1⟩
    have HB1 := Lib.hid hB1; clear hB1
    go_wp2
    go_ret
    exact ⟨rfl, HB1.out⟩

set_option maxRecDepth 100000 in
theorem does_lifted (os : Os) (started : os.Started) (H : Type) (enc : TypeId × Value → H) :
    ReturnsInHanded {} Try.checked os 3 .any (Rows.ptableDoesSpec.pre6 enc Try.prog Try.f3 Rows.ptableDoesRow.domain false) (Rows.ptableDoesSpec.post enc Try.prog Try.f3 false true false false) := by
  refine returnsInHanded_of_change (C := Try.checked) own started (by kernel_rfl) Try.func3
    (ChangeSpec.witness6 (enc := enc) (C := Try.checked) false ⟨#[], #[.int .i64 0, .slice none 0 0], []⟩ 8 (by kernel_rfl) (by kernel_rfl) (by kernel_rfl) (by kernel_rfl)) ?_
  intro W base args ds gs before hval0 hW _ _
  have hval : ∀ (j : Nat) t v, Try.f3.params[j]? = some t → args[j]? = some v → Value.okWide Try.prog W .any base t v := hval0
  have hW' := hW
  obtain ⟨p, q, hA0, hV, rfl, hfz, hnd⟩ := hW
  have hA : DataW.TrodAll enc Try.prog W 0 (fun _ => true) true Try.f3.params.toList args.toList ds p := hA0
  rw [Try.params3] at hA hval
  obtain ⟨v0, vs0, d0, ds0, p0, q0, hargs, rfl, rfl, h0, r0⟩ := trodAll_cons hA
  obtain ⟨v1, vs1, d1, ds1, p1, q1, rfl, rfl, rfl, h1, r1⟩ := trodAll_cons r0
  obtain ⟨rfl, rfl, rfl⟩ := trodAll_nil r1
  obtain rfl : args = #[v0, v1] := by cases args; simp_all
  obtain ⟨x0, rfl, -, -, wf0⟩ := open_int Try.underlying3 (hval 0 3 v0 rfl rfl) h0
  obtain ⟨a, len, cap, rfl, hacts⟩ := open_acts (hval 1 22 v1 rfl rfl) h1
  have hwalk : Calls Try.prog 3 #[.int .i64 x0, .slice a len cap] W fun e w' => e = .returned (.bool true) ∧ Below W.heap.size W w' := by
    by_cases hn : 1 ≤ x0 ∧ x0 ≤ 40
    · obtain ⟨m, rfl⟩ := Int.eq_ofNat_of_zero_le (show 0 ≤ x0 by omega)
      exact does_walk m (by omega) (by omega) a len cap W hacts
    · exact does_out x0 (by omega) a len cap W
  refine hwalk.mono fun e W' ⟨he, bel⟩ => ⟨_, he, ?_⟩
  exact law_post laidOut (of_decide_eq_true (by kernel_rfl)) rfl Try.underlying4 rfl hW' (fun ds' e => by subst e; rfl) bel

theorem ptableDoes_holds : Rows.PtableDoesSaid :=
  OpenClaim.holds_of_wide 3 Try.f3 rfl rfl rfl rfl rfl rfl rfl ⟨rfl, rfl, rfl, rfl, rfl⟩ rfl rfl rfl rfl rfl (by kernel_rfl) Try.func3 (by kernel_rfl)
    (of_decide_eq_true (by kernel_rfl)) (by unfold Func.isWrapper; rw [if_neg (by decide +kernel)]; exact ⟨rfl, rfl⟩)
    (fun os started H enc _ => does_lifted os started H enc)

#print axioms ptableDoes_holds
end Go.Proofs.Ytkcoeibbmfkjlaa
