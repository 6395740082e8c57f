/- CredMore: for every credentials, permission, more bits and what is wanted: more bits in a mode allow more; no condition. -/
import Derived.Test.YtpankbmlidnoaaaCredShown
import Derived.Test.YtpankbmlidnoaaaCredArgs
namespace Go.Proofs.Ytpankbmlidnoaaa
open Go.ChangeShapes Go.WideShapes Go.ChangeAt Go.RowKit

/-- the bits of two modes together. -/
theorem or_mode {m k : Int} (hm : 0 ≤ m ∧ m ≤ 511) (hk : 0 ≤ k ∧ k ≤ 511) : bits BinOp.or IntKind.i64 m k = ((m.toNat ||| k.toNat : Nat) : Int) := by
  obtain ⟨x, rfl⟩ : ∃ x : Nat, m = x := ⟨m.toNat, by omega⟩
  obtain ⟨y, rfl⟩ : ∃ y : Nat, k = y := ⟨k.toNat, by omega⟩
  have hb : bits BinOp.or IntKind.i64 (x : Int) (y : Int) = IntKind.i64.wrap ((BitVec.ofInt 64 (x : Int) ||| BitVec.ofInt 64 (y : Int)).toNat : Int) := rfl
  have hlt : x ||| y < 2 ^ 9 := Nat.or_lt_two_pow (by omega) (by omega)
  rw [hb, BitVec.toNat_or, ofInt_u64 _ (by omega), ofInt_u64 _ (by omega), Lib.wrap_i64_small _ (by omega)]
  simp

theorem or_has : ∀ x y : Fin 8, ∀ z ∈ [(2 : Int), 4, 6], hasB (x.1 : Int) z = true → hasB ((x.1 ||| y.1 : Nat) : Int) z = true := by decide +kernel

theorem or_dig (q : Int) (x y : Nat) (hx : x < 512) (hy : y < 512) : ∃ a b : Fin 8, digN q (x : Int) = (a.1 : Int) ∧ digN q ((x ||| y : Nat) : Int) = ((a.1 ||| b.1 : Nat) : Int) := by
  have h6 : (x ||| y) / 2 ^ 6 = x / 2 ^ 6 ||| y / 2 ^ 6 := by rw [← Nat.shiftRight_eq_div_pow, ← Nat.shiftRight_eq_div_pow, ← Nat.shiftRight_eq_div_pow, Nat.shiftRight_or_distrib]
  have h3 : (x ||| y) / 2 ^ 3 = x / 2 ^ 3 ||| y / 2 ^ 3 := by rw [← Nat.shiftRight_eq_div_pow, ← Nat.shiftRight_eq_div_pow, ← Nat.shiftRight_eq_div_pow, Nat.shiftRight_or_distrib]
  have h3m : (x / 2 ^ 3 ||| y / 2 ^ 3) % 2 ^ 3 = (x / 2 ^ 3) % 2 ^ 3 ||| (y / 2 ^ 3) % 2 ^ 3 := Nat.or_mod_two_pow
  have h0m : (x ||| y) % 2 ^ 3 = x % 2 ^ 3 ||| y % 2 ^ 3 := Nat.or_mod_two_pow
  unfold digN
  by_cases c4 : q = 4
  · exact ⟨7, 0, by rw [if_pos c4]; rfl, by rw [if_pos c4]; rfl⟩
  · rw [if_neg c4, if_neg c4]
    by_cases c3 : q = 3
    · refine ⟨⟨x / 64, by omega⟩, ⟨y / 64, by omega⟩, by rw [if_pos c3]; simp, ?_⟩
      rw [if_pos c3]
      show ((x ||| y : Nat) : Int) / 64 = ((x / 64 ||| y / 64 : Nat) : Int)
      rw [show x / 64 ||| y / 64 = (x ||| y) / 64 from h6.symm]
      omega
    · rw [if_neg c3, if_neg c3]
      by_cases c2 : q = 2
      · refine ⟨⟨x / 8 % 8, by omega⟩, ⟨y / 8 % 8, by omega⟩, by rw [if_pos c2]; simp, ?_⟩
        rw [if_pos c2]
        show ((x ||| y : Nat) : Int) / 8 % 8 = ((x / 8 % 8 ||| y / 8 % 8 : Nat) : Int)
        rw [show x / 8 % 8 ||| y / 8 % 8 = (x ||| y) / 8 % 8 from by rw [show (8 : Nat) = 2 ^ 3 from rfl, h3, h3m]]
        omega
      · refine ⟨⟨x % 8, by omega⟩, ⟨y % 8, by omega⟩, by rw [if_neg c2]; simp, ?_⟩
        rw [if_neg c2]
        show ((x ||| y : Nat) : Int) % 8 = ((x % 8 ||| y % 8 : Nat) : Int)
        rw [show x % 8 ||| y % 8 = (x ||| y) % 8 from h0m.symm]
        omega

theorem more_allows {u g a b c d m k x : Int} (hk : 0 ≤ k ∧ k ≤ 511) (h : allowN u g a b c d m x = 0) : allowN u g a b c d (bits BinOp.or IntKind.i64 m k) x = 0 := by
  have h1 : (rightB u g && permB a b c d m && wantB x) = true := by
    cases hh : (rightB u g && permB a b c d m && wantB x)
    · unfold allowN at h; rw [hh] at h; cases h
    · rfl
  simp only [Bool.and_eq_true] at h1
  obtain ⟨⟨hr, hp⟩, hx⟩ := h1
  have hp' := hp
  simp only [permB, modB, Bool.and_eq_true, decide_eq_true_eq] at hp'
  have hm := hp'.2
  rw [or_mode hm hk]
  obtain ⟨y, rfl⟩ : ∃ y : Nat, m = y := ⟨m.toNat, by omega⟩
  obtain ⟨z, rfl⟩ : ∃ z : Nat, k = z := ⟨k.toNat, by omega⟩
  simp only [Int.toNat_natCast]
  have hlt : y ||| z < 2 ^ 9 := Nat.or_lt_two_pow (by omega) (by omega)
  have hq : permB a b c d ((y ||| z : Nat) : Int) = true := by
    simp only [permB, modB, Bool.and_eq_true, decide_eq_true_eq]
    exact ⟨hp'.1, by omega, by omega⟩
  unfold allowN bitsN at h ⊢
  rw [hr, hp, hx] at h
  rw [hr, hq, hx]
  simp only [Bool.and_true, if_true] at h ⊢
  obtain ⟨e1, e2, d1, d2⟩ := or_dig (placeN u g a b c d) y z (by omega) (by omega)
  rw [d1] at h
  rw [d2]
  have hmem : x ∈ [(2 : Int), 4, 6] := by simpa [wantB] using hx
  have hh : hasB (e1.1 : Int) x = true := by
    cases hc : hasB (e1.1 : Int) x
    · rw [hc] at h; cases h
    · rfl
  rw [or_has e1 e2 x hmem hh]
  rfl

set_option maxRecDepth 100000 in
set_option maxHeartbeats 1000000 in
theorem more_walk (u g a b c d m k x : Int) (w : World) : Calls Try.prog 4 #[.agg #[.int .i64 u, .int .i64 g], .agg #[.int .i64 a, .int .i64 b, .int .i64 c, .int .i64 d, .int .i64 m], .int .i64 k, .int .i64 x] w fun e w' => e = .returned (.bool true) ∧ Below w.heap.size w w' := by
  by_cases h1 : k < 0
  · have bC := (BoxA.new w 23 #[.int .i64 u, .int .i64 g]).alloc (.cells #[.int .i64 a, .int .i64 b, .int .i64 c, .int .i64 d, .int .i64 m] 25)
    have bP := BoxA.new (w.alloc (.cells #[.int .i64 u, .int .i64 g] 23)) 25 #[.int .i64 a, .int .i64 b, .int .i64 c, .int .i64 d, .int .i64 m]
    simp only [World.size_alloc] at bP
    have HB0 := Lib.hid (((Below.refl w.heap.size w).alloc (by first | exact Nat.le_refl _ | (simp; done) | (simp; omega)) (.cells #[.int .i64 u, .int .i64 g] 23)).alloc (by first | exact Nat.le_refl _ | (simp; done) | (simp; omega)) (.cells #[.int .i64 a, .int .i64 b, .int .i64 c, .int .i64 d, .int .i64 m] 25))
    have BC0 := Lib.hid bC; have BP0 := Lib.hid bP; clear bC bP
    go_enter Try.func4, Try.ntmps4
    go_wp2_with fail
    refine (shown5_any _).mono ?_
    rintro e w1 ⟨rfl, hB⟩
    have bC := BC0.out.below' hB; have bP := BP0.out.below' hB
    have HB1 := Lib.hid (HB0.out.trans (hB.mono HB0.out.size))
    clear hB BC0 BP0
    have c0 := bC.at 0 rfl; have c1 := bC.at 1 rfl; have p0 := bP.at 0 rfl; have p1 := bP.at 1 rfl; have p2 := bP.at 2 rfl; have p3 := bP.at 3 rfl; have p4 := bP.at 4 rfl
    have BC1 := Lib.hid bC; have BP1 := Lib.hid bP; clear bC bP
    go_wp2
    go_ret
    exact ⟨rfl, HB1.out⟩
  · by_cases h2 : k > 511
    · have bC := (BoxA.new w 23 #[.int .i64 u, .int .i64 g]).alloc (.cells #[.int .i64 a, .int .i64 b, .int .i64 c, .int .i64 d, .int .i64 m] 25)
      have bP := BoxA.new (w.alloc (.cells #[.int .i64 u, .int .i64 g] 23)) 25 #[.int .i64 a, .int .i64 b, .int .i64 c, .int .i64 d, .int .i64 m]
      simp only [World.size_alloc] at bP
      have HB0 := Lib.hid (((Below.refl w.heap.size w).alloc (by first | exact Nat.le_refl _ | (simp; done) | (simp; omega)) (.cells #[.int .i64 u, .int .i64 g] 23)).alloc (by first | exact Nat.le_refl _ | (simp; done) | (simp; omega)) (.cells #[.int .i64 a, .int .i64 b, .int .i64 c, .int .i64 d, .int .i64 m] 25))
      have BC0 := Lib.hid bC; have BP0 := Lib.hid bP; clear bC bP
      go_enter Try.func4, Try.ntmps4
      go_wp2_with fail
      refine (shown5_any _).mono ?_
      rintro e w1 ⟨rfl, hB⟩
      have bC := BC0.out.below' hB; have bP := BP0.out.below' hB
      have HB1 := Lib.hid (HB0.out.trans (hB.mono HB0.out.size))
      clear hB BC0 BP0
      have c0 := bC.at 0 rfl; have c1 := bC.at 1 rfl; have p0 := bP.at 0 rfl; have p1 := bP.at 1 rfl; have p2 := bP.at 2 rfl; have p3 := bP.at 3 rfl; have p4 := bP.at 4 rfl
      have BC1 := Lib.hid bC; have BP1 := Lib.hid bP; clear bC bP
      go_wp2
      go_ret
      exact ⟨rfl, HB1.out⟩
    · by_cases hA : allowN u g a b c d m x = 0
      · have HA := Lib.hid hA
        have HA2 := Lib.hid (more_allows (k := k) (by omega) hA); clear hA
        have bC := (BoxA.new w 23 #[.int .i64 u, .int .i64 g]).alloc (.cells #[.int .i64 a, .int .i64 b, .int .i64 c, .int .i64 d, .int .i64 m] 25)
        have bP := BoxA.new (w.alloc (.cells #[.int .i64 u, .int .i64 g] 23)) 25 #[.int .i64 a, .int .i64 b, .int .i64 c, .int .i64 d, .int .i64 m]
        simp only [World.size_alloc] at bP
        have HB0 := Lib.hid (((Below.refl w.heap.size w).alloc (by first | exact Nat.le_refl _ | (simp; done) | (simp; omega)) (.cells #[.int .i64 u, .int .i64 g] 23)).alloc (by first | exact Nat.le_refl _ | (simp; done) | (simp; omega)) (.cells #[.int .i64 a, .int .i64 b, .int .i64 c, .int .i64 d, .int .i64 m] 25))
        have BC0 := Lib.hid bC; have BP0 := Lib.hid bP; clear bC bP
        go_enter Try.func4, Try.ntmps4
        go_wp2_with fail
        refine (shown5_any _).mono ?_
        rintro e w1 ⟨rfl, hB⟩
        have bC := BC0.out.below' hB; have bP := BP0.out.below' hB
        have HB1 := Lib.hid (HB0.out.trans (hB.mono HB0.out.size))
        clear hB BC0 BP0
        have aC := bC.alloc (.cells #[.int .i64 a, .int .i64 b, .int .i64 c, .int .i64 d, .int .i64 (bits BinOp.or IntKind.i64 m k)] 25); have aP := bP.alloc (.cells #[.int .i64 a, .int .i64 b, .int .i64 c, .int .i64 d, .int .i64 (bits BinOp.or IntKind.i64 m k)] 25)
        have aQ := BoxA.new w1 25 #[.int .i64 a, .int .i64 b, .int .i64 c, .int .i64 d, .int .i64 (bits BinOp.or IntKind.i64 m k)]
        have x0 := (bP.alloc (.cells #[.int .i64 a, .int .i64 b, .int .i64 c, .int .i64 d, .int .i64 m] 25)).at 4 rfl; have y0 := bP.at 0 rfl; have y1 := bP.at 1 rfl; have y2 := bP.at 2 rfl; have y3 := bP.at 3 rfl; have y4 := bP.at 4 rfl
        have HB2 := Lib.hid (HB1.out.alloc HB1.out.size (.cells #[.int .i64 a, .int .i64 b, .int .i64 c, .int .i64 d, .int .i64 (bits BinOp.or IntKind.i64 m k)] 25))
        clear bC bP
        have c0 := aC.at 0 rfl; have c1 := aC.at 1 rfl; have p0 := aP.at 0 rfl; have p1 := aP.at 1 rfl; have p2 := aP.at 2 rfl; have p3 := aP.at 3 rfl; have p4 := aP.at 4 rfl; have q0 := aQ.at 0 rfl; have q1 := aQ.at 1 rfl; have q2 := aQ.at 2 rfl; have q3 := aQ.at 3 rfl; have q4 := aQ.at 4 rfl
        have BC2 := Lib.hid aC; have BP2 := Lib.hid aP; have BQ2 := Lib.hid aQ; clear aC aP aQ
        go_wp2_with fail
        refine (allowed_any u g a b c d m x _).mono ?_
        rintro e w3 ⟨rfl, hB⟩
        rw [HA.out]
        have bC := BC2.out.below' hB; have bP := BP2.out.below' hB; have bQ := BQ2.out.below' hB
        have HB3 := Lib.hid (HB2.out.trans (hB.mono HB2.out.size))
        clear hB c0 c1 p0 p1 p2 p3 p4 q0 q1 q2 q3 q4 x0 y0 y1 y2 y3 y4 BC2 BP2 BQ2
        have c0 := bC.at 0 rfl; have c1 := bC.at 1 rfl; have p0 := bP.at 0 rfl; have p1 := bP.at 1 rfl; have p2 := bP.at 2 rfl; have p3 := bP.at 3 rfl; have p4 := bP.at 4 rfl; have q0 := bQ.at 0 rfl; have q1 := bQ.at 1 rfl; have q2 := bQ.at 2 rfl; have q3 := bQ.at 3 rfl; have q4 := bQ.at 4 rfl
        have BC3 := Lib.hid bC; have BP3 := Lib.hid bP; have BQ3 := Lib.hid bQ; clear bC bP bQ
        go_wp2_with fail
        refine (allowed_any u g a b c d (bits BinOp.or IntKind.i64 m k) x _).mono ?_
        rintro e w4 ⟨rfl, hB⟩
        rw [HA2.out]
        have bC := BC3.out.below' hB; have bP := BP3.out.below' hB; have bQ := BQ3.out.below' hB
        have HB4 := Lib.hid (HB3.out.trans (hB.mono HB3.out.size))
        clear hB c0 c1 p0 p1 p2 p3 p4 q0 q1 q2 q3 q4 BC3 BP3 BQ3
        have c0 := bC.at 0 rfl; have c1 := bC.at 1 rfl; have p0 := bP.at 0 rfl; have p1 := bP.at 1 rfl; have p2 := bP.at 2 rfl; have p3 := bP.at 3 rfl; have p4 := bP.at 4 rfl; have q0 := bQ.at 0 rfl; have q1 := bQ.at 1 rfl; have q2 := bQ.at 2 rfl; have q3 := bQ.at 3 rfl; have q4 := bQ.at 4 rfl
        have BC4 := Lib.hid bC; have BP4 := Lib.hid bP; have BQ4 := Lib.hid bQ; clear bC bP bQ
        go_wp2
        go_ret
        exact ⟨rfl, HB4.out⟩
      · have hA' : (allowN u g a b c d m x != 0) = true := by simpa using hA
        have AT := Lib.hid (allowed_any u g a b c d m x)
        clear hA
        generalize allowN u g a b c d m x = A at *
        have bC := (BoxA.new w 23 #[.int .i64 u, .int .i64 g]).alloc (.cells #[.int .i64 a, .int .i64 b, .int .i64 c, .int .i64 d, .int .i64 m] 25)
        have bP := BoxA.new (w.alloc (.cells #[.int .i64 u, .int .i64 g] 23)) 25 #[.int .i64 a, .int .i64 b, .int .i64 c, .int .i64 d, .int .i64 m]
        simp only [World.size_alloc] at bP
        have HB0 := Lib.hid (((Below.refl w.heap.size w).alloc (by first | exact Nat.le_refl _ | (simp; done) | (simp; omega)) (.cells #[.int .i64 u, .int .i64 g] 23)).alloc (by first | exact Nat.le_refl _ | (simp; done) | (simp; omega)) (.cells #[.int .i64 a, .int .i64 b, .int .i64 c, .int .i64 d, .int .i64 m] 25))
        have BC0 := Lib.hid bC; have BP0 := Lib.hid bP; clear bC bP
        go_enter Try.func4, Try.ntmps4
        go_wp2_with fail
        refine (shown5_any _).mono ?_
        rintro e w1 ⟨rfl, hB⟩
        have bC := BC0.out.below' hB; have bP := BP0.out.below' hB
        have HB1 := Lib.hid (HB0.out.trans (hB.mono HB0.out.size))
        clear hB BC0 BP0
        have aC := bC.alloc (.cells #[.int .i64 a, .int .i64 b, .int .i64 c, .int .i64 d, .int .i64 (bits BinOp.or IntKind.i64 m k)] 25); have aP := bP.alloc (.cells #[.int .i64 a, .int .i64 b, .int .i64 c, .int .i64 d, .int .i64 (bits BinOp.or IntKind.i64 m k)] 25)
        have aQ := BoxA.new w1 25 #[.int .i64 a, .int .i64 b, .int .i64 c, .int .i64 d, .int .i64 (bits BinOp.or IntKind.i64 m k)]
        have x0 := (bP.alloc (.cells #[.int .i64 a, .int .i64 b, .int .i64 c, .int .i64 d, .int .i64 m] 25)).at 4 rfl; have y0 := bP.at 0 rfl; have y1 := bP.at 1 rfl; have y2 := bP.at 2 rfl; have y3 := bP.at 3 rfl; have y4 := bP.at 4 rfl
        have HB2 := Lib.hid (HB1.out.alloc HB1.out.size (.cells #[.int .i64 a, .int .i64 b, .int .i64 c, .int .i64 d, .int .i64 (bits BinOp.or IntKind.i64 m k)] 25))
        clear bC bP
        have c0 := aC.at 0 rfl; have c1 := aC.at 1 rfl; have p0 := aP.at 0 rfl; have p1 := aP.at 1 rfl; have p2 := aP.at 2 rfl; have p3 := aP.at 3 rfl; have p4 := aP.at 4 rfl; have q0 := aQ.at 0 rfl; have q1 := aQ.at 1 rfl; have q2 := aQ.at 2 rfl; have q3 := aQ.at 3 rfl; have q4 := aQ.at 4 rfl
        have BC2 := Lib.hid aC; have BP2 := Lib.hid aP; have BQ2 := Lib.hid aQ; clear aC aP aQ
        go_wp2_with fail
        refine (AT.out _).mono ?_
        rintro e w3 ⟨rfl, hB⟩
        have bC := BC2.out.below' hB; have bP := BP2.out.below' hB; have bQ := BQ2.out.below' hB
        have HB3 := Lib.hid (HB2.out.trans (hB.mono HB2.out.size))
        clear hB c0 c1 p0 p1 p2 p3 p4 q0 q1 q2 q3 q4 x0 y0 y1 y2 y3 y4 BC2 BP2 BQ2
        have c0 := bC.at 0 rfl; have c1 := bC.at 1 rfl; have p0 := bP.at 0 rfl; have p1 := bP.at 1 rfl; have p2 := bP.at 2 rfl; have p3 := bP.at 3 rfl; have p4 := bP.at 4 rfl; have q0 := bQ.at 0 rfl; have q1 := bQ.at 1 rfl; have q2 := bQ.at 2 rfl; have q3 := bQ.at 3 rfl; have q4 := bQ.at 4 rfl
        have BC3 := Lib.hid bC; have BP3 := Lib.hid bP; have BQ3 := Lib.hid bQ; clear bC bP bQ
        go_wp2
        go_ret
        exact ⟨rfl, HB3.out⟩

set_option maxRecDepth 100000 in
theorem credMore_lifted (os : Os) (started : os.Started) (H : Type) (enc : TypeId × Value → H) :
    ReturnsInHanded {} Try.checked os 4 .any (Rows.credMoreSpec.pre6 enc Try.prog Try.f4 Rows.credMoreRow.domain false) (Rows.credMoreSpec.post enc Try.prog Try.f4 false true false false) := by
  refine returnsInHanded_of_change (C := Try.checked) own started (by kernel_rfl) Try.func4
    (ChangeSpec.witness6 (enc := enc) (C := Try.checked) false ⟨#[], #[.agg #[.int .i64 0, .int .i64 0], .agg #[.int .i64 0, .int .i64 0, .int .i64 0, .int .i64 0, .int .i64 0], .int .i64 0, .int .i64 0], []⟩ 8 (by kernel_rfl) (by kernel_rfl) (by kernel_rfl) (by kernel_rfl)) ?_
  intro W base args ds gs before hval0 hW _ _
  have hval : ∀ (j : Nat) t v, Try.f4.params[j]? = some t → args[j]? = some v → Value.okWide Try.prog W .any base t v := hval0
  have hW' := hW
  obtain ⟨p, q, hA0, hV, rfl, hfz, hnd⟩ := hW
  have hA : DataW.TrodAll enc Try.prog W 0 (fun _ => true) true Try.f4.params.toList args.toList ds p := hA0
  rw [Try.params4] at hA hval
  obtain ⟨v0, vs0, d0, ds0, p0, q0, hargs, rfl, rfl, h0, r0⟩ := trodAll_cons hA
  obtain ⟨v1, vs1, d1, ds1, p1, q1, rfl, rfl, rfl, h1, r1⟩ := trodAll_cons r0
  obtain ⟨v2, vs2, d2, ds2, p2, q2, rfl, rfl, rfl, h2, r2⟩ := trodAll_cons r1
  obtain ⟨v3, vs3, d3, ds3, p3, q3, rfl, rfl, rfl, h3, r3⟩ := trodAll_cons r2
  obtain ⟨rfl, rfl, rfl⟩ := trodAll_nil r3
  obtain rfl : args = #[v0, v1, v2, v3] := by cases args; simp_all
  obtain ⟨x0, x1, rfl⟩ := open_cred (hval 0 23 v0 rfl rfl) h0
  obtain ⟨x2, x3, x4, x5, x6, rfl⟩ := open_perm (hval 1 25 v1 rfl rfl) h1
  obtain ⟨x7, rfl, -, -, _⟩ := open_int Try.underlying3 (hval 2 3 v2 rfl rfl) h2
  obtain ⟨x8, rfl, -, -, _⟩ := open_int Try.underlying3 (hval 3 3 v3 rfl rfl) h3
  refine (more_walk x0 x1 x2 x3 x4 x5 x6 x7 x8 W).mono fun e W' ⟨he, bel⟩ => ⟨_, he, ?_⟩
  exact law_post laidOut (of_decide_eq_true (by kernel_rfl)) rfl Try.underlying4 rfl hW' (fun ds' e => by subst e; rfl) bel

theorem credMore_holds : Rows.CredMoreSaid :=
  OpenClaim.holds_of_wide 4 Try.f4 rfl rfl rfl rfl rfl rfl rfl ⟨rfl, rfl, rfl, rfl, rfl⟩ rfl rfl rfl rfl rfl (by kernel_rfl) Try.func4 (by kernel_rfl)
    (of_decide_eq_true (by kernel_rfl)) (by unfold Func.isWrapper; rw [if_neg (by decide +kernel)]; exact ⟨rfl, rfl⟩)
    (fun os started H enc _ => credMore_lifted os started H enc)

#print axioms credMore_holds
end Go.Proofs.Ytpankbmlidnoaaa
