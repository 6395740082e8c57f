/- Package frames: its calls as one plain machine on (R, B); what 'shown' tells. -/
import Derived.Test.YtgbgjnhdoedboaaFramesAlloc
namespace Go.Proofs.Ytgbgjnhdoedboaa
open Go.RowKit

/-- the first frame that is not in use. -/
def allocF (n : Nat) (R : Nat → Int) : Option Nat := (List.range n).find? fun k => decide (R k = 0)
def allocN (n : Nat) (R : Nat → Int) : Nat := (allocF n R).getD 0
def allocE (n : Nat) (R : Nat → Int) : Int := if (allocF n R).isSome = true then 0 else 11
def allocR (n : Nat) (R : Nat → Int) : Nat → Int := if (allocF n R).isSome = true then updR R (allocN n R) 1 else R
def allocB (n : Nat) (R : Nat → Int) (B : Nat → List UInt8) : Nat → List UInt8 := if (allocF n R).isSome = true then updB B (allocN n R) zeroPage else B

theorem allocF_some {n : Nat} {R : Nat → Int} {k : Nat} (hk : k < n) (h0 : R k = 0) (hj : ∀ j, j < k → 0 < R j) : allocF n R = some k := by
  unfold allocF
  rw [List.find?_eq_some_iff_append]
  refine ⟨by simpa using h0, List.range k, (List.range' (k + 1) (n - k - 1)), ?_, ?_⟩
  · apply List.ext_getElem?
    intro i
    by_cases h1 : i < k
    · rw [List.getElem?_append_left (by simpa using h1)]
      rw [List.getElem?_range (by omega), List.getElem?_range h1]
    · rw [List.getElem?_append_right (by simp; omega)]
      simp only [List.length_range]
      by_cases h2 : i = k
      · subst h2; simp [hk]
      · rw [show i - k = (i - k - 1) + 1 from by omega, List.getElem?_cons_succ]
        by_cases h3 : i < n
        · rw [List.getElem?_range h3, List.getElem?_range' (by omega)]
          congr 1; omega
        · rw [List.getElem?_eq_none (by simp; omega), List.getElem?_eq_none (by simp; omega)]
  · intro j hjm
    have := hj j (List.mem_range.1 hjm)
    simp; omega
theorem allocF_none {n : Nat} {R : Nat → Int} (hj : ∀ j, j < n → 0 < R j) : allocF n R = none := by
  unfold allocF
  rw [List.find?_eq_none]
  intro j hjm
  have := hj j (List.mem_range.1 hjm)
  simp; omega

section
variable {w : World} {p g n : Nat} {R : Nat → Int} {B : Nat → List UInt8}

theorem alloc_fn (h : MemAt w p g n R B) :
    Calls Try.prog 21 #[.pointer (some ⟨p, 0, none⟩)] w fun e W' =>
      e = .returned (.tuple #[.int .i64 (allocN n R : Nat), .int .i64 (allocE n R)]) ∧ MemAt W' p g n (allocR n R) (allocB n R B) ∧ w.grownBy W' (some g) := by
  refine (alloc_mem h).mono ?_
  rintro e W' ⟨⟨k, hk, h0, hj, rfl, hM⟩ | ⟨hj, rfl, hM⟩, hG⟩
  · have hs := allocF_some hk h0 hj
    simp only [allocN, allocE, allocR, allocB, hs, Option.isSome_some, if_true, Option.getD_some]
    exact ⟨trivial, hM, hG⟩
  · have hs := allocF_none hj
    simp only [allocN, allocE, allocR, allocB, hs, Option.isSome_none, Bool.false_eq_true, if_false, Option.getD_none]
    exact ⟨rfl, hM, hG⟩

/-- what reading tells. -/
def readE (n : Nat) (R : Nat → Int) (k o m : Int) : Int := if liveB n R k = true then (if spanB o m = true then 0 else 2) else 10
def readS (n : Nat) (R : Nat → Int) (B : Nat → List UInt8) (k o m : Int) : List UInt8 := if readE n R k o m = 0 then ((B k.toNat).drop o.toNat).take m.toNat else []
def writeB (n : Nat) (R : Nat → Int) (B : Nat → List UInt8) (k o : Int) (s : List UInt8) : Nat → List UInt8 := if readE n R k o s.length = 0 then updB B k.toNat (putBytes (B k.toNat) o.toNat s) else B

theorem span_nat {o m : Int} (h : spanB o m = true) : ∃ a b : Nat, o = a ∧ m = b ∧ a + b ≤ 64 := by
  simp only [spanB, decide_eq_true_eq] at h
  exact ⟨o.toNat, m.toNat, by omega, by omega, by omega⟩

theorem read_fn (h : MemAt w p g n R B) (k o m : Int) :
    Calls Try.prog 17 #[.pointer (some ⟨p, 0, none⟩), .int .i64 k, .int .i64 o, .int .i64 m] w fun e W' =>
      e = .returned (.tuple #[.string ⟨(readS n R B k o m).toArray⟩, .int .i64 (readE n R k o m)]) ∧ Below w.heap.size w W' := by
  cases hl : liveB n R k with
  | false =>
    refine (read_no h k o m hl).mono ?_
    rintro e W' ⟨rfl, rfl⟩
    have hE : readE n R k o m = 10 := by simp [readE, hl]
    refine ⟨by simp [readS, hE], (Below.refl _ _).alloc (Nat.le_refl _) _⟩
  | true =>
    obtain ⟨j, rfl, hj, hr⟩ := live_nat hl
    cases hs : spanB o m with
    | false =>
      refine (read_span h j hj hr o m hs).mono ?_
      rintro e W' ⟨rfl, rfl⟩
      have hE : readE n R j o m = 2 := by simp [readE, hl, hs]
      exact ⟨by simp [readS, hE], ((Below.refl _ _).alloc (Nat.le_refl _) _).alloc (by simp) _⟩
    | true =>
      obtain ⟨a, b, rfl, rfl, hab⟩ := span_nat hs
      refine (read_in h j hj hr a b hab).mono ?_
      rintro e W' ⟨rfl, rfl⟩
      have hE : readE n R j a b = 0 := by simp [readE, hl, hs]
      exact ⟨by simp [readS, hE], ((Below.refl _ _).alloc (Nat.le_refl _) _).alloc (by simp) _⟩

theorem write_fn (h : MemAt w p g n R B) (k o : Int) (s : ByteArray) (hsz : s.size ≤ maxLen) :
    Calls Try.prog 24 #[.pointer (some ⟨p, 0, none⟩), .int .i64 k, .int .i64 o, .string s] w fun e W' =>
      e = .returned (.int .i64 (readE n R k o s.size)) ∧ MemAt W' p g n R (writeB n R B k o s.data.toList) ∧ w.grownBy W' (some g) := by
  unfold writeB
  rw [toList_length]
  cases hl : liveB n R k with
  | false =>
    refine (write_no h k o s hl).mono ?_
    rintro e W' ⟨rfl, rfl⟩
    have hE : readE n R k o s.size = 10 := by simp [readE, hl]
    rw [hE, if_neg (by omega)]
    exact ⟨rfl, h.alloc _, World.grownBy_alloc _ _ _⟩
  | true =>
    obtain ⟨j, rfl, hj, hr⟩ := live_nat hl
    cases hs : spanB o s.size with
    | false =>
      refine (write_span h j hj hr o s hsz hs).mono ?_
      rintro e W' ⟨rfl, rfl⟩
      have hE : readE n R j o s.size = 2 := by simp [readE, hl, hs]
      rw [hE, if_neg (by omega)]
      exact ⟨rfl, (h.alloc _).alloc _, grown_trans (World.grownBy_alloc _ _ _) (World.grownBy_alloc _ _ _)⟩
    | true =>
      have hE : readE n R j o s.size = 0 := by simp [readE, hl, hs]
      obtain ⟨a, b, rfl, hb, hab⟩ := span_nat hs
      have hb' : s.size = b := by omega
      refine (write_in h j hj hr a s (by omega)).mono ?_
      rintro e W' ⟨rfl, hM, hG⟩
      rw [hE, if_pos rfl]
      exact ⟨rfl, hM, hG⟩

theorem refs_fn (h : MemAt w p g n R B) (k : Int) : Calls Try.prog 19 #[.pointer (some ⟨p, 0, none⟩), .int .i64 k] w fun e w' => e = .returned (.int .i64 (refsN n R k)) ∧ Below w.heap.size w w' := by
  refine (refs_any h k).mono ?_
  rintro e W' ⟨rfl, rfl⟩
  exact ⟨rfl, (Below.refl _ _).alloc (Nat.le_refl _) _⟩

end

/-- the references as 'shown' makes them. -/
theorem shown_vals : allocN 2 (fun _ => 0) = 0 ∧ allocE 2 (fun _ => 0) = 0 ∧
    allocN 2 (allocR 2 (fun _ => 0)) = 1 ∧ allocE 2 (allocR 2 (fun _ => 0)) = 0 ∧ allocN 2 (allocR 2 (allocR 2 (fun _ => 0))) = 0 ∧ allocE 2 (allocR 2 (allocR 2 (fun _ => 0))) = 11 ∧
    freeE 2 (allocR 2 (allocR 2 (allocR 2 (fun _ => 0)))) 0 = 0 ∧
    allocN 2 (freeR 2 (allocR 2 (allocR 2 (allocR 2 (fun _ => 0)))) 0) = 0 ∧ allocE 2 (freeR 2 (allocR 2 (allocR 2 (allocR 2 (fun _ => 0)))) 0) = 0 := by decide

set_option maxHeartbeats 800000 in
theorem shown_any (w : World) : Calls Try.prog 10 #[] w fun e w' => e = .returned (.bool true) ∧ Below w.heap.size w w' := by
  obtain ⟨a1, a2, b1, b2, c1, c2, d1, f1, f2⟩ := shown_vals
  generalize hR1 : allocR 2 (fun _ => 0) = R1 at *
  generalize hR2 : allocR 2 R1 = R2 at *
  generalize hR3 : allocR 2 R2 = R3 at *
  generalize hR4 : freeR 2 R3 0 = R4 at *
  have A1 := Lib.hid a1; have A2 := Lib.hid a2; have B1 := Lib.hid b1; have B2 := Lib.hid b2; have C1 := Lib.hid c1; have C2 := Lib.hid c2; have D1 := Lib.hid d1; have F1 := Lib.hid f1; have F2 := Lib.hid f2
  have H1 := Lib.hid hR1; have H2 := Lib.hid hR2; have H3 := Lib.hid hR3; have H4 := Lib.hid hR4
  clear a1 a2 b1 b2 c1 c2 d1 f1 f2 hR1 hR2 hR3 hR4
  go_enter Try.func10, Try.ntmps10
  go_wp2_with fail
  refine (new_ok 2 (by omega) (by omega) _).mono ?_
  rintro e w1 ⟨rfl, hM1, hB1⟩
  have HB1 := Lib.hid hB1; clear hB1
  go_wp2_with fail
  refine (alloc_fn hM1).mono ?_
  rintro e w2 ⟨rfl, hM2, hG2⟩
  rw [A1.out, A2.out]
  rw [H1.out] at hM2
  have HG2 := Lib.hid hG2; clear hG2
  go_wp2_with fail
  refine (alloc_fn hM2).mono ?_
  rintro e w3 ⟨rfl, hM3, hG3⟩
  rw [B1.out, B2.out]
  rw [H2.out] at hM3
  have HG3 := Lib.hid hG3; clear hG3
  go_wp2_with fail
  refine (alloc_fn hM3).mono ?_
  rintro e w4 ⟨rfl, hM4, hG4⟩
  rw [C1.out, C2.out]
  rw [H3.out] at hM4
  have HG4 := Lib.hid hG4; clear hG4
  go_wp2_with fail
  refine (free_mem hM4 0).mono ?_
  rintro e w5 ⟨rfl, hM5, hG5⟩
  rw [D1.out]
  rw [H4.out] at hM5
  have HG5 := Lib.hid hG5; clear hG5
  go_wp2_with fail
  refine (alloc_fn hM5).mono ?_
  rintro e w6 ⟨rfl, hM6, hG6⟩
  rw [F1.out, F2.out]
  have HG6 := Lib.hid hG6; clear hG6
  go_wp2_with fail
  refine (new_bad 0 (by omega) _).mono ?_
  rintro e w7 ⟨rfl, rfl⟩
  go_wp2
  go_ret
  refine ⟨rfl, ?_⟩
  have hg := grown_trans (grown_trans (grown_trans (grown_trans HG2.out HG3.out) HG4.out) HG5.out) HG6.out
  exact HB1.out.trans (below_of_grown hg (by have := HB1.out.size; omega) (fun k e => by cases e; omega))

end Go.Proofs.Ytgbgjnhdoedboaa
