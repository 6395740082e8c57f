/- Package frames: its calls as one plain machine on (R, B); what 'shown' tells. -/
import Derived.Test.YtdkaaoboipphcaaFramesAlloc
namespace Go.Proofs.Ytdkaaoboipphcaa
open Go.RowKit

/-- the first frame that is not in use. -/
def allocF (n : Nat) (R : Nat → Int) : Option Nat := (List.range n).find? fun k => decide (R k = 0)
def allocN (n : Nat) (R : Nat → Int) : Nat := (allocF n R).getD 0
def allocE (n : Nat) (R : Nat → Int) : Int := if (allocF n R).isSome = true then 0 else 11
def allocR (n : Nat) (R : Nat → Int) : Nat → Int := if (allocF n R).isSome = true then updR R (allocN n R) 1 else R
def allocB (n : Nat) (R : Nat → Int) (B : Nat → List UInt8) : Nat → List UInt8 := if (allocF n R).isSome = true then updB B (allocN n R) zeroPage else B

theorem allocF_some {n : Nat} {R : Nat → Int} {k : Nat} (hk : k < n) (h0 : R k = 0) (hj : ∀ j, j < k → 0 < R j) : allocF n R = some k := by
  unfold allocF
  rw [List.find?_eq_some_iff_append]
  refine ⟨by simpa using h0, List.range k, (List.range' (k + 1) (n - k - 1)), ?_, ?_⟩
  · apply List.ext_getElem?
    intro i
    by_cases h1 : i < k
    · rw [List.getElem?_append_left (by simpa using h1)]
      rw [List.getElem?_range (by omega), List.getElem?_range h1]
    · rw [List.getElem?_append_right (by simp; omega)]
      simp only [List.length_range]
      by_cases h2 : i = k
      · subst h2; simp [hk]
      · rw [show i - k = (i - k - 1) + 1 from by omega, List.getElem?_cons_succ]
        by_cases h3 : i < n
        · rw [List.getElem?_range h3, List.getElem?_range' (by omega)]
          congr 1; omega
        · rw [List.getElem?_eq_none (by simp; omega), List.getElem?_eq_none (by simp; omega)]
  · intro j hjm
    have := hj j (List.mem_range.1 hjm)
    simp; omega
theorem allocF_none {n : Nat} {R : Nat → Int} (hj : ∀ j, j < n → 0 < R j) : allocF n R = none := by
  unfold allocF
  rw [List.find?_eq_none]
  intro j hjm
  have := hj j (List.mem_range.1 hjm)
  simp; omega

section
variable {w : World} {p g n : Nat} {R : Nat → Int} {B : Nat → List UInt8}

theorem alloc_fn (h : MemAt w p g n R B) :
    Calls Try.prog 6 #[.pointer (some ⟨p, 0, none⟩)] w fun e W' =>
      e = .returned (.tuple #[.int .i64 (allocN n R : Nat), .int .i64 (allocE n R)]) ∧ MemAt W' p g n (allocR n R) (allocB n R B) ∧ w.grownBy W' (some g) := by
  refine (alloc_mem h).mono ?_
  rintro e W' ⟨⟨k, hk, h0, hj, rfl, hM⟩ | ⟨hj, rfl, hM⟩, hG⟩
  · have hs := allocF_some hk h0 hj
    simp only [allocN, allocE, allocR, allocB, hs, Option.isSome_some, if_true, Option.getD_some]
    exact ⟨trivial, hM, hG⟩
  · have hs := allocF_none hj
    simp only [allocN, allocE, allocR, allocB, hs, Option.isSome_none, Bool.false_eq_true, if_false, Option.getD_none]
    exact ⟨rfl, hM, hG⟩

/-- what reading tells. -/
def readE (n : Nat) (R : Nat → Int) (k o m : Int) : Int := if liveB n R k = true then (if spanB o m = true then 0 else 2) else 10
def readS (n : Nat) (R : Nat → Int) (B : Nat → List UInt8) (k o m : Int) : List UInt8 := if readE n R k o m = 0 then ((B k.toNat).drop o.toNat).take m.toNat else []
def writeB (n : Nat) (R : Nat → Int) (B : Nat → List UInt8) (k o : Int) (s : List UInt8) : Nat → List UInt8 := if readE n R k o s.length = 0 then updB B k.toNat (putBytes (B k.toNat) o.toNat s) else B

theorem span_nat {o m : Int} (h : spanB o m = true) : ∃ a b : Nat, o = a ∧ m = b ∧ a + b ≤ 64 := by
  simp only [spanB, decide_eq_true_eq] at h
  exact ⟨o.toNat, m.toNat, by omega, by omega, by omega⟩

theorem read_fn (h : MemAt w p g n R B) (k o m : Int) :
    Calls Try.prog 82 #[.pointer (some ⟨p, 0, none⟩), .int .i64 k, .int .i64 o, .int .i64 m] w fun e W' =>
      e = .returned (.tuple #[.string ⟨(readS n R B k o m).toArray⟩, .int .i64 (readE n R k o m)]) ∧ Below w.heap.size w W' := by
  cases hl : liveB n R k with
  | false =>
    refine (read_no h k o m hl).mono ?_
    rintro e W' ⟨rfl, rfl⟩
    have hE : readE n R k o m = 10 := by simp [readE, hl]
    refine ⟨by simp [readS, hE], (Below.refl _ _).alloc (Nat.le_refl _) _⟩
  | true =>
    obtain ⟨j, rfl, hj, hr⟩ := live_nat hl
    cases hs : spanB o m with
    | false =>
      refine (read_span h j hj hr o m hs).mono ?_
      rintro e W' ⟨rfl, rfl⟩
      have hE : readE n R j o m = 2 := by simp [readE, hl, hs]
      exact ⟨by simp [readS, hE], ((Below.refl _ _).alloc (Nat.le_refl _) _).alloc (by simp) _⟩
    | true =>
      obtain ⟨a, b, rfl, rfl, hab⟩ := span_nat hs
      refine (read_in h j hj hr a b hab).mono ?_
      rintro e W' ⟨rfl, rfl⟩
      have hE : readE n R j a b = 0 := by simp [readE, hl, hs]
      exact ⟨by simp [readS, hE], ((Below.refl _ _).alloc (Nat.le_refl _) _).alloc (by simp) _⟩

theorem write_fn (h : MemAt w p g n R B) (k o : Int) (s : ByteArray) (hsz : s.size ≤ maxLen) :
    Calls Try.prog 63 #[.pointer (some ⟨p, 0, none⟩), .int .i64 k, .int .i64 o, .string s] w fun e W' =>
      e = .returned (.int .i64 (readE n R k o s.size)) ∧ MemAt W' p g n R (writeB n R B k o s.data.toList) ∧ w.grownBy W' (some g) := by
  unfold writeB
  rw [toList_length]
  cases hl : liveB n R k with
  | false =>
    refine (write_no h k o s hl).mono ?_
    rintro e W' ⟨rfl, rfl⟩
    have hE : readE n R k o s.size = 10 := by simp [readE, hl]
    rw [hE, if_neg (by omega)]
    exact ⟨rfl, h.alloc _, World.grownBy_alloc _ _ _⟩
  | true =>
    obtain ⟨j, rfl, hj, hr⟩ := live_nat hl
    cases hs : spanB o s.size with
    | false =>
      refine (write_span h j hj hr o s hsz hs).mono ?_
      rintro e W' ⟨rfl, rfl⟩
      have hE : readE n R j o s.size = 2 := by simp [readE, hl, hs]
      rw [hE, if_neg (by omega)]
      exact ⟨rfl, (h.alloc _).alloc _, grown_trans (World.grownBy_alloc _ _ _) (World.grownBy_alloc _ _ _)⟩
    | true =>
      have hE : readE n R j o s.size = 0 := by simp [readE, hl, hs]
      obtain ⟨a, b, rfl, hb, hab⟩ := span_nat hs
      have hb' : s.size = b := by omega
      refine (write_in h j hj hr a s (by omega)).mono ?_
      rintro e W' ⟨rfl, hM, hG⟩
      rw [hE, if_pos rfl]
      exact ⟨rfl, hM, hG⟩

theorem refs_fn (h : MemAt w p g n R B) (k : Int) : Calls Try.prog 37 #[.pointer (some ⟨p, 0, none⟩), .int .i64 k] w fun e w' => e = .returned (.int .i64 (refsN n R k)) ∧ Below w.heap.size w w' := by
  refine (refs_any h k).mono ?_
  rintro e W' ⟨rfl, rfl⟩
  exact ⟨rfl, (Below.refl _ _).alloc (Nat.le_refl _) _⟩

end


end Go.Proofs.Ytdkaaoboipphcaa
