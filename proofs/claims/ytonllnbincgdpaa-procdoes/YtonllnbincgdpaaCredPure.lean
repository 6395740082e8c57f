/- Package cred, as plain functions on numbers: who is right, whose digit, which bits; no walk. -/
import Derived.WalkKit
import Derived.Lib.Hide
namespace Go.Proofs.Ytonllnbincgdpaa
open Go.RowKit

/-- a user, a group; a mode. -/
def usrB (n : Int) : Bool := decide (0 ≤ n ∧ n ≤ 65535)
def modB (n : Int) : Bool := decide (0 ≤ n ∧ n ≤ 511)
/-- credentials (user u, group g); a permission (owner a, group b, maker c, maker's group d, mode m). -/
def rightB (u g : Int) : Bool := usrB u && usrB g
def permB (a b c d m : Int) : Bool := usrB a && usrB b && usrB c && usrB d && modB m
/-- whose digit: 4 the user 0's, 3 an owner's, 2 a group's, 1 the others'. -/
def placeN (u g a b c d : Int) : Int := if u = 0 then 4 else if u = a ∨ u = c then 3 else if g = b ∨ g = d then 2 else 1
def digN (p m : Int) : Int := if p = 4 then 7 else if p = 3 then m / 64 else if p = 2 then m / 8 % 8 else m % 8
def bitsN (u g a b c d m : Int) : Int := if rightB u g && permB a b c d m then digN (placeN u g a b c d) m else 0
def wantB (x : Int) : Bool := decide (x = 2 ∨ x = 4 ∨ x = 6)
/-- are all bits of x among those of n (0 to 7)? -/
def hasB (n x : Int) : Bool := if x = 2 then decide (n / 2 % 2 = 1) else if x = 4 then decide (n / 4 % 2 = 1) else decide (n / 2 % 2 = 1 ∧ n / 4 % 2 = 1)
def allowN (u g a b c d m x : Int) : Int := if rightB u g && permB a b c d m && wantB x then (if hasB (bitsN u g a b c d m) x then 0 else 51) else 50
def ownsB (u g a b c d m : Int) : Bool := rightB u g && permB a b c d m && decide (3 ≤ placeN u g a b c d)
def setE (u g a b c d m a' b' m' : Int) : Int := if rightB u g && permB a b c d m && permB a' b' c d m' then (if ownsB u g a b c d m then 0 else 51) else 50
def heldN (n k : Int) : Int := max 0 (min n k)

theorem held_eq (n k : Int) (hk : 0 ≤ k) : (n == heldN n k) = decide (0 ≤ n ∧ n ≤ k) := by
  unfold heldN
  rw [Bool.eq_iff_iff]
  simp only [beq_iff_eq, decide_eq_true_eq]
  omega

theorem place_pos (u g a b c d : Int) : 1 ≤ placeN u g a b c d ∧ placeN u g a b c d ≤ 4 := by unfold placeN; repeat' split <;> omega
theorem dig_bd {p m : Int} (h : modB m = true) : 0 ≤ digN p m ∧ digN p m ≤ 7 := by
  simp only [modB, decide_eq_true_eq] at h
  unfold digN; repeat' split <;> omega
theorem bits_bd (u g a b c d m : Int) : 0 ≤ bitsN u g a b c d m ∧ bitsN u g a b c d m ≤ 7 := by
  unfold bitsN
  split
  · rename_i h
    simp only [permB, Bool.and_eq_true] at h
    exact dig_bd h.2.2
  · omega

/-- what is wanted, by bits. -/
theorem has_bits : ∀ n : Fin 8, ∀ x ∈ [2, 4, 6], (bits BinOp.and IntKind.i64 (n.1 : Int) x != x) = !hasB (n.1 : Int) x := by decide +kernel
theorem has_bits' {n x : Int} (h0 : 0 ≤ n) (h7 : n ≤ 7) (hx : wantB x = true) : (bits BinOp.and IntKind.i64 n x != x) = !hasB n x := by
  have hm : x ∈ [(2 : Int), 4, 6] := by simpa [wantB] using hx
  have := has_bits ⟨n.toNat, by omega⟩ x hm
  rw [show ((n.toNat : Nat) : Int) = n from by omega] at this
  exact this

/-- the digits of a mode, as they are gone through. -/
def restN (m : Int) (k : Nat) : Int := (3584 + m) / 8 ^ k
def atN (m : Int) (k : Nat) : Int := restN m k % 8
theorem at_dig {m : Int} (h : modB m = true) {k : Nat} (hk : k < 4) : atN m k = digN (k + 1) m := by
  simp only [modB, decide_eq_true_eq] at h
  unfold atN restN digN
  match k, hk with
  | 0, _ => simp; omega
  | 1, _ => simp; omega
  | 2, _ => simp; omega
  | 3, _ => simp; omega
theorem rest_first : ∀ m : Fin 512, bits BinOp.or IntKind.i64 3584 (m.1 : Int) = restN m.1 0 := by decide +kernel
theorem rest_next (m : Int) {k : Nat} (hk : k < 4) : restN m k / 8 = restN m (k + 1) := by
  unfold restN
  match k, hk with
  | 0, _ => simp
  | 1, _ => simp; omega
  | 2, _ => simp; omega
  | 3, _ => simp; omega

end Go.Proofs.Ytonllnbincgdpaa
