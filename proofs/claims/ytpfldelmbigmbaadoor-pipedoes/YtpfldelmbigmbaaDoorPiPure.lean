/- Layer 10, plainly: a pipe as its bytes, its readers, its writers: what each call answers and makes of them. No program in it. -/
import Derived.Test.YtpfldelmbigmbaaDoorQuPure
namespace Go.Proofs.YtpfldelmbigmbaaDoor

def rdE (L : List UInt8) (w : Nat) (n : Int) : Int := if n < 0 then 2 else if 0 < n ∧ L = [] ∧ 0 < w then 63 else 0
def rdS (L : List UInt8) (w : Nat) (n : Int) : List UInt8 := if rdE L w n = 0 then L.take n.toNat else []
def rdL (L : List UInt8) (w : Nat) (n : Int) : List UInt8 := if rdE L w n = 0 then L.drop n.toNat else L
def wrE (L : List UInt8) (r : Nat) (S : List UInt8) : Int := if r = 0 then 90 else if S ≠ [] ∧ 32 ≤ L.length then 63 else 0
def wrN (L : List UInt8) (r : Nat) (S : List UInt8) : Nat := if wrE L r S = 0 then min S.length (32 - L.length) else 0
def wrL (L : List UInt8) (r : Nat) (S : List UInt8) : List UInt8 := L ++ S.take (wrN L r S)
def opE (r w : Nat) (k : Int) : Int := if (k = 1 ∧ r < 100) ∨ (k = 2 ∧ w < 100) then 0 else 2
def opR (r w : Nat) (k : Int) : Nat := if opE r w k = 0 ∧ k = 1 then r + 1 else r
def opW (r w : Nat) (k : Int) : Nat := if opE r w k = 0 ∧ k = 2 then w + 1 else w
def clE (r w : Nat) (k : Int) : Int := if (k = 1 ∧ 0 < r) ∨ (k = 2 ∧ 0 < w) then 0 else 2
def clR (r w : Nat) (k : Int) : Nat := if clE r w k = 0 ∧ k = 1 then r - 1 else r
def clW (r w : Nat) (k : Int) : Nat := if clE r w k = 0 ∧ k = 2 then w - 1 else w
def clB (r w : Nat) (k : Int) : Bool := clE r w k == 0 && clR r w k + clW r w k == 0
def canR (L : List UInt8) (w : Nat) : Bool := decide (0 < L.length) || decide (w = 0)
def canW (L : List UInt8) (r : Nat) : Bool := decide (r = 0) || decide (L.length < 32)
/-- what a pipe may be. -/
structure POk (L : List UInt8) (r w : Nat) : Prop where
  len : L.length ≤ 32
  rd : r ≤ 100
  wr : w ≤ 100
section
variable {L S : List UInt8} {r w : Nat} {n k : Int}
theorem rdL_len (L : List UInt8) (w : Nat) (n : Int) : (rdL L w n).length ≤ L.length := by unfold rdL; split <;> simp
theorem rd_split (h : rdE L w n = 0) : rdS L w n ++ rdL L w n = L := by unfold rdS rdL; rw [if_pos h, if_pos h, List.take_append_drop]
theorem rd_no (h : rdE L w n ≠ 0) : rdS L w n = [] ∧ rdL L w n = L := by unfold rdS rdL; rw [if_neg h, if_neg h]; exact ⟨rfl, rfl⟩
theorem rd_all (L : List UInt8) (w : Nat) (n : Int) : rdS L w n ++ rdL L w n = L := by
  by_cases h : rdE L w n = 0
  · exact rd_split h
  · rw [(rd_no h).1, (rd_no h).2]; rfl
theorem wrN_le (L : List UInt8) (r : Nat) (S : List UInt8) : wrN L r S ≤ S.length := by unfold wrN; split <;> omega
theorem wrL_len (h : L.length ≤ 32) : (wrL L r S).length ≤ 32 := by
  unfold wrL wrN
  rw [List.length_append, List.length_take]
  split <;> omega
theorem wrL_no (h : wrE L r S ≠ 0) : wrN L r S = 0 ∧ wrL L r S = L := by
  have : wrN L r S = 0 := by unfold wrN; rw [if_neg h]
  exact ⟨this, by unfold wrL; rw [this]; simp⟩
theorem POk.rd' (h : POk L r w) (n : Int) : POk (rdL L w n) r w := ⟨Nat.le_trans (rdL_len L w n) h.len, h.rd, h.wr⟩
theorem POk.wr' (h : POk L r w) (S : List UInt8) : POk (wrL L r S) r w := ⟨wrL_len h.len, h.rd, h.wr⟩
theorem POk.op (h : POk L r w) (k : Int) : POk L (opR r w k) (opW r w k) := by
  have h1 := h.rd; have h2 := h.wr
  have e : opE r w k = 0 → (k = 1 ∧ r < 100) ∨ (k = 2 ∧ w < 100) := fun e => by
    unfold opE at e
    split at e
    · assumption
    · cases e
  refine ⟨h.len, ?_, ?_⟩
  · unfold opR
    split
    · rename_i c
      have := e c.1
      omega
    · exact h1
  · unfold opW
    split
    · rename_i c
      have := e c.1
      omega
    · exact h2
theorem POk.cl (h : POk L r w) (k : Int) : POk L (clR r w k) (clW r w k) := by
  have h1 := h.rd; have h2 := h.wr
  refine ⟨h.len, ?_, ?_⟩
  · unfold clR; split <;> omega
  · unfold clW; split <;> omega
/-- one must wait just if it can't be done. -/
theorem canR_iff (hn : 1 ≤ n) : canR L w = (rdE L w n == 0) := by
  unfold canR rdE
  rw [if_neg (by omega)]
  cases L with
  | nil =>
    by_cases c : w = 0
    · subst c; simp
    · rw [if_pos ⟨by omega, rfl, by omega⟩]; simp [c]
  | cons a L => rw [if_neg (by simp)]; simp
theorem canW_iff (h : L.length ≤ 32) (hS : S ≠ []) : canW L r = !(wrE L r S == 63) := by
  unfold canW wrE
  by_cases c : r = 0
  · subst c; simp
  · rw [if_neg c]
    by_cases d : 32 ≤ L.length
    · rw [if_pos ⟨hS, d⟩, Bool.eq_iff_iff]; simp [c]; omega
    · rw [if_neg (fun e => d e.2), Bool.eq_iff_iff]; simp; omega
end
end Go.Proofs.YtpfldelmbigmbaaDoor
