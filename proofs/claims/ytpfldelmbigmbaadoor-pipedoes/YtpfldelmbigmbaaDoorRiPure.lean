/- Layer 8, plainly: ends that go round, the stretches between two of them, what putting and getting do to sixty-four bytes. No program in it. -/
import Derived.Test.YtpfldelmbigmbaaDoorRows
import Derived.Lib.BufferWrite
import Derived.Laws.CopyOwn
namespace Go.Proofs.YtpfldelmbigmbaaDoor
open Go.RowKit

/-- k places on from a, of n; was the last place passed? -/
def advA (n a k : Nat) : Nat := if a + k < n then a + k else a + k - n
def advO (n a k : Nat) (o : Bool) : Bool := if a + k < n then o else !o
/-- one step. -/
def on1 (n : Nat) (e : Nat × Bool) (s : Nat) : Nat × Bool := if e.1 + s = n then (0, !e.2) else (e.1 + s, e.2)
def onL (n : Nat) (st : List Nat) (e : Nat × Bool) : Nat × Bool := st.foldl (on1 n) e
theorem onL_snoc (n : Nat) (st : List Nat) (k : Nat) (e : Nat × Bool) : onL n (st ++ [k]) e = on1 n (onL n st e) k := by simp [onL]
/-- the stretches of m places from a on. -/
def partsA (n a m : Nat) : List (Nat × Nat) := if m = 0 then [] else if m ≤ n - a then [(a, m)] else [(a, n - a), (0, m - (n - a))]

theorem on1_adv {n a t k : Nat} {o : Bool} (ha : a < n) (ht : t + k ≤ n) (hk : advA n a t + k ≤ n) : on1 n (advA n a t, advO n a t o) k = (advA n a (t + k), advO n a (t + k) o) := by
  unfold on1 advA advO
  unfold advA at hk
  by_cases c : a + t < n
  · rw [if_pos c] at hk ⊢
    rw [if_pos c]
    by_cases d : a + t + k = n
    · rw [if_pos d, if_neg (by omega), if_neg (by omega)]
      exact Prod.ext (by show 0 = _; omega) rfl
    · rw [if_neg d, if_pos (by omega), if_pos (by omega), Nat.add_assoc]
  · rw [if_neg c] at hk ⊢
    rw [if_neg c]
    rw [if_neg (by show ¬ a + t - n + k = n; omega), if_neg (by omega), if_neg (by omega)]
    exact Prod.ext (by show a + t - n + k = _; omega) rfl

/-! ### what is done to a stretch -/
abbrev Prt := { p : Nat × Nat // p.1 + p.2 ≤ 64 ∧ 0 < p.2 }
/-- bytes, what is left to be put (or what was got), the steps. -/
structure PSt where
  X : List UInt8
  r : List UInt8
  st : List Nat
def putP (s : PSt) (p : Nat × Nat) : PSt := ⟨splice s.X p.1 (s.r.take p.2), s.r.drop p.2, s.st ++ [min s.r.length p.2]⟩
def getP (N : Nat) (s : PSt) (p : Nat × Nat) : PSt := ⟨splice s.X p.1 (List.replicate (min p.2 (N - s.r.length)) 0), s.r ++ (s.X.drop p.1).take (min p.2 (N - s.r.length)), s.st ++ [min p.2 (N - s.r.length)]⟩

theorem splice_get {α : Type} (L cs : List α) (off i : Nat) (h : off + cs.length ≤ L.length) : (splice L off cs)[i]? = if off ≤ i ∧ i < off + cs.length then cs[i - off]? else L[i]? := by
  unfold splice
  have ht : (L.take off).length = off := by simp; omega
  by_cases c : i < off
  · rw [List.getElem?_append_left (by omega), if_neg (by omega), List.getElem?_take, if_pos c]
  · rw [List.getElem?_append_right (by omega), ht]
    by_cases d : i < off + cs.length
    · rw [List.getElem?_append_left (by omega), if_pos (by omega)]
    · rw [List.getElem?_append_right (by omega), if_neg (by omega), List.getElem?_drop]
      congr 1
      omega

/-- a ring of n places whose first byte stands at a holds L. -/
def Holds (n a : Nat) (X L : List UInt8) : Prop := ∀ i x, L[i]? = some x → X[advA n a i]? = some x

/-- putting, j bytes of s having been put. -/
structure PutI (n a : Nat) (o : Bool) (L s : List UInt8) (p : PSt) (j : Nat) : Prop where
  len : p.X.length = 64
  rest : p.r = s.drop j
  le : L.length + j ≤ n
  le' : j ≤ s.length
  st : onL n p.st (advA n a L.length, advO n a L.length o) = (advA n a (L.length + j), advO n a (L.length + j) o)
  small : ∀ k ∈ p.st, k ≤ 64
  holds : Holds n a p.X (L ++ s.take j)

theorem putI_start {n a : Nat} {o : Bool} {X L : List UInt8} (s : List UInt8) (hX : X.length = 64) (hL : L.length ≤ n) (h : Holds n a X L) : PutI n a o L s ⟨X, s, []⟩ 0 :=
  ⟨hX, rfl, hL, Nat.zero_le _, rfl, by simp, by simpa using h⟩

theorem putI_step {n a : Nat} {o : Bool} {L s : List UInt8} {p : PSt} {j len : Nat} (hn : n ≤ 64) (ha : a < n) (h : PutI n a o L s p j) (hlt : L.length + j < n) (hfit : advA n a (L.length + j) + len ≤ n) (hle : L.length + j + len ≤ n) :
    PutI n a o L s (putP p (advA n a (L.length + j), len)) (j + min (s.length - j) len) := by
  have hr := h.rest
  have hX := h.len
  have hj := h.le'
  have hl : (p.r.take len).length = min (s.length - j) len := by rw [hr]; simp; omega
  refine ⟨?_, ?_, by have := h.le; omega, by omega, ?_, ?_, ?_⟩
  · show (splice p.X _ _).length = 64
    rw [length_splice _ _ _ (by rw [hl]; simp only; omega)]
    exact hX
  · show p.r.drop len = _
    rw [hr, List.drop_drop]
    by_cases c : len ≤ s.length - j
    · congr 1; omega
    · rw [List.drop_eq_nil_of_le (by omega), List.drop_eq_nil_of_le (by omega)]
  · show onL n (p.st ++ [min p.r.length len]) _ = _
    rw [onL_snoc, h.st, hr, List.length_drop, on1_adv ha (by omega) (by omega), Nat.add_assoc]
  · intro k hk
    show k ≤ 64
    rcases List.mem_append.1 hk with hk | hk
    · exact h.small k hk
    · simp at hk; omega
  · intro i x hx
    show (splice p.X (advA n a (L.length + j)) (p.r.take len))[advA n a i]? = some x
    have hlen : i < L.length + (j + min (s.length - j) len) := by
      have := (List.getElem?_eq_some_iff.1 hx).1
      rw [List.length_append, List.length_take] at this
      omega
    rw [splice_get _ _ _ _ (by rw [hl]; omega), hl]
    by_cases c : i < L.length + j
    · have h1 : (L ++ s.take j)[i]? = some x := by
        by_cases d : i < L.length
        · rw [List.getElem?_append_left d]; rw [List.getElem?_append_left d] at hx; exact hx
        · rw [List.getElem?_append_right (by omega)] at hx ⊢
          rw [List.getElem?_take, if_pos (by omega)] at hx ⊢
          exact hx
      rw [if_neg (by unfold advA at hfit ⊢; split at hfit <;> (repeat' split) <;> omega), h.holds i x h1]
    · rw [if_pos (by unfold advA at hfit ⊢; split at hfit <;> (repeat' split) <;> omega)]
      rw [List.getElem?_append_right (by omega), List.getElem?_take, if_pos (by omega)] at hx
      rw [List.getElem?_take, if_pos (by unfold advA at hfit ⊢; split at hfit <;> (repeat' split) <;> omega), hr, List.getElem?_drop, ← hx]
      congr 1
      unfold advA at hfit ⊢; split at hfit <;> (repeat' split) <;> omega

/-- where putting ends. -/
theorem put_end {n a : Nat} {o : Bool} {X L : List UInt8} {s : List UInt8} (hn : n ≤ 64) (ha : a < n) (hX : X.length = 64) (hL : L.length ≤ n) (h : Holds n a X L) (ini : List (Nat × Nat))
    (hi : ini <+: partsA n (advA n a L.length) (n - L.length)) (hs : ini = partsA n (advA n a L.length) (n - L.length) ∨ (ini.foldl putP ⟨X, s, []⟩).r = []) :
    PutI n a o L s (ini.foldl putP ⟨X, s, []⟩) (min s.length (n - L.length)) ∧ (ini.foldl putP ⟨X, s, []⟩).st.length ≤ 2 := by
  have h0 := putI_start (o := o) s hX hL h
  have hlt : L.length < n → advA n a L.length < n := fun c => by unfold advA; split <;> omega
  unfold partsA at hi hs
  by_cases m0 : n - L.length = 0
  · rw [if_pos m0] at hi hs
    obtain rfl : ini = [] := List.prefix_nil.1 hi
    rw [m0, Nat.min_zero]
    exact ⟨h0, by simp⟩
  · rw [if_neg m0] at hi hs
    have hl := hlt (by omega)
    have step1 : ∀ len, len ≤ n - L.length → advA n a L.length + len ≤ n → PutI n a o L s (putP ⟨X, s, []⟩ (advA n a L.length, len)) (min s.length len) := fun len h1 h2 => by
      have := putI_step (len := len) hn ha h0 (by omega) (by simpa using h2) (by omega)
      simpa using this
    by_cases m1 : n - L.length ≤ n - advA n a L.length
    · rw [if_pos m1] at hi hs
      rcases List.prefix_cons_iff.1 hi with rfl | ⟨t, rfl, ht⟩
      · rcases hs with hs | hs
        · simp at hs
        · simp at hs; subst hs; simpa using h0
      · obtain rfl : t = [] := List.prefix_nil.1 ht
        exact ⟨step1 _ (Nat.le_refl _) (by omega), by simp [putP]⟩
    · rw [if_neg m1] at hi hs
      have s1 := step1 (n - advA n a L.length) (by omega) (by omega)
      rcases List.prefix_cons_iff.1 hi with rfl | ⟨t, rfl, ht⟩
      · rcases hs with hs | hs
        · simp at hs
        · simp at hs; subst hs; simpa using h0
      · rcases List.prefix_cons_iff.1 ht with rfl | ⟨t2, rfl, ht2⟩
        · rcases hs with hs | hs
          · simp at hs
          · have e : (putP ⟨X, s, []⟩ (advA n a L.length, n - advA n a L.length)).r = s.drop (n - advA n a L.length) := rfl
            have hs' : s.drop (n - advA n a L.length) = [] := hs
            have := List.drop_eq_nil_iff.1 hs'
            rw [Nat.min_eq_left this] at s1
            rw [Nat.min_eq_left (by omega)]
            exact ⟨s1, by simp [putP]⟩
        · obtain rfl : t2 = [] := List.prefix_nil.1 ht2
          by_cases c : s.length ≤ n - advA n a L.length
          · have e2 : putP (putP ⟨X, s, []⟩ (advA n a L.length, n - advA n a L.length)) (0, n - L.length - (n - advA n a L.length)) = ⟨(putP ⟨X, s, []⟩ (advA n a L.length, n - advA n a L.length)).X, [], (putP ⟨X, s, []⟩ (advA n a L.length, n - advA n a L.length)).st ++ [0]⟩ := by
              have er : (putP ⟨X, s, []⟩ (advA n a L.length, n - advA n a L.length)).r = [] := List.drop_eq_nil_of_le c
              unfold putP at er ⊢
              simp only at er ⊢
              rw [er]
              simp [splice]
            rw [Nat.min_eq_left c] at s1
            rw [Nat.min_eq_left (by omega)]
            refine ⟨?_, by simp [putP]⟩
            show PutI n a o L s (putP (putP _ _) _) _
            rw [e2]
            refine ⟨s1.len, ?_, s1.le, s1.le', ?_, ?_, s1.holds⟩
            · simp
            · rw [onL_snoc, s1.st]
              unfold on1
              have hal : advA n a (L.length + s.length) < n ∨ L.length + s.length = n := by unfold advA; split <;> omega
              have := s1.le
              rw [if_neg ?_]
              · rfl
              · show ¬ advA n a (L.length + s.length) + 0 = n
                unfold advA at *
                split <;> omega
            · intro k hk
              rcases List.mem_append.1 hk with hk | hk
              · exact s1.small k hk
              · simp at hk; omega
          · rw [Nat.min_eq_right (by omega)] at s1
            have ea : advA n a (L.length + (n - advA n a L.length)) = 0 := by unfold advA at *; split <;> split at m1 <;> split <;> omega
            have := putI_step (len := n - L.length - (n - advA n a L.length)) hn ha s1 (by omega) (by rw [ea]; omega) (by omega)
            rw [ea] at this
            refine ⟨?_, by simp [putP]⟩
            show PutI n a o L s (putP (putP _ _) _) _
            rw [show min s.length (n - L.length) = n - advA n a L.length + min (s.length - (n - advA n a L.length)) (n - L.length - (n - advA n a L.length)) by omega]
            exact this
end Go.Proofs.YtpfldelmbigmbaaDoor
