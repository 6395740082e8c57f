/- Layer 8, plainly: getting. No program in it. -/
import Derived.Test.YtpfldelmbigmbaaDoorRiPure
namespace Go.Proofs.YtpfldelmbigmbaaDoor
open Go.RowKit

/-- getting N bytes of L, j having been got. -/
structure GetI (n a : Nat) (o : Bool) (L : List UInt8) (N : Nat) (p : PSt) (j : Nat) : Prop where
  len : p.X.length = 64
  got : p.r = L.take j
  le : j ≤ L.length
  le' : j ≤ N
  st : onL n p.st (a, o) = (advA n a j, advO n a j o)
  small : ∀ k ∈ p.st, k ≤ 64
  holds : ∀ i x, j ≤ i → L[i]? = some x → p.X[advA n a i]? = some x

theorem getI_start {n a : Nat} {o : Bool} {X L : List UInt8} (N : Nat) (ha : a < n) (hX : X.length = 64) (h : Holds n a X L) : GetI n a o L N ⟨X, [], []⟩ 0 :=
  ⟨hX, rfl, Nat.zero_le _, Nat.zero_le _, by unfold advA advO; rw [if_pos (by omega), if_pos (by omega)]; rfl, by simp, fun i x _ hx => h i x hx⟩

theorem getI_step {n a : Nat} {o : Bool} {L : List UInt8} {N : Nat} {p : PSt} {j len : Nat} (hn : n ≤ 64) (ha : a < n) (hL : L.length ≤ n) (h : GetI n a o L N p j) (hfit : advA n a j + len ≤ n) (hle : j + len ≤ L.length) :
    GetI n a o L N (getP N p (advA n a j, len)) (j + min len (N - j)) := by
  have hX := h.len
  have hg := h.got
  have hjl := h.le
  have hjN := h.le'
  have hrl : p.r.length = j := by rw [hg, List.length_take]; omega
  have hz : (List.replicate (min len (N - j)) (0 : UInt8)).length = min len (N - j) := by simp
  unfold getP
  simp only [hrl]
  refine ⟨?_, ?_, by omega, by omega, ?_, ?_, ?_⟩
  · show (splice p.X _ _).length = 64
    rw [length_splice _ _ _ (by rw [hz]; omega)]
    exact hX
  · show p.r ++ (p.X.drop (advA n a j)).take (min len (N - j)) = _
    rw [hg]
    refine List.ext_getElem? fun i => ?_
    by_cases c : i < j
    · rw [List.getElem?_append_left (by rw [List.length_take]; omega), List.getElem?_take, List.getElem?_take, if_pos c, if_pos (by omega)]
    · rw [List.getElem?_append_right (by rw [List.length_take]; omega), List.length_take, Nat.min_eq_left hjl, List.getElem?_take, List.getElem?_take]
      by_cases d : i < j + min len (N - j)
      · rw [if_pos (by omega), if_pos d, List.getElem?_drop]
        have hi : i < L.length := by omega
        have := h.holds i _ (by omega) (List.getElem?_eq_getElem hi)
        rw [List.getElem?_eq_getElem hi, ← this]
        congr 1
        unfold advA at hfit ⊢
        split at hfit <;> (repeat' split) <;> omega
      · rw [if_neg (by omega), if_neg d]
  · show onL n (p.st ++ [_]) _ = _
    rw [onL_snoc, h.st, on1_adv ha (by omega) (by omega)]
  · intro k hk
    rcases List.mem_append.1 hk with hk | hk
    · exact h.small k hk
    · simp at hk; omega
  · intro i x hi hx
    have hiL : i < L.length := (List.getElem?_eq_some_iff.1 hx).1
    show (splice p.X _ _)[advA n a i]? = some x
    rw [splice_get _ _ _ _ (by rw [hz]; omega), hz, if_neg (by unfold advA at hfit ⊢; split at hfit <;> (repeat' split) <;> omega)]
    exact h.holds i x (by omega) hx

theorem getP_none (N : Nat) (s : PSt) (p : Nat × Nat) (h : s.r.length = N) : getP N s p = ⟨s.X, s.r, s.st ++ [0]⟩ := by
  unfold getP
  simp [h, splice]

theorem getI_none {n a : Nat} {o : Bool} {L : List UInt8} {N : Nat} {p : PSt} {j : Nat} (ha : a < n) (hL : L.length ≤ n) (h : GetI n a o L N p j) (hj : j = N) (q : Nat × Nat) : GetI n a o L N (getP N p q) j := by
  have hjl := h.le
  rw [getP_none N p q (by rw [h.got, List.length_take]; omega)]
  refine ⟨h.len, h.got, h.le, h.le', ?_, ?_, h.holds⟩
  · show onL n (p.st ++ [0]) _ = _
    rw [onL_snoc, h.st]
    unfold on1
    rw [if_neg (by show ¬ advA n a j + 0 = n; unfold advA; split <;> omega)]
    rfl
  · intro k hk
    rcases List.mem_append.1 hk with hk | hk
    · exact h.small k hk
    · simp at hk; omega

/-- where getting ends. -/
theorem get_end {n a : Nat} {o : Bool} {X L : List UInt8} {N : Nat} (hn : n ≤ 64) (ha : a < n) (hX : X.length = 64) (hL : L.length ≤ n) (h : Holds n a X L) (ini : List (Nat × Nat))
    (hi : ini <+: partsA n a L.length) (hs : ini = partsA n a L.length ∨ (ini.foldl (getP N) ⟨X, [], []⟩).r.length = N) :
    GetI n a o L N (ini.foldl (getP N) ⟨X, [], []⟩) (min N L.length) ∧ (ini.foldl (getP N) ⟨X, [], []⟩).st.length ≤ 2 := by
  have h0 := getI_start (o := o) N ha hX h
  have ea0 : advA n a 0 = a := by unfold advA; rw [if_pos (by omega)]; rfl
  unfold partsA at hi hs
  by_cases m0 : L.length = 0
  · rw [if_pos m0] at hi hs
    obtain rfl : ini = [] := List.prefix_nil.1 hi
    rw [m0, Nat.min_zero]
    exact ⟨h0, by simp⟩
  · rw [if_neg m0] at hi hs
    have step1 : ∀ len, len ≤ L.length → a + len ≤ n → GetI n a o L N (getP N ⟨X, [], []⟩ (a, len)) (min len N) := fun len h1 h2 => by
      have := getI_step (len := len) hn ha hL h0 (by rw [ea0]; exact h2) (by omega)
      rw [ea0] at this
      simpa using this
    have zero : ([] : List UInt8).length = N → GetI n a o L N ⟨X, [], []⟩ (min N L.length) := fun e => by
      have : N = 0 := by simpa using e.symm
      rw [this, Nat.zero_min]
      exact this ▸ h0
    by_cases m1 : L.length ≤ n - a
    · rw [if_pos m1] at hi hs
      rcases List.prefix_cons_iff.1 hi with rfl | ⟨t, rfl, ht⟩
      · rcases hs with hs | hs
        · simp at hs
        · exact ⟨zero hs, by simp⟩
      · obtain rfl : t = [] := List.prefix_nil.1 ht
        rw [Nat.min_comm]
        exact ⟨step1 _ (Nat.le_refl _) (by omega), by simp [getP]⟩
    · rw [if_neg m1] at hi hs
      have s1 := step1 (n - a) (by omega) (by omega)
      rcases List.prefix_cons_iff.1 hi with rfl | ⟨t, rfl, ht⟩
      · rcases hs with hs | hs
        · simp at hs
        · exact ⟨zero hs, by simp⟩
      · rcases List.prefix_cons_iff.1 ht with rfl | ⟨t2, rfl, ht2⟩
        · rcases hs with hs | hs
          · simp at hs
          · have hs' : (getP N ⟨X, [], []⟩ (a, n - a)).r.length = N := hs
            have := s1.le
            rw [s1.got, List.length_take] at hs'
            rw [show min N L.length = min (n - a) N by omega]
            exact ⟨s1, by simp [getP]⟩
        · obtain rfl : t2 = [] := List.prefix_nil.1 ht2
          by_cases c : N ≤ n - a
          · rw [show min N L.length = min (n - a) N by omega]
            exact ⟨getI_none ha hL s1 (by omega) _, by simp [getP]⟩
          · rw [Nat.min_eq_left (by omega)] at s1
            have ea : advA n a (n - a) = 0 := by unfold advA; rw [if_neg (by omega)]; omega
            have := getI_step (len := L.length - (n - a)) hn ha hL s1 (by rw [ea]; omega) (by omega)
            rw [ea] at this
            rw [show min N L.length = n - a + min (L.length - (n - a)) (N - (n - a)) by omega]
            exact ⟨this, by simp [getP]⟩

theorem holds_drop {n a : Nat} {L : List UInt8} {X : List UInt8} {j : Nat} (hL : L.length ≤ n) (ha : a < n) (h : ∀ i x, j ≤ i → L[i]? = some x → X[advA n a i]? = some x) : Holds n (advA n a j) X (L.drop j) := by
  intro i x hx
  rw [List.getElem?_drop] at hx
  have hi : j + i < L.length := (List.getElem?_eq_some_iff.1 hx).1
  rw [← h (j + i) x (by omega) hx]
  congr 1
  unfold advA
  repeat' split
  all_goals omega
theorem advA_add {n a j k : Nat} (ha : a < n) (hj : j + k ≤ n) : advA n (advA n a j) k = advA n a (j + k) := by
  unfold advA
  repeat' split
  all_goals omega
theorem advO_add {n a j k : Nat} {o : Bool} (ha : a < n) (hj : j + k ≤ n) : advO n (advA n a j) k (advO n a j o) = advO n a (j + k) o := by
  unfold advO advA
  repeat' split
  all_goals first | rfl | (exfalso; omega) | simp
theorem advA_lt {n a k : Nat} (ha : a < n) (hk : k ≤ n) : advA n a k < n := by
  unfold advA
  split <;> omega
end Go.Proofs.YtpfldelmbigmbaaDoor
