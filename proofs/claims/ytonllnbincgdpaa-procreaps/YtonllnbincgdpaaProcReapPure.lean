/- Processes as plain data: the process 1 and its children, of which some have ended, some are gone: what Fork, Exit and Wait make of them. -/
import Derived.Test.YtonllnbincgdpaaProcWas
import Derived.Laws.BitsAllLaws
import Derived.Lib.QuoteBits
namespace Go.Proofs.Ytonllnbincgdpaa
open Go.RowKit

/-- the last eight bits, as the program has them. -/
theorem and255 (x : Int) : 0 ≤ bits BinOp.and IntKind.i64 x 255 ∧ bits BinOp.and IntKind.i64 x 255 ≤ 255 := by
  have hb : bits BinOp.and IntKind.i64 x 255 = IntKind.i64.wrap ((BitVec.ofInt 64 x &&& BitVec.ofInt 64 ((255 : Nat) : Int)).toNat : Int) := rfl
  have h1 : (BitVec.ofInt 64 x).toNat % 256 < 256 := Nat.mod_lt _ (by omega)
  rw [hb, BitVec.toNat_and, ofInt_u64 255 (by omega), nat_mask8, Lib.wrap_i64_small _ (by omega)]
  omega

theorem idx_lt6 {n : Nat} (h : 0 < n) (h2 : n ≤ 16) (x : Int) : ∃ t : Nat, t < n ∧ wrap64 ((IntKind.u64.wrap x).tmod (n : Int)) = (t : Int) := by
  have h0 := wrap_u64_nonneg x
  generalize IntKind.u64.wrap x = y at *
  have h1 : 0 ≤ y.tmod n := Int.tmod_nonneg _ h0
  have h3 : y.tmod n < n := Int.tmod_lt_of_pos _ (by omega)
  have h4 : wrap64 (y.tmod n) = y.tmod n := by unfold wrap64; omega
  rw [h4]
  exact ⟨(y.tmod n).toNat, by omega, by omega⟩
/-- the numbers of a slice that came in. -/
def IntsAt (w : World) (a : Option Addr) (len : Nat) : Prop := len ≤ maxLen ∧ (0 < len → ∃ b off, a = some ⟨b, off, none⟩ ∧ b < w.heap.size ∧ ∃ X : Nat → Int, ∀ i, i < len → w.cell? ⟨b, off + i, none⟩ = some (.int .i64 (X i)))

/-- 1 and its children 2 to n + 1: running (0), ended with a status (1), gone (2). -/
structure RInv (L : List PV) (n : Nat) (K : Nat → Nat) (M : Nat → Int) : Prop where
  one : ∃ q ∈ L, q.pid = 1 ∧ q.st = 1
  pars : ∀ q ∈ L, q.pid = 1 → q.par = 0
  all : ∀ q ∈ L, q.pid ≠ 1 → ∃ k, k < n ∧ q.pid = (k : Int) + 2 ∧ q.par = 1 ∧ ((K k = 0 ∧ q.st = 1) ∨ (K k = 1 ∧ q.st = 3 ∧ q.stat = M k))
  has : ∀ k, k < n → K k ≠ 2 → ∃ q ∈ L, q.pid = (k : Int) + 2

section
variable {L : List PV} {g : Int} {n : Nat} {K : Nat → Nat} {M : Nat → Int}

theorem rinv_first (M : Nat → Int) : RInv [first1] 0 (fun _ => 0) M := ⟨⟨first1, by simp, rfl, rfl⟩, by simp [first1], by simp [first1], fun k hk => absurd hk (by omega)⟩

theorem RInv.run1 (h : RInv L n K M) (ho : TOk L g) : runE L 1 = 0 := by
  obtain ⟨q, hq, h1, h2⟩ := h.one
  have := getL_of_mem ho hq
  rw [h1] at this
  unfold runE
  rw [this]
  simp [h2]
theorem RInv.get (h : RInv L n K M) (ho : TOk L g) {k : Nat} (hk : k < n) (hK : K k ≠ 2) : ∃ q, getL L ((k : Int) + 2) = some q ∧ q ∈ L ∧ q.pid = (k : Int) + 2 ∧ q.par = 1 ∧ ((K k = 0 ∧ q.st = 1) ∨ (K k = 1 ∧ q.st = 3 ∧ q.stat = M k)) := by
  obtain ⟨q, hq, hp⟩ := h.has k hk hK
  obtain ⟨k', hk', e1, e2, e3⟩ := h.all q hq (by omega)
  obtain rfl : k' = k := by omega
  exact ⟨q, by rw [← hp]; exact getL_of_mem ho hq, hq, hp, e2, e3⟩

theorem RInv.fork (h : RInv L n (fun _ => 0) M) (ho : TOk L g) (hn : n < 10) (hl : L.length = n + 1) (hg : g = (n : Int) + 1) :
    RInv (forkL L g 1) (n + 1) (fun _ => 0) M ∧ (forkL L g 1).length = n + 1 + 1 ∧ forkG L g 1 = ((n + 1 : Nat) : Int) + 1 := by
  have hE : forkE L g 1 = 0 := by
    unfold forkE
    rw [h.run1 ho, if_neg (by decide), if_neg (by omega)]
  unfold forkL forkG
  rw [if_pos hE, if_pos hE]
  refine ⟨⟨?_, ?_, ?_, ?_⟩, by simp [hl], by omega⟩
  · obtain ⟨q, hq, h1⟩ := h.one
    exact ⟨q, by simp [hq], h1⟩
  · intro q hq e
    rcases List.mem_append.1 hq with h1 | h1
    · exact h.pars q h1 e
    · simp at h1; subst h1
      simp [childV] at e; omega
  · intro q hq e
    rcases List.mem_append.1 hq with h1 | h1
    · obtain ⟨k, h2, h3⟩ := h.all q h1 e
      exact ⟨k, by omega, h3⟩
    · simp at h1; subst h1
      exact ⟨n, by omega, by simp [childV]; omega, rfl, .inl ⟨rfl, rfl⟩⟩
  · intro k hk _
    by_cases c : k < n
    · obtain ⟨q, h1, h2⟩ := h.has k c (by decide)
      exact ⟨q, by simp [h1], h2⟩
    · exact ⟨_, List.mem_append.2 (.inr (List.mem_singleton.2 rfl)), by simp [childV]; omega⟩

/-- one child's state turned. -/
def updK (K : Nat → Nat) (k v : Nat) : Nat → Nat := fun j => if j = k then v else K j
theorem updK_same (K : Nat → Nat) (k v : Nat) : updK K k v k = v := by simp [updK]
theorem updK_other {K : Nat → Nat} {k v j : Nat} (h : j ≠ k) : updK K k v j = K j := by simp [updK, h]

theorem lo_run {K : Nat → Nat} {i : Nat} (h : ∀ k, k < i → K k ≠ 1) (h0 : K i = 0) : ∀ k, k < i + 1 → K k ≠ 1 := by
  intro k hk
  rcases Nat.lt_or_ge k i with c | c
  · exact h k c
  · obtain rfl : k = i := by omega
    omega
theorem hi_run {K : Nat → Nat} {i : Nat} (h : ∀ k, i ≤ k → K k ≠ 2) : ∀ k, i + 1 ≤ k → K k ≠ 2 := fun k hk => h k (by omega)
theorem lo_upd {K : Nat → Nat} {i : Nat} (h : ∀ k, k < i → K k ≠ 1) : ∀ k, k < i + 1 → updK K i 2 k ≠ 1 := by
  intro k hk
  by_cases c : k = i
  · subst c; rw [updK_same]; decide
  · rw [updK_other c]; exact h k (by omega)
theorem hi_upd {K : Nat → Nat} {i : Nat} (h : ∀ k, i ≤ k → K k ≠ 2) : ∀ k, i + 1 ≤ k → updK K i 2 k ≠ 2 := fun k hk => by
  rw [updK_other (by omega)]
  exact h k (by omega)

theorem RInv.exit (h : RInv L n K M) (ho : TOk L g) {k : Nat} (hk : k < n) (hK : ∀ j, K j ≠ 2) (h0 : 0 ≤ M k) (h1 : M k ≤ 255) :
    ∃ K', RInv (exL L ((k : Int) + 2) (M k)) n K' M ∧ ∀ j, K' j ≠ 2 := by
  obtain ⟨q, hg, hq, hp, hpar, hst⟩ := h.get ho hk (hK k)
  rcases hst with ⟨hk0, hs⟩ | ⟨hk1, hs, _⟩
  · have hR : runE L ((k : Int) + 2) = 0 := by unfold runE; rw [hg]; simp [hs]
    have hE : exE L ((k : Int) + 2) (M k) = 0 := by unfold exE; rw [hR, if_neg (by decide), if_neg (by omega)]
    have h00 : exL0 L ((k : Int) + 2) = L := by
      unfold exL0
      conv => rhs; rw [← List.map_id L]
      refine List.map_congr_left (fun x hx => ?_)
      have : x.par ≠ (k : Int) + 2 := by
        by_cases c : x.pid = 1
        · have := h.pars x hx c; omega
        · obtain ⟨j, _, _, e, _⟩ := h.all x hx c; omega
      rw [if_neg this]; rfl
    unfold exL
    rw [if_pos hE, h00, atL_some hg]
    have hmem : ∀ x ∈ setL L ((k : Int) + 2) (exV (M k) q), (x ∈ L ∧ x.pid ≠ (k : Int) + 2) ∨ x = exV (M k) q := by
      intro x hx
      obtain ⟨y, hy, rfl⟩ := List.mem_map.1 hx
      by_cases c : y.pid = (k : Int) + 2
      · rw [if_pos c]; exact .inr rfl
      · rw [if_neg c]; exact .inl ⟨hy, c⟩
    have hin : ∀ x ∈ L, x.pid ≠ (k : Int) + 2 → x ∈ setL L ((k : Int) + 2) (exV (M k) q) := fun x hx c => List.mem_map.2 ⟨x, hx, by rw [if_neg c]⟩
    refine ⟨updK K k 1, ⟨?_, ?_, ?_, ?_⟩, fun j => ?_⟩
    · obtain ⟨x, hx, h2, h3⟩ := h.one
      exact ⟨x, hin x hx (by omega), h2, h3⟩
    · intro x hx e
      rcases hmem x hx with ⟨h2, _⟩ | rfl
      · exact h.pars x h2 e
      · have : q.pid = 1 := e
        omega
    · intro x hx e
      rcases hmem x hx with ⟨h2, h3⟩ | rfl
      · obtain ⟨j, e1, e2, e3, e4⟩ := h.all x h2 e
        exact ⟨j, e1, e2, e3, by rw [updK_other (by omega)]; exact e4⟩
      · exact ⟨k, hk, hp, hpar, .inr ⟨updK_same _ _ _, rfl, rfl⟩⟩
    · intro j hj _
      by_cases c : j = k
      · subst c
        exact ⟨exV (M j) q, List.mem_map.2 ⟨q, hq, by rw [if_pos hp]⟩, hp⟩
      · obtain ⟨x, hx, h2⟩ := h.has j hj (hK j)
        exact ⟨x, hin x hx (by omega), h2⟩
    · unfold updK
      split
      · decide
      · exact hK j
  · have hR : runE L ((k : Int) + 2) = 2 := by unfold runE; rw [hg]; simp [hs]
    have hE : exE L ((k : Int) + 2) (M k) ≠ 0 := by unfold exE; rw [hR, if_pos (by decide)]; decide
    unfold exL
    rw [if_neg hE]
    exact ⟨K, h, hK⟩

theorem find_least {P : PV → Bool} {z q : PV} (ho : TOk L g) (hz : L.find? P = some z) (hq : q ∈ L) (hP : P q = true) : z.pid ≤ q.pid := by
  obtain ⟨h1, A, B, rfl, h3⟩ := List.find?_eq_some_iff_append.1 hz
  have hr := ho.rise
  rw [List.pairwise_append] at hr
  rcases List.mem_append.1 hq with h | h
  · have := h3 q h; rw [hP] at this; cases this
  · rcases List.mem_cons.1 h with rfl | h
    · exact Int.le_refl _
    · exact Int.le_of_lt ((List.pairwise_cons.1 hr.2.1).1 q h)

/-- the least child that has ended is reaped. -/
theorem RInv.wait (h : RInv L n K M) (ho : TOk L g) {k : Nat} (hk : k < n) (hK : K k = 1) (hlow : ∀ j, j < k → K j ≠ 1) :
    waE L 1 = 0 ∧ (waQ L 1).pid = (k : Int) + 2 ∧ (waQ L 1).stat = M k ∧ RInv (waL L 1) n (updK K k 2) M := by
  obtain ⟨q, hg, hq, hp, hpar, hst⟩ := h.get ho hk (by omega)
  have hs : q.st = 3 ∧ q.stat = M k := by
    rcases hst with ⟨h0, _⟩ | ⟨_, h1⟩
    · omega
    · exact h1
  have hP : (fun q : PV => q.par == 1 && q.st == 3) q = true := by simp [hpar, hs.1]
  have hz : zomO L 1 = some q := by
    unfold zomO
    cases e : L.find? (fun q => q.par == 1 && q.st == 3) with
    | none => exact absurd hP (by have := List.find?_eq_none.1 e q hq; simpa using this)
    | some z =>
      have hle := find_least ho e hq hP
      have hzm := List.mem_of_find?_eq_some e
      have hzp := List.find?_some e
      simp at hzp
      have hz1 : z.pid ≠ 1 := fun c => by have := h.pars z hzm c; omega
      obtain ⟨j, hj, e1, e2, e3⟩ := h.all z hzm hz1
      have hj1 : K j = 1 := by
        rcases e3 with ⟨_, e3⟩ | ⟨e3, _⟩
        · omega
        · exact e3
      have : j = k := by
        rcases Nat.lt_or_ge j k with c | c
        · exact absurd hj1 (hlow j c)
        · omega
      have e4 := getL_of_mem ho hzm
      rw [e1, this, hg] at e4
      exact e4.symm
  have hE : waE L 1 = 0 := by unfold waE zomE; rw [h.run1 ho, if_neg (by decide), hz]
  have hQ : waQ L 1 = q := by unfold waQ; rw [if_pos hE, hz]; rfl
  refine ⟨hE, by rw [hQ, hp], by rw [hQ]; exact hs.2, ?_⟩
  unfold waL
  rw [if_pos hE, hQ, hp]
  have hmem : ∀ x ∈ delL L ((k : Int) + 2), x ∈ L ∧ x.pid ≠ (k : Int) + 2 := fun x hx => ⟨(List.mem_filter.1 hx).1, by have := (List.mem_filter.1 hx).2; simpa using this⟩
  have hin : ∀ x ∈ L, x.pid ≠ (k : Int) + 2 → x ∈ delL L ((k : Int) + 2) := fun x hx c => List.mem_filter.2 ⟨hx, by simpa using c⟩
  refine ⟨?_, ?_, ?_, ?_⟩
  · obtain ⟨x, hx, h2, h3⟩ := h.one
    exact ⟨x, hin x hx (by omega), h2, h3⟩
  · intro x hx e
    exact h.pars x (hmem x hx).1 e
  · intro x hx e
    obtain ⟨h2, h3⟩ := hmem x hx
    obtain ⟨j, e1, e2, e3, e4⟩ := h.all x h2 e
    exact ⟨j, e1, e2, e3, by rw [updK_other (by omega)]; exact e4⟩
  · intro j hj hjK
    by_cases c : j = k
    · subst c; exact absurd (updK_same _ _ _) hjK
    · rw [updK_other c] at hjK
      obtain ⟨x, hx, h2⟩ := h.has j hj hjK
      exact ⟨x, hin x hx (by omega), h2⟩

/-- nobody has ended: there is nobody to reap. -/
theorem RInv.none (h : RInv L n K M) (ho : TOk L g) (hK : ∀ j, j < n → K j ≠ 1) : waE L 1 ≠ 0 := by
  have hz : zomO L 1 = Option.none := by
    unfold zomO
    rw [List.find?_eq_none]
    intro x hx
    by_cases c : x.pid = 1
    · have := h.pars x hx c
      simp [this]
    · obtain ⟨j, hj, _, _, e⟩ := h.all x hx c
      rcases e with ⟨_, e⟩ | ⟨e, _⟩
      · simp [e]
      · exact absurd e (hK j hj)
  unfold waE
  rw [h.run1 ho, if_neg (by decide)]
  unfold zomE
  rw [hz]
  dsimp only
  split <;> decide
end
end Go.Proofs.Ytonllnbincgdpaa
