/- Page tables of two levels, in frames: the plain machine (no walk): entries of tables as bytes, what a memory holds where a root and its tables lie in it, and what mapping, unmapping and dropping make of it. -/
import Derived.Test.YtdkaaoboipphcaaFramesMach
namespace Go.Proofs.Ytdkaaoboipphcaa
open Go.RowKit

/-- an entry of a table: its flags, its frame. -/
def entF (l : List UInt8) (i : Nat) : Nat := (l[4 * i]?.getD 0).toNat
def entT (l : List UInt8) (i : Nat) : Nat := (l[4 * i + 2]?.getD 0).toNat * 256 + (l[4 * i + 3]?.getD 0).toNat
def ent (l : List UInt8) (i : Nat) : Nat × Nat := (entF l i, entT l i)
/-- .. as the program takes it: empty without the first flag. -/
def entP (l : List UInt8) (i : Nat) : Nat × Nat := if entF l i % 2 = 0 then (0, 0) else ent l i
/-- its bytes. -/
def entBytes (e : Nat × Nat) : List UInt8 := [UInt8.ofNat e.1, 0, UInt8.ofNat (e.2 / 256), UInt8.ofNat e.2]
theorem entBytes_length (e : Nat × Nat) : (entBytes e).length = 4 := rfl

theorem entF_lt (l : List UInt8) (i : Nat) : entF l i < 256 := by unfold entF; exact UInt8.toNat_lt _
theorem entT_lt (l : List UInt8) (i : Nat) : entT l i < 65536 := by
  unfold entT
  have h1 := UInt8.toNat_lt (l[4 * i + 2]?.getD 0)
  have h2 := UInt8.toNat_lt (l[4 * i + 3]?.getD 0)
  omega
theorem entP_lt (l : List UInt8) (i : Nat) : (entP l i).1 < 256 ∧ (entP l i).2 < 65536 := by
  unfold entP
  split
  · exact ⟨by decide, by decide⟩
  · exact ⟨entF_lt l i, entT_lt l i⟩

theorem ent_put_same {l : List UInt8} {j : Nat} {e : Nat × Nat} (hl : l.length = 64) (hj : j < 16) (h1 : e.1 < 256) (h2 : e.2 < 65536) : ent (putBytes l (4 * j) (entBytes e)) j = e := by
  have hb : 4 * j + (entBytes e).length ≤ l.length := by rw [entBytes_length]; omega
  have g0 : (putBytes l (4 * j) (entBytes e))[4 * j]? = some (UInt8.ofNat e.1) := by rw [putBytes_get _ _ _ hb, if_pos (by rw [entBytes_length]; omega), show 4 * j - 4 * j = 0 from by omega]; rfl
  have g2 : (putBytes l (4 * j) (entBytes e))[4 * j + 2]? = some (UInt8.ofNat (e.2 / 256)) := by rw [putBytes_get _ _ _ hb, if_pos (by rw [entBytes_length]; omega), show 4 * j + 2 - 4 * j = 2 from by omega]; rfl
  have g3 : (putBytes l (4 * j) (entBytes e))[4 * j + 3]? = some (UInt8.ofNat e.2) := by rw [putBytes_get _ _ _ hb, if_pos (by rw [entBytes_length]; omega), show 4 * j + 3 - 4 * j = 3 from by omega]; rfl
  unfold ent entF entT
  rw [g0, g2, g3]
  simp only [Option.getD_some, UInt8.toNat_ofNat']
  refine Prod.ext ?_ ?_
  · show e.1 % 2 ^ 8 = e.1; omega
  · show e.2 / 256 % 2 ^ 8 * 256 + e.2 % 2 ^ 8 = e.2; omega
theorem ent_put_other {l : List UInt8} {i j : Nat} {e : Nat × Nat} (hl : l.length = 64) (hj : j < 16) (hij : i ≠ j) : ent (putBytes l (4 * j) (entBytes e)) i = ent l i := by
  have hb : 4 * j + (entBytes e).length ≤ l.length := by rw [entBytes_length]; omega
  have g : ∀ c, c < 4 → (putBytes l (4 * j) (entBytes e))[4 * i + c]? = l[4 * i + c]? := fun c hc => by rw [putBytes_get _ _ _ hb, if_neg (by rw [entBytes_length]; omega)]
  unfold ent entF entT
  rw [show 4 * i = 4 * i + 0 from rfl, g 0 (by omega), show 4 * i + 0 + 2 = 4 * i + 2 from rfl, show 4 * i + 0 + 3 = 4 * i + 3 from rfl, g 2 (by omega), g 3 (by omega)]

theorem ent_zero (i : Nat) : ent zeroPage i = (0, 0) := by
  have g : ∀ c : Nat, zeroPage[c]?.getD 0 = 0 := fun c => by unfold zeroPage; rw [List.getElem?_replicate]; split <;> rfl
  unfold ent entF entT
  rw [g, g, g]; rfl

/-- one value turns. -/
def updE (E : Nat → Nat × Nat) (k : Nat) (e : Nat × Nat) : Nat → Nat × Nat := fun i => if i = k then e else E i
@[simp] theorem updE_same (E : Nat → Nat × Nat) (k : Nat) (e : Nat × Nat) : updE E k e k = e := by simp [updE]
theorem updE_other (E : Nat → Nat × Nat) {k i : Nat} (e : Nat × Nat) (h : i ≠ k) : updE E k e i = E i := by simp [updE, h]

/-- flags that a page may have. -/
def flagB (f : Int) : Bool := decide (f = 1 ∨ f = 3 ∨ f = 5 ∨ f = 7)

/-- The memory holds, besides a root, the tables T of it and nothing else; they say that page p is E p. -/
structure Rep (n : Nat) (R : Nat → Int) (B : Nat → List UInt8) (root : Nat) (T E : Nat → Nat × Nat) : Prop where
  rt : root < n
  rR : R root = 1
  hB : ∀ k, k < n → (B k).length = 64
  hn : n ≤ 256
  hT : ∀ i, i < 16 → ent (B root) i = T i
  tb : ∀ i, i < 16 → T i ≠ (0, 0) → (T i).1 = 1 ∧ (T i).2 < n ∧ (T i).2 ≠ root ∧ R (T i).2 = 1 ∧ ∃ j, j < 16 ∧ E (16 * i + j) ≠ (0, 0)
  inj : ∀ i j, i < 16 → j < 16 → T i ≠ (0, 0) → T j ≠ (0, 0) → (T i).2 = (T j).2 → i = j
  e0 : ∀ i j, i < 16 → j < 16 → T i = (0, 0) → E (16 * i + j) = (0, 0)
  eT : ∀ i j, i < 16 → j < 16 → T i ≠ (0, 0) → ent (B (T i).2) j = E (16 * i + j)
  eok : ∀ p, p < 256 → E p ≠ (0, 0) → flagB (E p).1 = true ∧ (E p).2 < 256
  fr : ∀ k, k < n → k ≠ root → (∀ i, i < 16 → T i ≠ (0, 0) → (T i).2 ≠ k) → 0 ≤ R k   -- with copyio pages have frames of their own

theorem flag_lt {f : Int} (h : flagB f = true) : 0 < f ∧ f < 8 ∧ f % 2 = 1 := by
  simp only [flagB, decide_eq_true_eq] at h
  omega
theorem flag_natlt {f : Nat} (h : flagB (f : Int) = true) : 0 < f ∧ f < 8 ∧ f % 2 = 1 := by
  have := flag_lt h; omega

section
variable {n : Nat} {R : Nat → Int} {B : Nat → List UInt8} {root : Nat} {T E : Nat → Nat × Nat}

theorem Rep.Rnn (h : Rep n R B root T E) (k : Nat) (hk : k < n) : 0 ≤ R k := by
  by_cases e : k = root
  · rw [e, h.rR]; decide
  · by_cases c : ∀ i, i < 16 → T i ≠ (0, 0) → (T i).2 ≠ k
    · exact h.fr k hk e c
    · have : ∃ i, i < 16 ∧ T i ≠ (0, 0) ∧ (T i).2 = k := by
        apply Classical.byContradiction
        intro hno
        exact c fun i hi h1 h2 => hno ⟨i, hi, h1, h2⟩
      obtain ⟨i, hi, h1, rfl⟩ := this
      rw [(h.tb i hi h1).2.2.2.1]; decide

/-- the program sees the same entries. -/
theorem Rep.pT (h : Rep n R B root T E) {i : Nat} (hi : i < 16) : entP (B root) i = T i := by
  have hT := h.hT i hi
  unfold entP
  have hF : entF (B root) i = (T i).1 := by rw [← hT]; rfl
  by_cases c : T i = (0, 0)
  · rw [if_pos (by rw [hF, c]; rfl), c]
  · rw [if_neg (by rw [hF, (h.tb i hi c).1]; decide)]; exact hT
theorem Rep.pE (h : Rep n R B root T E) {i j : Nat} (hi : i < 16) (hj : j < 16) (hT : T i ≠ (0, 0)) : entP (B (T i).2) j = E (16 * i + j) := by
  have hE := h.eT i j hi hj hT
  unfold entP
  have hF : entF (B (T i).2) j = (E (16 * i + j)).1 := by rw [← hE]; rfl
  by_cases c : E (16 * i + j) = (0, 0)
  · rw [if_pos (by rw [hF, c]; rfl), c]
  · have := flag_natlt (h.eok _ (by omega) c).1
    rw [if_neg (by rw [hF]; omega)]; exact hE
theorem Rep.page (h : Rep n R B root T E) {p : Nat} (hp : p < 256) : E p = if T (p / 16) = (0, 0) then (0, 0) else entP (B (T (p / 16)).2) (p % 16) := by
  have hd : 16 * (p / 16) + p % 16 = p := by omega
  by_cases c : T (p / 16) = (0, 0)
  · rw [if_pos c]; have := h.e0 (p / 16) (p % 16) (by omega) (by omega) c; rwa [hd] at this
  · rw [if_neg c, h.pE (by omega) (by omega) c, hd]
/-- an entry is there just where its first flag is. -/
theorem Rep.T1 (h : Rep n R B root T E) {i : Nat} (hi : i < 16) : (T i).1 = 0 ↔ T i = (0, 0) := by
  constructor
  · intro h0
    apply Classical.byContradiction
    intro c
    have := (h.tb i hi c).1
    omega
  · intro c; rw [c]
theorem Rep.E1 (h : Rep n R B root T E) {p : Nat} (hp : p < 256) : (E p).1 = 0 ↔ E p = (0, 0) := by
  constructor
  · intro h0
    apply Classical.byContradiction
    intro c
    have := flag_natlt (h.eok p hp c).1
    omega
  · intro c; rw [c]

/-- a page is mapped, its table being there. -/
theorem Rep.map1 (h : Rep n R B root T E) {p : Nat} (hp : p < 256) (hT : T (p / 16) ≠ (0, 0)) {e : Nat × Nat} (he : flagB e.1 = true) (he2 : e.2 < 256) :
    Rep n R (updB B (T (p / 16)).2 (putBytes (B (T (p / 16)).2) (4 * (p % 16)) (entBytes e))) root T (updE E p e) := by
  have hi : p / 16 < 16 := by omega
  have hj : p % 16 < 16 := by omega
  have hd : 16 * (p / 16) + p % 16 = p := by omega
  obtain ⟨t1, t2, t3, t4, j0, hj0, hE0⟩ := h.tb (p / 16) hi hT
  have hl := h.hB _ t2
  have hf := flag_natlt he
  have hne : e ≠ (0, 0) := fun c => by rw [c] at hf; omega
  refine ⟨h.rt, h.rR, ?_, h.hn, ?_, ?_, h.inj, ?_, ?_, ?_, h.fr⟩
  · intro k hk
    by_cases c : k = (T (p / 16)).2
    · rw [c, updB_same, putBytes_length _ _ _ (by rw [entBytes_length]; omega)]; exact hl
    · rw [updB_other _ _ c]; exact h.hB k hk
  · intro i hi'
    rw [updB_other _ _ (Ne.symm t3)]; exact h.hT i hi'
  · intro i hi' hTi
    obtain ⟨a1, a2, a3, a4, j, hjj, hE⟩ := h.tb i hi' hTi
    refine ⟨a1, a2, a3, a4, j, hjj, ?_⟩
    by_cases c : 16 * i + j = p
    · rw [c, updE_same]; exact hne
    · rw [updE_other _ _ c]; exact hE
  · intro i j hi' hj' hTi
    have c : 16 * i + j ≠ p := fun c => by
      have : i = p / 16 := by omega
      rw [this] at hTi; exact hT hTi
    rw [updE_other _ _ c]; exact h.e0 i j hi' hj' hTi
  · intro i j hi' hj' hTi
    by_cases c : i = p / 16
    · subst c
      rw [updB_same]
      by_cases c2 : j = p % 16
      · subst c2
        rw [ent_put_same hl hj (by omega) (by omega), hd, updE_same]
      · rw [ent_put_other hl hj c2, updE_other _ _ (by omega)]; exact h.eT _ j hi' hj' hTi
    · rw [updB_other _ _ (fun e' => c (h.inj i _ hi' hi hTi hT e')), updE_other _ _ (by omega)]; exact h.eT i j hi' hj' hTi
  · intro q hq hE
    by_cases c : q = p
    · rw [c, updE_same]; exact ⟨he, he2⟩
    · rw [updE_other _ _ c] at hE ⊢; exact h.eok q hq hE

/-- a page is mapped, its table being new. -/
theorem Rep.map2 (h : Rep n R B root T E) {p t : Nat} (hp : p < 256) (hT : T (p / 16) = (0, 0)) (ht : t < n) (hR : R t = 0) {e : Nat × Nat} (he : flagB e.1 = true) (he2 : e.2 < 256) :
    Rep n (updR R t 1) (updB (updB (updB B t zeroPage) root (putBytes (B root) (4 * (p / 16)) (entBytes (1, t)))) t (putBytes zeroPage (4 * (p % 16)) (entBytes e))) root (updE T (p / 16) (1, t)) (updE E p e) := by
  have hi : p / 16 < 16 := by omega
  have hj : p % 16 < 16 := by omega
  have hd : 16 * (p / 16) + p % 16 = p := by omega
  have hn := h.hn
  have htr : t ≠ root := fun c => by rw [c, h.rR] at hR; omega
  have htT : ∀ i, i < 16 → T i ≠ (0, 0) → (T i).2 ≠ t := fun i hi' hTi c => by have := (h.tb i hi' hTi).2.2.2.1; rw [c] at this; omega
  have hlz : zeroPage.length = 64 := by simp [zeroPage]
  have hlr := h.hB _ h.rt
  have hf := flag_natlt he
  have hne : e ≠ (0, 0) := fun c => by rw [c] at hf; omega
  have h1t : ((1 : Nat), t) ≠ (0, 0) := fun c => by cases c
  have hBr : ∀ x y, updB (updB (updB B t zeroPage) root x) t y root = x := fun x y => by rw [updB_other _ _ (Ne.symm htr), updB_same]
  have hBt : ∀ x y, updB (updB (updB B t zeroPage) root x) t y t = y := fun x y => by rw [updB_same]
  have hBo : ∀ x y k, k ≠ root → k ≠ t → updB (updB (updB B t zeroPage) root x) t y k = B k := fun x y k c1 c2 => by rw [updB_other _ _ c2, updB_other _ _ c1, updB_other _ _ c2]
  refine ⟨h.rt, ?_, ?_, h.hn, ?_, ?_, ?_, ?_, ?_, ?_, ?_⟩
  · rw [updR_other _ _ (Ne.symm htr)]; exact h.rR
  · intro k hk
    by_cases c : k = t
    · rw [c, hBt, putBytes_length _ _ _ (by rw [entBytes_length]; omega)]; exact hlz
    · by_cases c2 : k = root
      · rw [c2, hBr, putBytes_length _ _ _ (by rw [entBytes_length]; omega)]; exact hlr
      · rw [hBo _ _ k c2 c]; exact h.hB k hk
  · intro i hi'
    rw [hBr]
    by_cases c : i = p / 16
    · rw [c, ent_put_same hlr hi (by show 1 < 256; decide) (by show t < 65536; omega), updE_same]
    · rw [ent_put_other hlr hi c, updE_other _ _ c]; exact h.hT i hi'
  · intro i hi' hTi
    by_cases c : i = p / 16
    · rw [c, updE_same]
      exact ⟨rfl, ht, htr, by simp, p % 16, hj, by rw [hd, updE_same]; exact hne⟩
    · rw [updE_other _ _ c] at hTi ⊢
      obtain ⟨a1, a2, a3, a4, j, hjj, hE⟩ := h.tb i hi' hTi
      refine ⟨a1, a2, a3, by rw [updR_other _ _ (htT i hi' hTi)]; exact a4, j, hjj, ?_⟩
      rw [updE_other _ _ (by omega)]; exact hE
  · intro i j hi' hj' hTi hTj he'
    by_cases c : i = p / 16
    · by_cases c2 : j = p / 16
      · rw [c, c2]
      · rw [updE_other _ _ c2] at hTj he'
        rw [c, updE_same] at he'
        exact absurd he'.symm (htT j hj' hTj)
    · rw [updE_other _ _ c] at hTi he'
      by_cases c2 : j = p / 16
      · rw [c2, updE_same] at he'
        exact absurd he' (htT i hi' hTi)
      · rw [updE_other _ _ c2] at hTj he'
        exact h.inj i j hi' hj' hTi hTj he'
  · intro i j hi' hj' hTi
    have c : i ≠ p / 16 := fun c => by rw [c, updE_same] at hTi; exact h1t hTi
    rw [updE_other _ _ c] at hTi
    rw [updE_other _ _ (by omega)]; exact h.e0 i j hi' hj' hTi
  · intro i j hi' hj' hTi
    by_cases c : i = p / 16
    · subst c
      rw [updE_same, hBt]
      by_cases c2 : j = p % 16
      · subst c2
        rw [ent_put_same hlz hj (by omega) (by omega), hd, updE_same]
      · rw [ent_put_other hlz hj c2, updE_other _ _ (by omega), ent_zero]; exact (h.e0 _ j hi' hj' hT).symm
    · rw [updE_other _ _ c] at hTi ⊢
      rw [hBo _ _ _ (h.tb i hi' hTi).2.2.1 (htT i hi' hTi), updE_other _ _ (by omega)]; exact h.eT i j hi' hj' hTi
  · intro q hq hE
    by_cases c : q = p
    · rw [c, updE_same]; exact ⟨he, he2⟩
    · rw [updE_other _ _ c] at hE ⊢; exact h.eok q hq hE
  · intro k hk hkr hno
    have c : k ≠ t := fun c => by
      have := hno (p / 16) hi (by rw [updE_same]; exact h1t)
      rw [updE_same] at this; exact this c.symm
    rw [updR_other _ _ c]
    refine h.fr k hk hkr fun i hi' hTi => ?_
    have c2 : i ≠ p / 16 := fun c2 => by rw [c2] at hTi; exact hTi hT
    have := hno i hi' (by rw [updE_other _ _ c2]; exact hTi)
    rwa [updE_other _ _ c2] at this

/-- a page is unmapped, its table staying. -/
theorem Rep.unmap1 (h : Rep n R B root T E) {p : Nat} (hp : p < 256) (hT : T (p / 16) ≠ (0, 0)) (hst : ∃ j, j < 16 ∧ j ≠ p % 16 ∧ E (16 * (p / 16) + j) ≠ (0, 0)) :
    Rep n R (updB B (T (p / 16)).2 (putBytes (B (T (p / 16)).2) (4 * (p % 16)) (entBytes (0, 0)))) root T (updE E p (0, 0)) := by
  have hi : p / 16 < 16 := by omega
  have hj : p % 16 < 16 := by omega
  have hd : 16 * (p / 16) + p % 16 = p := by omega
  obtain ⟨t1, t2, t3, t4, _⟩ := h.tb (p / 16) hi hT
  have hl := h.hB _ t2
  obtain ⟨j0, hj0, hj0p, hE0⟩ := hst
  refine ⟨h.rt, h.rR, ?_, h.hn, ?_, ?_, h.inj, ?_, ?_, ?_, h.fr⟩
  · intro k hk
    by_cases c : k = (T (p / 16)).2
    · rw [c, updB_same, putBytes_length _ _ _ (by rw [entBytes_length]; omega)]; exact hl
    · rw [updB_other _ _ c]; exact h.hB k hk
  · intro i hi'
    rw [updB_other _ _ (Ne.symm t3)]; exact h.hT i hi'
  · intro i hi' hTi
    obtain ⟨a1, a2, a3, a4, j, hjj, hE⟩ := h.tb i hi' hTi
    by_cases c : i = p / 16
    · subst c
      exact ⟨a1, a2, a3, a4, j0, hj0, by rw [updE_other _ _ (by omega)]; exact hE0⟩
    · exact ⟨a1, a2, a3, a4, j, hjj, by rw [updE_other _ _ (by omega)]; exact hE⟩
  · intro i j hi' hj' hTi
    have c : 16 * i + j ≠ p := fun c => by
      have : i = p / 16 := by omega
      rw [this] at hTi; exact hT hTi
    rw [updE_other _ _ c]; exact h.e0 i j hi' hj' hTi
  · intro i j hi' hj' hTi
    by_cases c : i = p / 16
    · subst c
      rw [updB_same]
      by_cases c2 : j = p % 16
      · subst c2
        rw [ent_put_same hl hj (by decide) (by decide), hd, updE_same]
      · rw [ent_put_other hl hj c2, updE_other _ _ (by omega)]; exact h.eT _ j hi' hj' hTi
    · rw [updB_other _ _ (fun e' => c (h.inj i _ hi' hi hTi hT e')), updE_other _ _ (by omega)]; exact h.eT i j hi' hj' hTi
  · intro q hq hE
    by_cases c : q = p
    · rw [c, updE_same] at hE; exact absurd rfl hE
    · rw [updE_other _ _ c] at hE ⊢; exact h.eok q hq hE

/-- a page is unmapped, and its table is freed. -/
theorem Rep.unmap2 (h : Rep n R B root T E) {p : Nat} (hp : p < 256) (hT : T (p / 16) ≠ (0, 0)) (hst : ∀ j, j < 16 → j ≠ p % 16 → E (16 * (p / 16) + j) = (0, 0)) :
    Rep n (updR R (T (p / 16)).2 0) (updB (updB B (T (p / 16)).2 (putBytes (B (T (p / 16)).2) (4 * (p % 16)) (entBytes (0, 0)))) root (putBytes (B root) (4 * (p / 16)) (entBytes (0, 0)))) root (updE T (p / 16) (0, 0)) (updE E p (0, 0)) := by
  have hi : p / 16 < 16 := by omega
  have hj : p % 16 < 16 := by omega
  have hd : 16 * (p / 16) + p % 16 = p := by omega
  obtain ⟨t1, t2, t3, t4, _⟩ := h.tb (p / 16) hi hT
  have hl := h.hB _ t2
  have hlr := h.hB _ h.rt
  have hno : ∀ i, i < 16 → i ≠ p / 16 → T i ≠ (0, 0) → (T i).2 ≠ (T (p / 16)).2 := fun i hi' c hTi e' => c (h.inj i _ hi' hi hTi hT e')
  refine ⟨h.rt, ?_, ?_, h.hn, ?_, ?_, ?_, ?_, ?_, ?_, ?_⟩
  · rw [updR_other _ _ (Ne.symm t3)]; exact h.rR
  · intro k hk
    by_cases c2 : k = root
    · rw [c2, updB_same, putBytes_length _ _ _ (by rw [entBytes_length]; omega)]; exact hlr
    · rw [updB_other _ _ c2]
      by_cases c : k = (T (p / 16)).2
      · rw [c, updB_same, putBytes_length _ _ _ (by rw [entBytes_length]; omega)]; exact hl
      · rw [updB_other _ _ c]; exact h.hB k hk
  · intro i hi'
    rw [updB_same]
    by_cases c : i = p / 16
    · rw [c, ent_put_same hlr hi (by decide) (by decide), updE_same]
    · rw [ent_put_other hlr hi c, updE_other _ _ c]; exact h.hT i hi'
  · intro i hi' hTi
    by_cases c : i = p / 16
    · rw [c, updE_same] at hTi; exact absurd rfl hTi
    · rw [updE_other _ _ c] at hTi ⊢
      obtain ⟨a1, a2, a3, a4, j, hjj, hE⟩ := h.tb i hi' hTi
      exact ⟨a1, a2, a3, by rw [updR_other _ _ (hno i hi' c hTi)]; exact a4, j, hjj, by rw [updE_other _ _ (by omega)]; exact hE⟩
  · intro i j hi' hj' hTi hTj he'
    by_cases c : i = p / 16
    · rw [c, updE_same] at hTi; exact absurd rfl hTi
    · by_cases c2 : j = p / 16
      · rw [c2, updE_same] at hTj; exact absurd rfl hTj
      · rw [updE_other _ _ c] at hTi he'
        rw [updE_other _ _ c2] at hTj he'
        exact h.inj i j hi' hj' hTi hTj he'
  · intro i j hi' hj' hTi
    by_cases c : i = p / 16
    · subst c
      by_cases c2 : j = p % 16
      · subst c2; rw [hd, updE_same]
      · rw [updE_other _ _ (by omega)]; exact hst j hj' c2
    · rw [updE_other _ _ c] at hTi
      rw [updE_other _ _ (by omega)]; exact h.e0 i j hi' hj' hTi
  · intro i j hi' hj' hTi
    by_cases c : i = p / 16
    · rw [c, updE_same] at hTi; exact absurd rfl hTi
    · rw [updE_other _ _ c] at hTi ⊢
      rw [updB_other _ _ (h.tb i hi' hTi).2.2.1, updB_other _ _ (hno i hi' c hTi), updE_other _ _ (by omega)]; exact h.eT i j hi' hj' hTi
  · intro q hq hE
    by_cases c : q = p
    · rw [c, updE_same] at hE; exact absurd rfl hE
    · rw [updE_other _ _ c] at hE ⊢; exact h.eok q hq hE
  · intro k hk hkr hnk
    by_cases c : k = (T (p / 16)).2
    · rw [c]; simp
    · rw [updR_other _ _ c]
      refine h.fr k hk hkr fun i hi' hTi => ?_
      by_cases c2 : i = p / 16
      · subst c2; exact fun e' => c e'.symm
      · have := hnk i hi' (by rw [updE_other _ _ c2]; exact hTi)
        rwa [updE_other _ _ c2] at this

/-- the first root. -/
theorem Rep.first {n : Nat} (h1 : 1 ≤ n) (hn : n ≤ 256) {B : Nat → List UInt8} (hB : ∀ k, k < n → (B k).length = 64) : Rep n (updR (fun _ => 0) 0 1) (updB B 0 zeroPage) 0 (fun _ => (0, 0)) (fun _ => (0, 0)) := by
  refine ⟨h1, by simp, ?_, hn, fun i _ => by rw [updB_same]; exact ent_zero i, fun i _ h => absurd rfl h, fun i j _ _ h => absurd rfl h, fun _ _ _ _ _ => rfl, fun i j _ _ h => absurd rfl h, fun p _ h => absurd rfl h, ?_⟩
  · intro k hk
    by_cases c : k = 0
    · rw [c, updB_same]; simp [zeroPage]
    · rw [updB_other _ _ c]; exact hB k hk
  · intro k _ hk _
    rw [updR_other _ _ hk]
    exact Int.le_refl 0

end
end Go.Proofs.Ytdkaaoboipphcaa
