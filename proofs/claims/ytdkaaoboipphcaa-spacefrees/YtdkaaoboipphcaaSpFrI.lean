/- SpaceFrees: what is known of a space and its attachments while some are attached (no walk). -/
import Derived.Test.YtdkaaoboipphcaaSpAttDo
import Derived.Test.YtdkaaoboipphcaaSpFrees
import Derived.Test.YtdkaaoboipphcaaSpShown
namespace Go.Proofs.Ytdkaaoboipphcaa
open Go.RowKit Go.Shelf

/-- the first frames are in use. -/
def RK (k : Nat) : Nat → Int := fun j => if j < k then 1 else 0
theorem RK_step (k : Nat) (hk : k < 60) : allocR 60 (RK k) = RK (k + 1) := by
  have hs : allocF 60 (RK k) = some k := allocF_some hk (by simp [RK]) (fun j hj => by simp [RK, hj])
  unfold allocR allocN
  rw [hs]
  simp only [Option.isSome_some, if_true, Option.getD_some]
  funext j
  by_cases c : j = k
  · subst c; simp [RK]
  · rw [updR_other _ _ c]
    unfold RK
    by_cases c2 : j < k
    · rw [if_pos c2, if_pos (by omega)]
    · rw [if_neg c2, if_neg (by omega)]
theorem RK_zero : (fun _ => 0) = RK 0 := by funext j; simp [RK]
theorem RK_root : allocN 60 (RK 4) = 4 := by
  have hs : allocF 60 (RK 4) = some 4 := allocF_some (by omega) (by simp [RK]) (fun j hj => by simp [RK, hj])
  unfold allocN
  rw [hs]; rfl
theorem RK_used : usedN 60 (RK 4) = 4 := by decide +kernel

/-- what is known behind so many attachments. -/
structure FrI (i : Nat) (S : PtS) (al : List AttV) : Prop where
  ok : S.ok 60 4
  used : usedN 60 S.R ≤ 11 + 4 * i
  kept : ∀ j, j < 4 → Kept 60 4 S j ∧ S.R j ≤ 1 + 4 * i
  len : al.length ≤ i
  rng : ∀ a ∈ al, 128 ≤ a.1.val ∧ a.1.val + a.2.1.val ≤ 147 ∧ 1 ≤ a.2.1.val
  on : ∀ a ∈ al, ∀ q, a.1.val ≤ q → q < a.1.val + a.2.1.val → S.E q ≠ (0, 0)
  off : ∀ q, 128 ≤ q → q < 240 → S.E q ≠ (0, 0) → ∃ a ∈ al, a.1.val ≤ q ∧ q < a.1.val + a.2.1.val

theorem load_all {n root : Nat} {S : PtS} {t d : Nat} {text data : List UInt8} (L : LoadF n root S t d text data) : (loadS n root S t d text data).ok n root ∧ usedN n (loadS n root S t d text data).R ≤ usedN n S.R + 2 * (t + d + 2) ∧
    (∀ k, Kept n root S k → Kept n root (loadS n root S t d text data) k ∧ (loadS n root S t d text data).R k = S.R k) ∧ ∀ q, t + d ≤ q → q < 254 → (loadS n root S t d text data).E q = S.E q := by
  unfold loadS
  have u1 := L.a1.used; have u2 := L.a2.used; have u3 := L.a3.used
  refine ⟨L.a3.ok, by omega, fun k hk => ?_, fun q h1 h2 => (L.a3.other q (.inl h2)).trans ((L.a2.other q (.inr h1)).trans (L.a1.other q (.inr (by omega))))⟩
  obtain ⟨x1, y1⟩ := L.a1.kept k hk
  obtain ⟨x2, y2⟩ := L.a2.kept k x1
  obtain ⟨x3, y3⟩ := L.a3.kept k x2
  exact ⟨x3, y3.trans (y2.trans y1)⟩

theorem frI_zero {B : Nat → List UInt8} (hB : ∀ k, k < 60 → (B k).length = 64) : FrI 0 (loadS 60 4 (rootS 60 (RK 4) B) 1 0 [116] []) [] := by
  have hs : allocF 60 (RK 4) = some 4 := allocF_some (by omega) (by simp [RK]) (fun j hj => by simp [RK, hj])
  obtain ⟨eA, eN, eE⟩ := alloS_some (S := ⟨RK 4, B, fun _ => (0, 0), fun _ => (0, 0)⟩) hs
  have eR : rootS 60 (RK 4) B = ⟨updR (RK 4) 4 1, updB B 4 zeroPage, fun _ => (0, 0), fun _ => (0, 0)⟩ := eA
  have hok : (rootS 60 (RK 4) B).ok 60 4 := by rw [eR]; exact fresh_ok (by omega) (fun k _ => by unfold RK; split <;> omega) hB (by omega)
  have hu : usedN 60 (rootS 60 (RK 4) B).R ≤ 5 := by
    rw [eR]
    have := used_upd1 (RK 4) 4 1 60
    rw [RK_used] at this
    exact this
  have hR : ∀ j, j < 4 → (rootS 60 (RK 4) B).R j = 1 := fun j hj => by rw [eR]; show updR (RK 4) 4 1 j = 1; rw [updR_other _ _ (by omega)]; simp [RK, hj]
  have hT : ∀ i, (rootS 60 (RK 4) B).T i = (0, 0) := fun i => by rw [eR]
  have hE : ∀ i, (rootS 60 (RK 4) B).E i = (0, 0) := fun i => by rw [eR]
  clear eA eN eE eR hs
  generalize rootS 60 (RK 4) B = S0 at *
  obtain ⟨a1, a2, a3, a4⟩ := load_all (load_facts (text := [116]) (data := []) (t := 1) (d := 0) hok hE (by omega) (by omega))
  generalize loadS 60 4 S0 1 0 [116] [] = S at *
  refine ⟨a1, by omega, fun j hj => ?_, Nat.le_refl _, fun a h => (by cases h), fun a h => (by cases h), fun q h1 h2 h3 => ?_⟩
  · have k0 : Kept 60 4 S0 j := ⟨by omega, by rw [hR j hj]; omega, by omega, fun i _ h => absurd (hT i) h⟩
    obtain ⟨x, y⟩ := a3 j k0
    exact ⟨x, by rw [y, hR j hj]; omega⟩
  · exact absurd ((a4 q (by omega) (by omega)).trans (hE q)) h3

theorem FrI.mono {i : Nat} {S : PtS} {al : List AttV} (h : FrI i S al) : FrI (i + 1) S al :=
  ⟨h.ok, by have := h.used; omega, fun j hj => ⟨(h.kept j hj).1, by have := (h.kept j hj).2; omega⟩, by have := h.len; omega, h.rng, h.on, h.off⟩

theorem FrI.step {i : Nat} {S : PtS} {al al' : List AttV} (h : FrI i S al) (hi : i ≤ 6) (page len : Nat) (x : AttV) (hx1 : x.1.val = page) (hx2 : x.2.1.val = len) (h1 : 128 ≤ page) (h2 : page ≤ 143) (h3 : 1 ≤ len) (h4 : len ≤ 4) (hp : al'.Perm (al ++ [x])) (hE : ∀ i, i < len → S.E (page + i) = (0, 0)) :
    FrI (i + 1) (attK 60 4 S page 7 (fun j => j) len) al' := by
  have hu := h.used
  have F := (att_facts h.ok (page := page) (fl := 7) (by decide) (fun j => j) len (fun j hj => ⟨(h.kept j (by omega)).1, by have := (h.kept j (by omega)).2; omega⟩) (by omega) (by omega) (fun q q1 q2 => by have := hE (q - page) (by omega); rwa [show page + (q - page) = q by omega] at this) len (Nat.le_refl _)).1
  have hmem : ∀ a, a ∈ al' ↔ a ∈ al ∨ a = x := fun a => by rw [hp.mem_iff]; simp
  refine ⟨F.ok, by have := F.used; omega, fun j hj => ?_, ?_, fun a ha => ?_, fun a ha q q1 q2 => ?_, fun q q1 q2 hq => ?_⟩
  · obtain ⟨x1, x2⟩ := F.kept j (h.kept j hj).1
    have := (h.kept j hj).2
    exact ⟨x1, by omega⟩
  · have := hp.length_eq
    have := h.len
    simp at *
    omega
  · rcases (hmem a).1 ha with ha | rfl
    · exact h.rng a ha
    · omega
  · by_cases c : page ≤ q ∧ q < page + len
    · exact F.there q c.1 c.2
    · rw [F.other q (by omega)]
      rcases (hmem a).1 ha with ha | rfl
      · exact h.on a ha q q1 q2
      · exact absurd ⟨by omega, by omega⟩ c
  · by_cases c : page ≤ q ∧ q < page + len
    · exact ⟨x, (hmem x).2 (.inr rfl), by omega, by omega⟩
    · rw [F.other q (by omega)] at hq
      obtain ⟨a, ha, a1, a2⟩ := h.off q q1 q2 hq
      exact ⟨a, (hmem a).2 (.inl ha), a1, a2⟩

/-- what touches nothing is free, what touches something is not. -/
theorem FrI.free {i : Nat} {S : PtS} {al : List AttV} (h : FrI i S al) {page count : Nat} (h1 : 128 ≤ page) (h2 : page + count ≤ 240) (hh : al.any (hitA page count) = false) : ∀ j, j < count → S.E (page + j) = (0, 0) := by
  intro j hj
  apply Classical.byContradiction
  intro hc
  obtain ⟨a, ha, a1, a2⟩ := h.off (page + j) (by omega) (by omega) hc
  have := List.any_eq_false.1 hh a ha
  simp [hitA] at this
  omega
theorem FrI.hit {i : Nat} {S : PtS} {al : List AttV} (h : FrI i S al) {page count : Nat} (h3 : 1 ≤ count) (hh : al.any (hitA page count) = true) : ∃ j, j < count ∧ S.E (page + j) ≠ (0, 0) := by
  obtain ⟨a, ha, hit⟩ := List.any_eq_true.1 hh
  simp [hitA] at hit
  have hr := h.rng a ha
  by_cases c : page ≤ a.1.val
  · refine ⟨a.1.val - page, by omega, ?_⟩
    rw [show page + (a.1.val - page) = a.1.val by omega]
    exact h.on a ha _ (by omega) (by omega)
  · exact ⟨0, by omega, h.on a ha _ (by omega) (by omega)⟩
/-- there is room behind all of them. -/
theorem FrI.room {i : Nat} {S : PtS} {al : List AttV} (h : FrI i S al) {count : Nat} : al.any (hitA 148 count) = false := by
  rw [List.any_eq_false]
  intro a ha
  have hr := h.rng a ha
  simp [hitA]
  omega

end Go.Proofs.Ytdkaaoboipphcaa
