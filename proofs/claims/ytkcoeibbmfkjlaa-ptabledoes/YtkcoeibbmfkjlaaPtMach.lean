/- Package ptable: its calls as one plain machine on the state of a root and its tables. -/
import Derived.Test.YtkcoeibbmfkjlaaPtPages
namespace Go.Proofs.Ytkcoeibbmfkjlaa
open Go.RowKit

/-- a memory that holds a root and its tables. -/
structure PtS where
  R : Nat → Int
  B : Nat → List UInt8
  T : Nat → Nat × Nat
  E : Nat → Nat × Nat
def PtS.ok (n root : Nat) (S : PtS) : Prop := Rep n S.R S.B root S.T S.E
/-- it lies in the world. -/
def PtS.at (w : World) (p g n : Nat) (S : PtS) : Prop := MemAt w p g n S.R S.B

theorem allocF_inv {n : Nat} {R : Nat → Int} {t : Nat} (h : allocF n R = some t) : t < n ∧ R t = 0 ∧ ∀ j, j < t → R j ≠ 0 := by
  unfold allocF at h
  rw [List.find?_eq_some_iff_append] at h
  obtain ⟨h1, xs, ys, h2, h3⟩ := h
  have hlen : xs.length = t := by
    have e1 : (List.range n)[xs.length]? = some t := by rw [h2]; simp
    have := (List.getElem?_eq_some_iff.1 e1)
    obtain ⟨hlt, e2⟩ := this
    simpa using e2
  have hn : t < n := by
    have := congrArg List.length h2
    simp at this
    omega
  refine ⟨hn, by simpa using h1, fun j hj => ?_⟩
  have hmem : j ∈ xs := by
    have e1 : (List.range n)[j]? = xs[j]? := by rw [h2, List.getElem?_append_left (by omega)]
    rw [List.getElem?_range (by omega)] at e1
    exact List.mem_of_getElem? e1.symm
  have := h3 j hmem
  simpa using this
theorem allocF_none_inv {n : Nat} {R : Nat → Int} (h : allocF n R = none) : ∀ j, j < n → R j ≠ 0 := by
  unfold allocF at h
  rw [List.find?_eq_none] at h
  intro j hj
  have := h j (List.mem_range.2 hj)
  simpa using this

/-- Map. -/
def mapS (n root : Nat) (S : PtS) (page frame flags : Int) : Int × PtS :=
  if belowB 256 page = true then
    if belowB 256 frame = true then
      if flagB flags = true then
        if S.E page.toNat = (0, 0) then
          if S.T (page.toNat / 16) = (0, 0) then
            match allocF n S.R with
            | none => (11, S)
            | some t => (0, ⟨updR S.R t 1, updB (updB (updB S.B t zeroPage) root (putBytes (S.B root) (4 * (page.toNat / 16)) (entBytes (1, t)))) t (putBytes zeroPage (4 * (page.toNat % 16)) (entBytes (flags.toNat, frame.toNat))), updE S.T (page.toNat / 16) (1, t), updE S.E page.toNat (flags.toNat, frame.toNat)⟩)
          else (0, ⟨S.R, updB S.B (S.T (page.toNat / 16)).2 (putBytes (S.B (S.T (page.toNat / 16)).2) (4 * (page.toNat % 16)) (entBytes (flags.toNat, frame.toNat))), S.T, updE S.E page.toNat (flags.toNat, frame.toNat)⟩)
        else (20, S)
      else (2, S)
    else (2, S)
  else (2, S)

/-- Unmap: the frame, the error, the state behind it. -/
def unmapS (root : Nat) (S : PtS) (page : Int) : Int × Int × PtS :=
  if belowB 256 page = true then
    if S.E page.toNat = (0, 0) then (0, 30, S)
    else if entsTo (updB S.B (S.T (page.toNat / 16)).2 (putBytes (S.B (S.T (page.toNat / 16)).2) (4 * (page.toNat % 16)) (entBytes (0, 0))) (S.T (page.toNat / 16)).2) 16 = [] then
      ((S.E page.toNat).2, 0, ⟨updR S.R (S.T (page.toNat / 16)).2 0, updB (updB S.B (S.T (page.toNat / 16)).2 (putBytes (S.B (S.T (page.toNat / 16)).2) (4 * (page.toNat % 16)) (entBytes (0, 0)))) root (putBytes (S.B root) (4 * (page.toNat / 16)) (entBytes (0, 0))), updE S.T (page.toNat / 16) (0, 0), updE S.E page.toNat (0, 0)⟩)
    else ((S.E page.toNat).2, 0, ⟨S.R, updB S.B (S.T (page.toNat / 16)).2 (putBytes (S.B (S.T (page.toNat / 16)).2) (4 * (page.toNat % 16)) (entBytes (0, 0))), S.T, updE S.E page.toNat (0, 0)⟩)
  else (0, 2, S)

section
variable {w : World} {p g n root : Nat} {S : PtS}

theorem PtS.ok.pos (h : S.ok n root) {j : Nat} (hj : j < n) (h0 : S.R j ≠ 0) : 0 < S.R j := by
  rcases h.Rnn j hj with e | e <;> omega

theorem flag_nat {f : Int} (h : flagB f = true) : ((f.toNat : Nat) : Int) = f := by
  have := flag_lt h; omega
theorem below_toNat {l f : Int} (h : belowB l f = true) : ((f.toNat : Nat) : Int) = f ∧ (f.toNat : Int) < l := by
  simp only [belowB, decide_eq_true_eq] at h
  omega

theorem map_ok (h : S.ok n root) (page frame flags : Int) : (mapS n root S page frame flags).2.ok n root := by
  unfold mapS
  split
  case isFalse => exact h
  rename_i hp
  split
  case isFalse => exact h
  rename_i hf
  split
  case isFalse => exact h
  rename_i hl
  have hp' := below_toNat hp
  have hf' := below_toNat hf
  have hl' : flagB ((flags.toNat : Nat) : Int) = true := by rw [flag_nat hl]; exact hl
  split
  case isFalse => exact h
  rename_i hE
  split
  · rename_i hT
    split
    · exact h
    · rename_i t ht
      obtain ⟨t1, t2, _⟩ := allocF_inv ht
      exact Rep.map2 h (by omega) hT t1 t2 (e := (flags.toNat, frame.toNat)) hl' (by show frame.toNat < 256; omega)
  · rename_i hT
    exact Rep.map1 h (by omega) hT (e := (flags.toNat, frame.toNat)) hl' (by show frame.toNat < 256; omega)

theorem map_rep (hm : S.at w p g n) (h : S.ok n root) (page frame flags : Int) (h0 : -9223372036854775808 ≤ flags) (h1 : flags < 9223372036854775808) :
    Calls Try.prog 14 #[.pointer (some ⟨p, 0, none⟩), .int .i64 root, .int .i64 page, .int .i64 frame, .int .i64 flags] w fun r w' =>
      r = .returned (.int .i64 (mapS n root S page frame flags).1) ∧ (mapS n root S page frame flags).2.at w' p g n ∧ w.grownBy w' (some g) := by
  have kp : ∀ {w' : World}, Below w.heap.size w w' → S.at w' p g n ∧ w.grownBy w' (some g) := fun hb => ⟨MemAt.below hm hb, grown_of_below hb _⟩
  unfold mapS
  split
  case isFalse =>
    rename_i hp
    refine (map_err frame flags (by omega) (seek_arg_rep hm h (by simpa using hp))).mono ?_
    rintro r w' ⟨rfl, hb⟩
    exact ⟨rfl, kp hb⟩
  rename_i hp
  obtain ⟨q, rfl, hq⟩ := below_nat hp
  have hs := seek_rep hm h hq
  simp only [Int.toNat_natCast]
  split
  case isFalse =>
    rename_i hf
    refine (map_frame frame flags (by simpa using hf) hs).mono ?_
    rintro r w' ⟨rfl, hb⟩
    exact ⟨rfl, kp hb⟩
  rename_i hf
  split
  case isFalse =>
    rename_i hl
    refine (map_flags frame flags h0 h1 hf (by simpa using hl) hs).mono ?_
    rintro r w' ⟨rfl, hb⟩
    exact ⟨rfl, kp hb⟩
  rename_i hl
  have hf' := below_toNat hf
  have hl' := flag_nat hl
  split
  case isFalse =>
    rename_i hE
    refine (map_there frame flags h0 h1 hf hl (fun c => hE ((Rep.E1 h hq).1 (by omega))) hs).mono ?_
    rintro r w' ⟨rfl, hb⟩
    exact ⟨rfl, kp hb⟩
  rename_i hE
  obtain ⟨fr, rfl⟩ : ∃ fr : Nat, frame = fr := ⟨frame.toNat, by omega⟩
  obtain ⟨fl, rfl⟩ : ∃ fl : Nat, flags = fl := ⟨flags.toNat, hl'.symm⟩
  simp only [Int.toNat_natCast]
  rw [hE] at hs
  have hrl : 0 < S.R root := by rw [Rep.rR h]; omega
  split
  · rename_i hT
    rw [hT] at hs
    split
    · rename_i ha
      refine map_full hm root q (q / 16) fr fl hq (by omega) (fun j hj => h.pos hj (allocF_none_inv ha j hj)) (by omega) hl hs
    · rename_i t ha
      obtain ⟨t1, t2, t3⟩ := allocF_inv ha
      exact map_add hm root q (q / 16) (q % 16) fr fl t (Rep.rt h) hrl hq (by omega) (by omega) (by omega) (by omega) t1 t2 (fun j hj => h.pos (by omega) (t3 j hj)) (by omega) hl hs
  · rename_i hT
    obtain ⟨t1, t2, t3, t4, _⟩ := Rep.tb h (q / 16) (by omega) hT
    exact map_put hm root q (S.T (q / 16)).1 (S.T (q / 16)).2 (q % 16) fr fl hq (by omega) (by omega) (by omega) t2 (by omega) (by omega) hl hs

/-- no entry is left just where all of them are empty. -/
theorem ents_nil (l : List UInt8) : entsTo l 16 = [] ↔ ∀ j, j < 16 → entP l j = (0, 0) := by
  unfold entsTo
  rw [List.filter_eq_nil_iff]
  constructor
  · intro hh j hj
    have := hh j (List.mem_range.2 hj)
    simpa using this
  · intro hh j hj
    simp [hh j (List.mem_range.1 hj)]

theorem entP_of_ent {l : List UInt8} {j : Nat} {e : Nat × Nat} (h : ent l j = e) (h0 : e = (0, 0) ∨ e.1 % 2 = 1) : entP l j = e := by
  have hF : entF l j = e.1 := by rw [← h]; rfl
  unfold entP
  rcases h0 with h0 | h0
  · rw [if_pos (by rw [hF, h0]; rfl), h0]
  · rw [if_neg (by rw [hF]; omega)]; exact h

/-- the table's entries behind the unmapping of one. -/
theorem unmap_ents (h : S.ok n root) {q : Nat} (hq : q < 256) (hT : S.T (q / 16) ≠ (0, 0)) {j : Nat} (hj : j < 16) :
    entP (updB S.B (S.T (q / 16)).2 (putBytes (S.B (S.T (q / 16)).2) (4 * (q % 16)) (entBytes (0, 0))) (S.T (q / 16)).2) j = if j = q % 16 then (0, 0) else S.E (16 * (q / 16) + j) := by
  obtain ⟨t1, t2, t3, t4, _⟩ := Rep.tb h (q / 16) (by omega) hT
  have hl := Rep.hB h _ t2
  rw [updB_same]
  split
  · rename_i c
    subst c
    exact entP_of_ent (ent_put_same hl (by omega) (by decide) (by decide)) (.inl rfl)
  · rename_i c
    refine entP_of_ent ((ent_put_other hl (by omega) c).trans (Rep.eT h (q / 16) j (by omega) hj hT)) ?_
    by_cases c2 : S.E (16 * (q / 16) + j) = (0, 0)
    · exact .inl c2
    · exact .inr (flag_natlt (Rep.eok h _ (by omega) c2).1).2.2

theorem E_T (h : S.ok n root) {q : Nat} (hq : q < 256) (hE : S.E q ≠ (0, 0)) : S.T (q / 16) ≠ (0, 0) := fun c => by
  have := Rep.e0 h (q / 16) (q % 16) (by omega) (by omega) c
  rw [show 16 * (q / 16) + q % 16 = q from by omega] at this
  exact hE this

theorem unmap_ok (h : S.ok n root) (page : Int) : (unmapS root S page).2.2.ok n root := by
  unfold unmapS
  split
  case isFalse => exact h
  rename_i hp
  obtain ⟨q, rfl, hq⟩ := below_nat hp
  simp only [Int.toNat_natCast]
  split
  · exact h
  rename_i hE
  have hT := E_T h hq hE
  split
  · rename_i he
    refine Rep.unmap2 h hq hT fun j hj hne => ?_
    have := (ents_nil _).1 he j hj
    rw [unmap_ents h hq hT hj, if_neg hne] at this
    exact this
  · rename_i he
    refine Rep.unmap1 h hq hT ?_
    apply Classical.byContradiction
    intro hno
    apply he
    rw [ents_nil]
    intro j hj
    rw [unmap_ents h hq hT hj]
    split
    · rfl
    · rename_i c
      apply Classical.byContradiction
      intro c2
      exact hno ⟨j, hj, c, c2⟩

theorem unmap_rep (hm : S.at w p g n) (h : S.ok n root) (page : Int) :
    Calls Try.prog 18 #[.pointer (some ⟨p, 0, none⟩), .int .i64 root, .int .i64 page] w fun r w' =>
      r = .returned (.tuple #[.int .i64 (unmapS root S page).1, .int .i64 (unmapS root S page).2.1]) ∧ (unmapS root S page).2.2.at w' p g n ∧ w.grownBy w' (some g) := by
  have kp : ∀ {w' : World}, Below w.heap.size w w' → S.at w' p g n ∧ w.grownBy w' (some g) := fun hb => ⟨MemAt.below hm hb, grown_of_below hb _⟩
  unfold unmapS
  split
  case isFalse =>
    rename_i hp
    refine (unmap_err (by omega) (mapped_arg hm h (by simpa using hp))).mono ?_
    rintro r w' ⟨rfl, hb⟩
    exact ⟨rfl, kp hb⟩
  rename_i hp
  obtain ⟨q, rfl, hq⟩ := below_nat hp
  simp only [Int.toNat_natCast]
  split
  · rename_i hE
    refine (unmap_err (by omega) (mapped_no hm h hq hE)).mono ?_
    rintro r w' ⟨rfl, hb⟩
    exact ⟨rfl, kp hb⟩
  rename_i hE
  have hT := E_T h hq hE
  have hs := mapped_yes hm h hq hE
  obtain ⟨t1, t2, t3, t4, _⟩ := Rep.tb h (q / 16) (by omega) hT
  have hrl : 0 < S.R root := by rw [Rep.rR h]; omega
  split
  · rename_i he
    exact unmap_free hm root q (q / 16) (q % 16) (S.T (q / 16)).1 (S.T (q / 16)).2 (S.E q).1 (S.E q).2 (Rep.rt h) hrl (Ne.symm t3) hq (by omega) (by omega) (by omega) (by omega) t2 t4 (by simpa using he) hs
  · rename_i he
    exact unmap_keep hm root q (q % 16) (S.T (q / 16)).1 (S.T (q / 16)).2 (S.E q).1 (S.E q).2 hq (by omega) (by omega) t2 (by omega) (by simpa using he) hs

/-- the mapped pages, rising. -/
def pagesL (E : Nat → Nat × Nat) : List Nat := (List.range 256).filter fun q => decide (E q ≠ (0, 0))

theorem range_256 : List.range 256 = (List.range 16).flatMap fun i => (List.range 16).map fun j => i * 16 + j := by decide +kernel

theorem flatMap_filter_skip {α β : Type} (f : α → List β) (P : α → Bool) : ∀ l : List α, (∀ x ∈ l, P x = false → f x = []) → (l.filter P).flatMap f = l.flatMap f
  | [], _ => rfl
  | x :: l, hh => by
    have ih := flatMap_filter_skip f P l (fun y hy => hh y (by simp [hy]))
    cases c : P x
    · rw [List.filter_cons_of_neg (by simp [c]), List.flatMap_cons, hh x (by simp) c, ih]; rfl
    · rw [List.filter_cons_of_pos c, List.flatMap_cons, List.flatMap_cons, ih]

theorem flatMap_congr' {α β : Type} (f f' : α → List β) : ∀ l : List α, (∀ x ∈ l, f x = f' x) → l.flatMap f = l.flatMap f'
  | [], _ => rfl
  | x :: l, hh => by
    rw [List.flatMap_cons, List.flatMap_cons, hh x (by simp), flatMap_congr' f f' l (fun y hy => hh y (by simp [hy]))]

theorem pgL_pages (h : S.ok n root) : pgL S.B root (entsTo (S.B root) 16) = pagesL S.E := by
  unfold pgL pagesL
  rw [range_256, List.filter_flatMap]
  have e1 : entsTo (S.B root) 16 = (List.range 16).filter fun i => decide (S.T i ≠ (0, 0)) := by
    unfold entsTo
    apply List.filter_congr
    intro i hi
    rw [Rep.pT h (List.mem_range.1 hi)]
  rw [e1]
  have e2 : ∀ i ∈ List.range 16, ((List.range 16).map fun j => i * 16 + j).filter (fun q => decide (S.E q ≠ (0, 0))) = if S.T i = (0, 0) then [] else pgOf S.B root i := by
    intro i hi
    have hi' := List.mem_range.1 hi
    split
    · rename_i c
      rw [List.filter_eq_nil_iff]
      intro q hq
      obtain ⟨j, hj, rfl⟩ := List.mem_map.1 hq
      have := Rep.e0 h i j hi' (List.mem_range.1 hj) c
      rw [show i * 16 + j = 16 * i + j from by omega, this]
      simp
    · rename_i c
      unfold pgOf entsTo
      rw [List.filter_map]
      congr 1
      apply List.filter_congr
      intro j hj
      have e3 := Rep.pE h hi' (List.mem_range.1 hj) c
      rw [Rep.pT h hi', e3]
      show decide (S.E (i * 16 + j) ≠ (0, 0)) = _
      rw [show i * 16 + j = 16 * i + j from by omega]
  rw [flatMap_congr' _ _ _ e2, ← flatMap_filter_skip (fun i => if S.T i = (0, 0) then [] else pgOf S.B root i) (fun i => decide (S.T i ≠ (0, 0)))]
  · apply flatMap_congr'
    intro i hi
    have := (List.mem_filter.1 hi).2
    simp only [decide_eq_true_eq] at this
    rw [if_neg this]
  · intro i _ hd
    simp only [decide_eq_false_iff_not, ne_eq, Classical.not_not] at hd
    rw [if_pos hd]

theorem pages_rep (hm : S.at w p g n) (h : S.ok n root) :
    Calls Try.prog 20 #[.pointer (some ⟨p, 0, none⟩), .int .i64 root] w fun e W' =>
      (∃ v, e = .returned (.tuple #[v, .int .i64 0]) ∧ W'.ownsRow w.heap.size 3 1 v (pagesL S.E).length ((pagesL S.E).map intV)) ∧ Below w.heap.size w W' := by
  have := pages_raw hm h
  rw [pgL_pages h] at this
  exact this

/-- how many tables there are. -/
def tabs (T : Nat → Nat × Nat) : Nat := ((List.range 16).filter fun i => decide (T i ≠ (0, 0))).length

theorem left_rep (h : S.ok n root) : leftN n S.R + 1 + tabs S.T = n := by
  have hnd : (root :: ((List.range 16).filter fun i => decide (S.T i ≠ (0, 0))).map fun i => (S.T i).2).Nodup := by
    rw [List.nodup_cons]
    refine ⟨fun hm => ?_, ?_⟩
    · obtain ⟨i, hi, e⟩ := List.mem_map.1 hm
      obtain ⟨h1, h2⟩ := List.mem_filter.1 hi
      exact (Rep.tb h i (List.mem_range.1 h1) (by simpa using h2)).2.2.1 e
    · rw [List.Nodup, List.pairwise_map]
      refine List.Pairwise.imp_of_mem ?_ (List.Pairwise.filter _ List.nodup_range)
      intro a b ha hb hab e
      obtain ⟨a1, a2⟩ := List.mem_filter.1 ha
      obtain ⟨b1, b2⟩ := List.mem_filter.1 hb
      exact hab (Rep.inj h a b (List.mem_range.1 a1) (List.mem_range.1 b1) (by simpa using a2) (by simpa using b2) e)
  have hnd2 : ((List.range n).filter fun k => decide (0 < S.R k)).Nodup := List.Pairwise.filter _ List.nodup_range
  have hperm : ((List.range n).filter fun k => decide (0 < S.R k)).Perm (root :: ((List.range 16).filter fun i => decide (S.T i ≠ (0, 0))).map fun i => (S.T i).2) := by
    rw [List.perm_ext_iff_of_nodup hnd2 hnd]
    intro k
    constructor
    · intro hk
      obtain ⟨h1, h2⟩ := List.mem_filter.1 hk
      have hkn := List.mem_range.1 h1
      have hpos : 0 < S.R k := by simpa using h2
      by_cases c : k = root
      · rw [c]; simp
      · by_cases c2 : ∀ i, i < 16 → S.T i ≠ (0, 0) → (S.T i).2 ≠ k
        · have := Rep.fr h k hkn c c2; omega
        · have : ∃ i, i < 16 ∧ S.T i ≠ (0, 0) ∧ (S.T i).2 = k := by
            apply Classical.byContradiction
            intro hno
            exact c2 fun i hi h1 h2 => hno ⟨i, hi, h1, h2⟩
          obtain ⟨i, hi, hT, e⟩ := this
          refine List.mem_cons_of_mem _ (List.mem_map.2 ⟨i, List.mem_filter.2 ⟨List.mem_range.2 hi, by simpa using hT⟩, e⟩)
    · intro hk
      rcases List.mem_cons.1 hk with e | hk
      · rw [e]
        exact List.mem_filter.2 ⟨List.mem_range.2 (Rep.rt h), by rw [Rep.rR h]; rfl⟩
      · obtain ⟨i, hi, e⟩ := List.mem_map.1 hk
        obtain ⟨h1, h2⟩ := List.mem_filter.1 hi
        obtain ⟨_, t2, _, t4, _⟩ := Rep.tb h i (List.mem_range.1 h1) (by simpa using h2)
        rw [← e]
        exact List.mem_filter.2 ⟨List.mem_range.2 t2, by rw [t4]; rfl⟩
  have hl := hperm.length_eq
  rw [List.length_cons, List.length_map] at hl
  have htot : ((List.range n).filter fun k => decide (0 < S.R k)).length + leftN n S.R = n := by
    unfold leftN freeL
    have : ∀ l : List Nat, (l.filter fun k => decide (0 < S.R k)).length + (l.filter fun k => !decide (0 < S.R k)).length = l.length := by
      intro l
      induction l with
      | nil => rfl
      | cons a l ih =>
        cases c : decide (0 < S.R a)
        · rw [List.filter_cons_of_neg (by simp [c]), List.filter_cons_of_pos (by simp [c]), List.length_cons, List.length_cons]; omega
        · rw [List.filter_cons_of_pos (by simp [c]), List.filter_cons_of_neg (by simp [c]), List.length_cons, List.length_cons]; omega
    have h2 := this (List.range n)
    rw [List.length_range] at h2
    exact h2
  unfold tabs
  omega

end
end Go.Proofs.Ytkcoeibbmfkjlaa
