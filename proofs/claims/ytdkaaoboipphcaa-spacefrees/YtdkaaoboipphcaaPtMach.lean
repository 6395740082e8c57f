/- Package ptable: its calls as one plain machine on the state of a root and its tables. -/
import Derived.Test.YtdkaaoboipphcaaPtMap
import Derived.Test.YtdkaaoboipphcaaPtUnmap
namespace Go.Proofs.Ytdkaaoboipphcaa
open Go.RowKit

/-- a memory that holds a root and its tables. -/
structure PtS where
  R : Nat → Int
  B : Nat → List UInt8
  T : Nat → Nat × Nat
  E : Nat → Nat × Nat
def PtS.ok (n root : Nat) (S : PtS) : Prop := Rep n S.R S.B root S.T S.E
/-- it lies in the world. -/
def PtS.at (w : World) (p g n : Nat) (S : PtS) : Prop := MemAt w p g n S.R S.B

theorem allocF_inv {n : Nat} {R : Nat → Int} {t : Nat} (h : allocF n R = some t) : t < n ∧ R t = 0 ∧ ∀ j, j < t → R j ≠ 0 := by
  unfold allocF at h
  rw [List.find?_eq_some_iff_append] at h
  obtain ⟨h1, xs, ys, h2, h3⟩ := h
  have hlen : xs.length = t := by
    have e1 : (List.range n)[xs.length]? = some t := by rw [h2]; simp
    have := (List.getElem?_eq_some_iff.1 e1)
    obtain ⟨hlt, e2⟩ := this
    simpa using e2
  have hn : t < n := by
    have := congrArg List.length h2
    simp at this
    omega
  refine ⟨hn, by simpa using h1, fun j hj => ?_⟩
  have hmem : j ∈ xs := by
    have e1 : (List.range n)[j]? = xs[j]? := by rw [h2, List.getElem?_append_left (by omega)]
    rw [List.getElem?_range (by omega)] at e1
    exact List.mem_of_getElem? e1.symm
  have := h3 j hmem
  simpa using this
theorem allocF_none_inv {n : Nat} {R : Nat → Int} (h : allocF n R = none) : ∀ j, j < n → R j ≠ 0 := by
  unfold allocF at h
  rw [List.find?_eq_none] at h
  intro j hj
  have := h j (List.mem_range.2 hj)
  simpa using this

/-- Map. -/
def mapS (n root : Nat) (S : PtS) (page frame flags : Int) : Int × PtS :=
  if belowB 256 page = true then
    if belowB 256 frame = true then
      if flagB flags = true then
        if S.E page.toNat = (0, 0) then
          if S.T (page.toNat / 16) = (0, 0) then
            match allocF n S.R with
            | none => (11, S)
            | some t => (0, ⟨updR S.R t 1, updB (updB (updB S.B t zeroPage) root (putBytes (S.B root) (4 * (page.toNat / 16)) (entBytes (1, t)))) t (putBytes zeroPage (4 * (page.toNat % 16)) (entBytes (flags.toNat, frame.toNat))), updE S.T (page.toNat / 16) (1, t), updE S.E page.toNat (flags.toNat, frame.toNat)⟩)
          else (0, ⟨S.R, updB S.B (S.T (page.toNat / 16)).2 (putBytes (S.B (S.T (page.toNat / 16)).2) (4 * (page.toNat % 16)) (entBytes (flags.toNat, frame.toNat))), S.T, updE S.E page.toNat (flags.toNat, frame.toNat)⟩)
        else (20, S)
      else (2, S)
    else (2, S)
  else (2, S)

/-- Unmap: the frame, the error, the state behind it. -/
def unmapS (root : Nat) (S : PtS) (page : Int) : Int × Int × PtS :=
  if belowB 256 page = true then
    if S.E page.toNat = (0, 0) then (0, 30, S)
    else if entsTo (updB S.B (S.T (page.toNat / 16)).2 (putBytes (S.B (S.T (page.toNat / 16)).2) (4 * (page.toNat % 16)) (entBytes (0, 0))) (S.T (page.toNat / 16)).2) 16 = [] then
      ((S.E page.toNat).2, 0, ⟨updR S.R (S.T (page.toNat / 16)).2 0, updB (updB S.B (S.T (page.toNat / 16)).2 (putBytes (S.B (S.T (page.toNat / 16)).2) (4 * (page.toNat % 16)) (entBytes (0, 0)))) root (putBytes (S.B root) (4 * (page.toNat / 16)) (entBytes (0, 0))), updE S.T (page.toNat / 16) (0, 0), updE S.E page.toNat (0, 0)⟩)
    else ((S.E page.toNat).2, 0, ⟨S.R, updB S.B (S.T (page.toNat / 16)).2 (putBytes (S.B (S.T (page.toNat / 16)).2) (4 * (page.toNat % 16)) (entBytes (0, 0))), S.T, updE S.E page.toNat (0, 0)⟩)
  else (0, 2, S)

theorem below_step {a b c : World} (h : Below a.heap.size a b) (k : Below b.heap.size b c) : Below a.heap.size a c := h.trans (k.mono h.size)

section
variable {w : World} {p g n root : Nat} {S : PtS}

theorem PtS.ok.pos (h : S.ok n root) {j : Nat} (hj : j < n) (h0 : S.R j ≠ 0) : 0 < S.R j := by
  have := Rep.Rnn h j hj
  omega

theorem flag_nat {f : Int} (h : flagB f = true) : ((f.toNat : Nat) : Int) = f := by
  have := flag_lt h; omega
theorem below_toNat {l f : Int} (h : belowB l f = true) : ((f.toNat : Nat) : Int) = f ∧ (f.toNat : Int) < l := by
  simp only [belowB, decide_eq_true_eq] at h
  omega

theorem map_ok (h : S.ok n root) (page frame flags : Int) : (mapS n root S page frame flags).2.ok n root := by
  unfold mapS
  split
  case isFalse => exact h
  rename_i hp
  split
  case isFalse => exact h
  rename_i hf
  split
  case isFalse => exact h
  rename_i hl
  have hp' := below_toNat hp
  have hf' := below_toNat hf
  have hl' : flagB ((flags.toNat : Nat) : Int) = true := by rw [flag_nat hl]; exact hl
  split
  case isFalse => exact h
  rename_i hE
  split
  · rename_i hT
    split
    · exact h
    · rename_i t ht
      obtain ⟨t1, t2, _⟩ := allocF_inv ht
      exact Rep.map2 h (by omega) hT t1 t2 (e := (flags.toNat, frame.toNat)) hl' (by show frame.toNat < 256; omega)
  · rename_i hT
    exact Rep.map1 h (by omega) hT (e := (flags.toNat, frame.toNat)) hl' (by show frame.toNat < 256; omega)

theorem map_rep (hm : S.at w p g n) (h : S.ok n root) (page frame flags : Int) (h0 : -9223372036854775808 ≤ flags) (h1 : flags < 9223372036854775808) :
    Calls Try.prog 68 #[.pointer (some ⟨p, 0, none⟩), .int .i64 root, .int .i64 page, .int .i64 frame, .int .i64 flags] w fun r w' =>
      r = .returned (.int .i64 (mapS n root S page frame flags).1) ∧ (mapS n root S page frame flags).2.at w' p g n ∧ w.grownBy w' (some g) := by
  have kp : ∀ {w' : World}, Below w.heap.size w w' → S.at w' p g n ∧ w.grownBy w' (some g) := fun hb => ⟨MemAt.below hm hb, grown_of_below hb _⟩
  unfold mapS
  split
  case isFalse =>
    rename_i hp
    refine (map_err frame flags (by omega) (seek_arg_rep hm h (by simpa using hp))).mono ?_
    rintro r w' ⟨rfl, hb⟩
    exact ⟨rfl, kp hb⟩
  rename_i hp
  obtain ⟨q, rfl, hq⟩ := below_nat hp
  have hs := seek_rep hm h hq
  simp only [Int.toNat_natCast]
  split
  case isFalse =>
    rename_i hf
    refine (map_frame frame flags (by simpa using hf) hs).mono ?_
    rintro r w' ⟨rfl, hb⟩
    exact ⟨rfl, kp hb⟩
  rename_i hf
  split
  case isFalse =>
    rename_i hl
    refine (map_flags frame flags h0 h1 hf (by simpa using hl) hs).mono ?_
    rintro r w' ⟨rfl, hb⟩
    exact ⟨rfl, kp hb⟩
  rename_i hl
  have hf' := below_toNat hf
  have hl' := flag_nat hl
  split
  case isFalse =>
    rename_i hE
    refine (map_there frame flags h0 h1 hf hl (fun c => hE ((Rep.E1 h hq).1 (by omega))) hs).mono ?_
    rintro r w' ⟨rfl, hb⟩
    exact ⟨rfl, kp hb⟩
  rename_i hE
  obtain ⟨fr, rfl⟩ : ∃ fr : Nat, frame = fr := ⟨frame.toNat, by omega⟩
  obtain ⟨fl, rfl⟩ : ∃ fl : Nat, flags = fl := ⟨flags.toNat, hl'.symm⟩
  simp only [Int.toNat_natCast]
  rw [hE] at hs
  have hrl : 0 < S.R root := by rw [Rep.rR h]; omega
  split
  · rename_i hT
    rw [hT] at hs
    split
    · rename_i ha
      refine map_full hm root q (q / 16) fr fl hq (by omega) (fun j hj => h.pos hj (allocF_none_inv ha j hj)) (by omega) hl hs
    · rename_i t ha
      obtain ⟨t1, t2, t3⟩ := allocF_inv ha
      exact map_add hm root q (q / 16) (q % 16) fr fl t (Rep.rt h) hrl hq (by omega) (by omega) (by omega) (by omega) t1 t2 (fun j hj => h.pos (by omega) (t3 j hj)) (by omega) hl hs
  · rename_i hT
    obtain ⟨t1, t2, t3, t4, _⟩ := Rep.tb h (q / 16) (by omega) hT
    exact map_put hm root q (S.T (q / 16)).1 (S.T (q / 16)).2 (q % 16) fr fl hq (by omega) (by omega) (by omega) t2 (by omega) (by omega) hl hs

/-- no entry is left just where all of them are empty. -/
theorem ents_nil (l : List UInt8) : entsTo l 16 = [] ↔ ∀ j, j < 16 → entP l j = (0, 0) := by
  unfold entsTo
  rw [List.filter_eq_nil_iff]
  constructor
  · intro hh j hj
    have := hh j (List.mem_range.2 hj)
    simpa using this
  · intro hh j hj
    simp [hh j (List.mem_range.1 hj)]

theorem entP_of_ent {l : List UInt8} {j : Nat} {e : Nat × Nat} (h : ent l j = e) (h0 : e = (0, 0) ∨ e.1 % 2 = 1) : entP l j = e := by
  have hF : entF l j = e.1 := by rw [← h]; rfl
  unfold entP
  rcases h0 with h0 | h0
  · rw [if_pos (by rw [hF, h0]; rfl), h0]
  · rw [if_neg (by rw [hF]; omega)]; exact h

/-- the table's entries behind the unmapping of one. -/
theorem unmap_ents (h : S.ok n root) {q : Nat} (hq : q < 256) (hT : S.T (q / 16) ≠ (0, 0)) {j : Nat} (hj : j < 16) :
    entP (updB S.B (S.T (q / 16)).2 (putBytes (S.B (S.T (q / 16)).2) (4 * (q % 16)) (entBytes (0, 0))) (S.T (q / 16)).2) j = if j = q % 16 then (0, 0) else S.E (16 * (q / 16) + j) := by
  obtain ⟨t1, t2, t3, t4, _⟩ := Rep.tb h (q / 16) (by omega) hT
  have hl := Rep.hB h _ t2
  rw [updB_same]
  split
  · rename_i c
    subst c
    exact entP_of_ent (ent_put_same hl (by omega) (by decide) (by decide)) (.inl rfl)
  · rename_i c
    refine entP_of_ent ((ent_put_other hl (by omega) c).trans (Rep.eT h (q / 16) j (by omega) hj hT)) ?_
    by_cases c2 : S.E (16 * (q / 16) + j) = (0, 0)
    · exact .inl c2
    · exact .inr (flag_natlt (Rep.eok h _ (by omega) c2).1).2.2

theorem E_T (h : S.ok n root) {q : Nat} (hq : q < 256) (hE : S.E q ≠ (0, 0)) : S.T (q / 16) ≠ (0, 0) := fun c => by
  have := Rep.e0 h (q / 16) (q % 16) (by omega) (by omega) c
  rw [show 16 * (q / 16) + q % 16 = q from by omega] at this
  exact hE this

theorem unmap_ok (h : S.ok n root) (page : Int) : (unmapS root S page).2.2.ok n root := by
  unfold unmapS
  split
  case isFalse => exact h
  rename_i hp
  obtain ⟨q, rfl, hq⟩ := below_nat hp
  simp only [Int.toNat_natCast]
  split
  · exact h
  rename_i hE
  have hT := E_T h hq hE
  split
  · rename_i he
    refine Rep.unmap2 h hq hT fun j hj hne => ?_
    have := (ents_nil _).1 he j hj
    rw [unmap_ents h hq hT hj, if_neg hne] at this
    exact this
  · rename_i he
    refine Rep.unmap1 h hq hT ?_
    apply Classical.byContradiction
    intro hno
    apply he
    rw [ents_nil]
    intro j hj
    rw [unmap_ents h hq hT hj]
    split
    · rfl
    · rename_i c
      apply Classical.byContradiction
      intro c2
      exact hno ⟨j, hj, c, c2⟩

theorem unmap_rep (hm : S.at w p g n) (h : S.ok n root) (page : Int) :
    Calls Try.prog 70 #[.pointer (some ⟨p, 0, none⟩), .int .i64 root, .int .i64 page] w fun r w' =>
      r = .returned (.tuple #[.int .i64 (unmapS root S page).1, .int .i64 (unmapS root S page).2.1]) ∧ (unmapS root S page).2.2.at w' p g n ∧ w.grownBy w' (some g) := by
  have kp : ∀ {w' : World}, Below w.heap.size w w' → S.at w' p g n ∧ w.grownBy w' (some g) := fun hb => ⟨MemAt.below hm hb, grown_of_below hb _⟩
  unfold unmapS
  split
  case isFalse =>
    rename_i hp
    refine (unmap_err (by omega) (mapped_arg hm h (by simpa using hp))).mono ?_
    rintro r w' ⟨rfl, hb⟩
    exact ⟨rfl, kp hb⟩
  rename_i hp
  obtain ⟨q, rfl, hq⟩ := below_nat hp
  simp only [Int.toNat_natCast]
  split
  · rename_i hE
    refine (unmap_err (by omega) (mapped_no hm h hq hE)).mono ?_
    rintro r w' ⟨rfl, hb⟩
    exact ⟨rfl, kp hb⟩
  rename_i hE
  have hT := E_T h hq hE
  have hs := mapped_yes hm h hq hE
  obtain ⟨t1, t2, t3, t4, _⟩ := Rep.tb h (q / 16) (by omega) hT
  have hrl : 0 < S.R root := by rw [Rep.rR h]; omega
  split
  · rename_i he
    exact unmap_free hm root q (q / 16) (q % 16) (S.T (q / 16)).1 (S.T (q / 16)).2 (S.E q).1 (S.E q).2 (Rep.rt h) hrl (Ne.symm t3) hq (by omega) (by omega) (by omega) (by omega) t2 t4 (by simpa using he) hs
  · rename_i he
    exact unmap_keep hm root q (q % 16) (S.T (q / 16)).1 (S.T (q / 16)).2 (S.E q).1 (S.E q).2 hq (by omega) (by omega) t2 (by omega) (by simpa using he) hs



end
end Go.Proofs.Ytdkaaoboipphcaa
