/- Layer 9, plainly: what the calls make of a list of descriptors: who finds what, how many are of an open file, how many open files there are. No program in it. -/
import Derived.Test.YtfgigofmmapbmaaRef9Drop
namespace Go.Proofs.Ytfgigofmmapbmaa

/-! ### who is found -/
def look (L : List FV) (p d : Int) : Option FV := L.find? (FV.is p d)
theorem is_iff {p d : Int} {x : FV} : FV.is p d x = true ↔ x.pid = p ∧ x.fd = d := by unfold FV.is; simp
theorem is_no {p d : Int} {x : FV} (h : ¬ (x.pid = p ∧ x.fd = d)) : FV.is p d x = false := by
  rcases e : FV.is p d x with _ | _
  · rfl
  · exact absurd (is_iff.1 e) h
theorem idx_look (L : List FV) (p d : Int) : (L.findIdx? (FV.is p d) = none ∧ look L p d = none) ∨ ∃ i x, L.findIdx? (FV.is p d) = some i ∧ look L p d = some x ∧ L[i]? = some x ∧ FV.is p d x = true := by
  cases e : L.findIdx? (FV.is p d) with
  | none =>
    refine .inl ⟨rfl, ?_⟩
    have := List.findIdx?_eq_none_iff.1 e
    exact List.find?_eq_none.2 (fun x hx => by simp [this x hx])
  | some i =>
    obtain ⟨hl, hP, hlo⟩ := List.findIdx?_eq_some_iff_getElem.1 e
    refine .inr ⟨i, L[i], rfl, ?_, List.getElem?_eq_getElem hl, hP⟩
    unfold look
    rw [List.find?_eq_some_iff_append]
    refine ⟨hP, L.take i, L.drop (i + 1), by rw [List.getElem_cons_drop hl, List.take_append_drop], fun y hy => ?_⟩
    obtain ⟨k, hk, rfl⟩ := List.mem_iff_getElem.1 hy
    have hki : k < i := by simp at hk; omega
    have := hlo k hki
    simpa using this
theorem look_is {L : List FV} {p d : Int} {x : FV} (h : look L p d = some x) : x ∈ L ∧ x.pid = p ∧ x.fd = d := ⟨List.mem_of_find?_eq_some h, is_iff.1 (List.find?_some h)⟩
theorem look_none {L : List FV} {p d : Int} : look L p d = none ↔ ∀ x ∈ L, ¬ (x.pid = p ∧ x.fd = d) := by
  unfold look
  rw [List.find?_eq_none]
  exact ⟨fun h x hx c => h x hx (is_iff.2 c), fun h x hx c => h x hx (is_iff.1 c)⟩
theorem idx_none_iff {L : List FV} {p d : Int} : L.findIdx? (FV.is p d) = none ↔ look L p d = none := by
  rcases idx_look L p d with ⟨a, b⟩ | ⟨i, x, a, b, _⟩
  · simp [a, b]
  · simp [a, b]
theorem fdX_look {L : List FV} {p d : Int} : fdX L p d = (look L p d).getD FV.zero := by
  rcases idx_look L p d with ⟨a, b⟩ | ⟨i, x, a, b, c, _⟩
  · rw [fdX_none a, b]; rfl
  · have := fdX_some a
    rw [c] at this
    rw [b]
    exact (Option.some.inj this).symm
theorem getE_look {L : List FV} {p d : Int} : getE L p d = if p < 1 then 2 else match look L p d with | none => 80 | some _ => 0 := by
  unfold getE
  rcases idx_look L p d with ⟨a, b⟩ | ⟨i, x, a, b, _⟩
  · rw [atI_none a, b]; rfl
  · rw [atI_some a, b, if_neg (by omega : ¬ (i : Int) < 0)]
theorem getE_zero {L : List FV} {p d : Int} : getE L p d = 0 ↔ 1 ≤ p ∧ ∃ x, look L p d = some x := by
  rw [getE_look]
  by_cases h : p < 1
  · rw [if_pos h]
    exact ⟨fun c => (by cases c), fun c => (by omega)⟩
  · rw [if_neg h]
    cases look L p d with
    | none => exact ⟨fun c => (by cases c), fun ⟨_, x, c⟩ => (by cases c)⟩
    | some x => exact ⟨fun _ => ⟨by omega, x, rfl⟩, fun _ => rfl⟩
/-- told the same of a descriptor. -/
theorem get_same {L L' : List FV} {p d : Int} (h : look L p d = look L' p d) : getE L p d = getE L' p d ∧ getX L p d = getX L' p d := by
  have e : getE L p d = getE L' p d := by rw [getE_look, getE_look, h]
  refine ⟨e, ?_⟩
  unfold getX
  rw [e, fdX_look, fdX_look, h]

theorem look_other {L : List FV} {x : FV} {p d : Int} (h : ¬ (x.pid = p ∧ x.fd = d)) : look (L ++ [x]) p d = look L p d := by
  unfold look
  rw [List.find?_append]
  simp [List.find?, is_no h]
theorem look_new {L : List FV} {x : FV} {p d : Int} (h : look L p d = none) (h1 : x.pid = p) (h2 : x.fd = d) : look (L ++ [x]) p d = some x := by
  unfold look at *
  rw [List.find?_append, h]
  simp [List.find?, is_iff.2 ⟨h1, h2⟩]
theorem look_old {L M : List FV} {p d : Int} {x : FV} (h : look L p d = some x) : look (L ++ M) p d = some x := by
  unfold look at *
  rw [List.find?_append, h]
  rfl
theorem look_app {L M : List FV} {p d : Int} (h : look L p d = none) : look (L ++ M) p d = look M p d := by
  unfold look at *
  rw [List.find?_append, h]
  rfl
theorem look_app2 {L M : List FV} {p d : Int} (h : look M p d = none) : look (L ++ M) p d = look L p d := by
  unfold look at *
  rw [List.find?_append, h]
  cases L.find? (FV.is p d) <;> rfl

/-! ### lists in which nobody has a descriptor twice -/
structure WF (L : List FV) (n : Nat) : Prop where
  ok : ∀ x ∈ L, 1 ≤ x.pid ∧ 0 ≤ x.fd ∧ x.fd < 8 ∧ 1 ≤ x.file ∧ x.file ≤ n ∧ 1 ≤ x.kind ∧ 0 ≤ x.thing
  one : ∀ p d, L.countP (FV.is p d) ≤ 1
  same : ∀ x ∈ L, ∀ y ∈ L, x.file = y.file → x.kind = y.kind ∧ x.thing = y.thing
  cnt : cntN L n ≤ 32
theorem cnt_zero (L : List FV) (p d : Int) (h : look L p d = none) : L.countP (FV.is p d) = 0 := List.countP_eq_zero.2 fun x hx c => look_none.1 h x hx (is_iff.1 c)

/-- parted at a descriptor. -/
theorem rm_split {L : List FV} {p d : Int} {x : FV} (h : look L p d = some x) : ∃ A B, L = A ++ x :: B ∧ rmL L p d = A ++ B ∧ look A p d = none := by
  rcases idx_look L p d with ⟨a, b⟩ | ⟨i, y, a, b, c, _⟩
  · rw [b] at h; cases h
  · rw [b] at h; cases h
    obtain ⟨hl, hP, hlo⟩ := List.findIdx?_eq_some_iff_getElem.1 a
    obtain ⟨_, rfl⟩ := List.getElem?_eq_some_iff.1 c
    refine ⟨L.take i, L.drop (i + 1), by rw [List.getElem_cons_drop hl, List.take_append_drop], rmL_some a, look_none.2 fun y hy => ?_⟩
    obtain ⟨k, hk, rfl⟩ := List.mem_iff_getElem.1 hy
    have hki : k < i := by simp at hk; omega
    have := hlo k hki
    intro c
    simp at this
    rw [is_iff.2 (by simpa using c)] at this
    cases this
theorem rm_none {L : List FV} {p d : Int} (h : look L p d = none) : rmL L p d = L := by unfold rmL; rw [idx_none_iff.2 h]
theorem rm_mem {L : List FV} {p d : Int} {y : FV} (h : y ∈ rmL L p d) : y ∈ L := by
  cases e : look L p d with
  | none => rwa [rm_none e] at h
  | some x =>
    obtain ⟨A, B, rfl, hr, _⟩ := rm_split e
    rw [hr] at h
    simp at h ⊢
    rcases h with h | h
    · exact .inl h
    · exact .inr (.inr h)
theorem rm_other {L : List FV} {p d p' d' : Int} (h : ¬ (p = p' ∧ d = d')) : look (rmL L p d) p' d' = look L p' d' := by
  cases e : look L p d with
  | none => rw [rm_none e]
  | some x =>
    obtain ⟨A, B, rfl, hr, _⟩ := rm_split e
    obtain ⟨-, h1, h2⟩ := look_is e
    rw [hr]
    unfold look
    rw [List.find?_append, List.find?_append]
    congr 1
    simp [List.find?, is_no (show ¬ (x.pid = p' ∧ x.fd = d') by rw [h1, h2]; exact h)]
theorem rm_self {L : List FV} {n : Nat} (hw : WF L n) (p d : Int) : look (rmL L p d) p d = none := by
  cases e : look L p d with
  | none => rw [rm_none e]; exact e
  | some x =>
    obtain ⟨A, B, rfl, hr, hA⟩ := rm_split e
    obtain ⟨-, h1, h2⟩ := look_is e
    rw [hr]
    have := hw.one p d
    rw [List.countP_append, List.countP_cons, if_pos (is_iff.2 ⟨h1, h2⟩)] at this
    have hB : B.countP (FV.is p d) = 0 := by omega
    rw [look_app hA]
    exact look_none.2 fun y hy c => (List.countP_eq_zero.1 hB) y hy (is_iff.2 c)
theorem rm_refs {L : List FV} {p d : Int} {x : FV} (h : look L p d = some x) (f : Int) : refsN L f = refsN (rmL L p d) f + (if x.file = f then 1 else 0) := by
  obtain ⟨A, B, rfl, hr, _⟩ := rm_split h
  rw [hr]
  unfold refsN
  rw [List.countP_append, List.countP_append, List.countP_cons]
  by_cases e : x.file = f
  · simp [e]; omega
  · simp [e]
theorem refs_mem {L : List FV} {f : Int} : 0 < refsN L f ↔ ∃ x ∈ L, x.file = f := by
  unfold refsN
  rw [List.countP_pos_iff]
  simp

/-! ### how many open files -/
theorem cntN_same {L L' : List FV} : ∀ {n : Nat}, (∀ f : Nat, 1 ≤ f → f ≤ n → (0 < refsN L f ↔ 0 < refsN L' f)) → cntN L n = cntN L' n
  | 0, _ => rfl
  | n + 1, h => by
    unfold cntN
    rw [cntN_same (fun f h1 h2 => h f h1 (by omega))]
    have := h (n + 1) (by omega) (Nat.le_refl _)
    by_cases c : 0 < refsN L (n + 1 : Nat)
    · rw [if_pos c, if_pos (this.1 c)]
    · rw [if_neg c, if_neg (fun e => c (this.2 e))]
theorem cntN_less {L L' : List FV} {f0 : Nat} : ∀ {n : Nat}, 1 ≤ f0 → f0 ≤ n → 0 < refsN L f0 → ¬ 0 < refsN L' f0 → (∀ f : Nat, 1 ≤ f → f ≤ n → f ≠ f0 → (0 < refsN L f ↔ 0 < refsN L' f)) → cntN L n = cntN L' n + 1
  | 0, h1, h2, _, _, _ => by omega
  | n + 1, h1, h2, h3, h4, h => by
    unfold cntN
    by_cases e : f0 = n + 1
    · subst e
      rw [if_pos h3, if_neg h4, cntN_same (fun f a b => h f a (by omega) (by omega))]
    · rw [cntN_less h1 (by omega) h3 h4 (fun f a b c => h f a (by omega) c)]
      have := h (n + 1) (by omega) (Nat.le_refl _) (Ne.symm e)
      by_cases c : 0 < refsN L (n + 1 : Nat)
      · rw [if_pos c, if_pos (this.1 c)]
      · rw [if_neg c, if_neg (fun e => c (this.2 e))]
theorem cntN_nil : ∀ n, cntN [] n = 0
  | 0 => rfl
  | n + 1 => by unfold cntN; rw [cntN_nil n]; rfl

/-- a new file. -/
theorem cnt_open {L : List FV} {n : Nat} {x : FV} (hx : x.file = (n : Int) + 1) : cntN (L ++ [x]) (n + 1) = cntN L n + 1 := by
  have h1 : cntN (L ++ [x]) n = cntN L n := cntN_same fun f h1 h2 => by rw [refs_no (by rw [hx]; omega)]
  rw [show cntN (L ++ [x]) (n + 1) = cntN (L ++ [x]) n + (if 0 < refsN (L ++ [x]) (n + 1 : Nat) then 1 else 0) from rfl, h1, if_pos (refs_mem.2 ⟨x, by simp, by rw [hx]; rfl⟩)]
/-- one more of a file that is there. -/
theorem cnt_more {L : List FV} {n : Nat} {M : List FV} (h : ∀ x ∈ M, ∃ y ∈ L, y.file = x.file) : cntN (L ++ M) n = cntN L n := cntN_same fun f h1 h2 => by
  rw [refs_mem, refs_mem]
  constructor
  · rintro ⟨x, hx, e⟩
    rcases List.mem_append.1 hx with c | c
    · exact ⟨x, c, e⟩
    · obtain ⟨y, hy, e'⟩ := h x c
      exact ⟨y, hy, e'.trans e⟩
  · rintro ⟨x, hx, e⟩
    exact ⟨x, List.mem_append_left _ hx, e⟩
theorem cnt_rm {L : List FV} {n : Nat} (hw : WF L n) {p d : Int} {x : FV} (h : look L p d = some x) : cntN L n = cntN (rmL L p d) n + (if refsN (rmL L p d) x.file = 0 then 1 else 0) := by
  obtain ⟨hx, -⟩ := look_is h
  have ho := hw.ok x hx
  obtain ⟨f0, hf0⟩ : ∃ f0 : Nat, x.file = f0 := ⟨x.file.toNat, by omega⟩
  have hr := rm_refs h
  by_cases e : refsN (rmL L p d) x.file = 0
  · rw [if_pos e]
    rw [hf0] at e hr
    refine cntN_less (f0 := f0) (by omega) (by omega) (refs_mem.2 ⟨x, hx, hf0⟩) (by omega) (fun f _ _ hne => ?_)
    rw [hr, if_neg (by omega), Nat.add_zero]
  · rw [if_neg e, Nat.add_zero]
    refine cntN_same fun f _ _ => ?_
    rw [hr]
    by_cases c : x.file = f
    · rw [if_pos c]; rw [c] at e; omega
    · rw [if_neg c, Nat.add_zero]

/-! ### nobody has more than eight -/
theorem countP_two {P Q R : FV → Bool} (h : ∀ x, P x = true → Q x = true ∨ R x = true) : ∀ L : List FV, L.countP P ≤ L.countP Q + L.countP R
  | [] => by simp
  | x :: L => by
    have := countP_two h L
    rw [List.countP_cons, List.countP_cons, List.countP_cons]
    have hx := h x
    split
    · rcases hx ‹_› with c | c <;> rw [if_pos c] <;> omega
    · omega
theorem few {L : List FV} {n : Nat} (hw : WF L n) (p : Int) : ∀ k : Nat, L.countP (fun x => x.pid == p && decide (x.fd < (k : Int))) ≤ k
  | 0 => by
    rw [List.countP_eq_zero.2 (fun x hx => by have := (hw.ok x hx).2.1; simp; intro _; omega)]
    omega
  | k + 1 => by
    have h1 := few hw p k
    have h2 := hw.one p k
    refine Nat.le_trans (countP_two (Q := fun x => x.pid == p && decide (x.fd < (k : Int))) (R := FV.is p k) (fun x hx => ?_) L) (by omega)
    simp at hx ⊢
    by_cases c : x.fd < k
    · exact .inl ⟨hx.1, c⟩
    · exact .inr (is_iff.2 ⟨hx.1, by omega⟩)
theorem more_few {L : List FV} {n : Nat} (hw : WF L n) (p c : Int) : (moreL L p c).length ≤ 8 := by
  have h : ∀ A : List FV, (moreL A p c).length = A.countP (fun x => x.pid == p) := fun A => by
    induction A with
    | nil => rfl
    | cons x A ih =>
      unfold moreL at *
      rw [List.countP_cons, ← ih, List.filterMap_cons]
      unfold mine9
      by_cases e : x.pid = p <;> simp [e]
  rw [h]
  refine Nat.le_trans ?_ (few hw p 8)
  refine Nat.le_of_eq (List.countP_congr fun x hx => ?_)
  have := (hw.ok x hx).2.2.1
  simp
  intro _
  omega
end Go.Proofs.Ytfgigofmmapbmaa
