/- Layer 9, plainly: all dropped; a parent and its child; duplicates; the least that is free. -/
import Derived.Test.YtfgigofmmapbmaaFiSteps
namespace Go.Proofs.Ytfgigofmmapbmaa

/-! ### all of forty dropped -/
def allL (L : List FV) : Nat → List FV
  | 0 => L
  | m + 1 => drL (allL L m) ((m : Int) + 1) 8
def allN (L : List FV) : Nat → Nat
  | 0 => 0
  | m + 1 => allN L m + (drO (allL L m) ((m : Int) + 1) 8).length
section
variable {L : List FV} {n : Nat}
theorem WF.all (hw : WF L n) : ∀ m, WF (allL L m) n
  | 0 => hw
  | m + 1 => (WF.all hw m).dr _ 8
theorem all_cnt (hw : WF L n) : ∀ m, cntN L n = cntN (allL L m) n + allN L m
  | 0 => rfl
  | m + 1 => by
    have h1 := all_cnt hw m
    have h2 := dr_cnt (hw.all m) ((m : Int) + 1) 8
    rw [show allL L (m + 1) = drL (allL L m) ((m : Int) + 1) 8 from rfl, show allN L (m + 1) = allN L m + (drO (allL L m) ((m : Int) + 1) 8).length from rfl]
    omega
theorem all_mem {x : FV} : ∀ {m : Nat}, x ∈ allL L m → x ∈ L
  | 0, h => h
  | _ + 1, h => all_mem (dr_mem h)
theorem all_none (hw : WF L n) : ∀ {m : Nat} {x : FV}, x ∈ allL L m → (m : Int) < x.pid
  | 0, x, h => by have := (hw.ok x h).1; simp; omega
  | m + 1, x, h => by
    have h1 := all_none hw (dr_mem h)
    have h2 := dr_none (hw.all m) (by omega) h
    push_cast
    omega
theorem all_nil (hw : WF L n) {m : Nat} (hp : ∀ x ∈ L, x.pid ≤ m) : allL L m = [] := List.eq_nil_iff_forall_not_mem.2 fun x hx => by
  have h1 := all_none hw hx
  have h2 := hp x (all_mem hx)
  omega
theorem all_len (L : List FV) : ∀ m, (allL L m).length ≤ L.length
  | 0 => Nat.le_refl _
  | m + 1 => Nat.le_trans (drL_len _ _ _) (all_len L m)
theorem allN_le (L : List FV) : ∀ m, allN L m ≤ m * 8
  | 0 => Nat.le_refl _
  | m + 1 => by
    have h1 := allN_le L m
    have h2 := drO_len (allL L m) ((m : Int) + 1) 8
    rw [show allN L (m + 1) = allN L m + (drO (allL L m) ((m : Int) + 1) 8).length from rfl]
    omega
/-- numbers of people stay within bounds. -/
theorem act_pids {y : Nat} {p d k t b : Int} (h : ∀ x ∈ L, x.pid ≤ b) (hp : p ≤ b) (hd : y = 6 → d ≤ b) : ∀ x ∈ actL y p d k t L n, x.pid ≤ b := by
  intro x hx
  unfold actL at hx
  split at hx
  · unfold openL at hx
    split at hx
    · rcases List.mem_append.1 hx with c | c
      · exact h x c
      · obtain rfl := List.mem_singleton.1 c; exact hp
    · exact h x hx
  split at hx
  · unfold dupL at hx
    split at hx
    · rename_i hE
      obtain ⟨-, -, z, hz⟩ := dup_zero hE
      rcases List.mem_append.1 hx with c | c
      · exact h x c
      · obtain rfl := List.mem_singleton.1 c
        rw [fdX_look, hz]
        exact h z (look_is hz).1
    · exact h x hx
  split at hx
  · exact h x (cls_mem hx)
  split at hx
  · rename_i h6
    unfold fork9L at hx
    split at hx
    · rcases List.mem_append.1 hx with c | c
      · exact h x c
      · obtain ⟨z, _, _, rfl⟩ := more_mem.1 c
        exact hd h6
    · exact h x hx
  split at hx
  · exact h x (dr_mem hx)
  · exact h x hx

/-! ### the least that is free -/
theorem least_yes {p : Int} (hp : 1 ≤ p) {w : Nat} (hw : w < 8) (hlo : ∀ i : Nat, i < w → getE L p i = 0) (hE : getE L p w ≠ 0) : freeI L p = w := by
  refine free_yes hw (fun i hi => ?_) ?_
  · obtain ⟨_, x, hx⟩ := getE_zero.1 (hlo i hi)
    rcases idx_look L p i with ⟨a, b⟩ | ⟨k, z, a, b, _⟩
    · rw [b] at hx; cases hx
    · exact ⟨k, a⟩
  · rw [idx_none_iff]
    cases e : look L p w with
    | none => rfl
    | some x => exact absurd (getE_zero.2 ⟨hp, x, e⟩) hE
theorem least_no {p : Int} (hlo : ∀ i : Nat, i < 8 → getE L p i = 0) : freeI L p = -1 := by
  refine free_no (Nat.le_refl 8) (fun i hi => ?_) rfl
  obtain ⟨_, x, hx⟩ := getE_zero.1 (hlo i hi)
  rcases idx_look L p i with ⟨a, b⟩ | ⟨k, z, a, b, _⟩
  · rw [b] at hx; cases hx
  · exact ⟨k, a⟩

/-! ### a parent and its child -/
theorem dr_later {p : Int} {d : Nat} : ∀ {j : Nat}, j ≤ d → look (drL L p j) p d = look L p d
  | 0, _ => rfl
  | j + 1, h => by
    rw [← dr_later (j := j) (by omega)]
    show look (clsL (drL L p j) p j) p d = _
    unfold clsL
    split
    · exact rm_other (fun c => by have := c.2; omega)
    · rfl
theorem more_look (p c : Int) (d : Int) : ∀ L : List FV, look (moreL L p c) c d = (look L p d).map fun x => { x with pid := c }
  | [] => rfl
  | x :: L => by
    have ih := more_look p c d L
    unfold look moreL at *
    have hm : ∀ y : FV, mine9 p c y = if y.pid = p then some { y with pid := c } else none := fun _ => rfl
    rw [List.filterMap_cons, List.find?_cons, hm]
    by_cases e : x.pid = p
    · rw [if_pos e]
      dsimp only
      rw [List.find?_cons]
      by_cases e' : x.fd = d
      · rw [show FV.is c d { x with pid := c } = true from is_iff.2 ⟨rfl, e'⟩, show FV.is p d x = true from is_iff.2 ⟨e, e'⟩]
        rfl
      · rw [show FV.is c d { x with pid := c } = false from is_no (fun k => e' k.2), show FV.is p d x = false from is_no (fun k => e' k.2)]
        exact ih
    · rw [if_neg e, show FV.is p d x = false from is_no (fun k => e k.1)]
      exact ih
theorem more_else {p c p' d : Int} (h : p' ≠ c) : look (moreL L p c) p' d = none := look_none.2 fun y hy k => by
  obtain ⟨x, _, _, rfl⟩ := more_mem.1 hy
  exact h k.1.symm
/-- the child's list, behind so many closed. -/
theorem child_facts (hp : ∀ x ∈ L, x.pid = 1) {j : Nat} :
    look (drL (L ++ moreL L 1 2) 2 j) 1 j = look L 1 j ∧ look (drL (L ++ moreL L 1 2) 2 j) 2 j = (look L 1 j).map (fun x => { x with pid := 2 }) := by
  have h2 : ∀ d, look L 2 d = none := fun d => look_none.2 fun x hx k => by have := hp x hx; omega
  refine ⟨?_, ?_⟩
  · rw [dr_other (by decide), look_app2 (more_else (by decide))]
  · rw [dr_later (Nat.le_refl _), look_app (h2 _), more_look]
theorem child_not (hp : ∀ x ∈ L, x.pid = 1) (j : Nat) : clsB (drL (L ++ moreL L 1 2) 2 j) 2 j = false := by
  obtain ⟨h1, h2⟩ := child_facts (j := j) hp
  unfold clsB
  rcases e : (getE (drL (L ++ moreL L 1 2) 2 j) 2 j == 0) with _ | _
  · rfl
  · obtain ⟨_, x, hx⟩ := getE_zero.1 (by simpa using e)
    rw [fdX_look, hx]
    rw [h2] at hx
    cases e1 : look L 1 j with
    | none => rw [e1] at hx; cases hx
    | some z =>
      rw [e1] at hx h1
      have hxz : x = { z with pid := 2 } := (Option.some.inj hx).symm
      have h3 : look (rmL (drL (L ++ moreL L 1 2) 2 j) 2 j) 1 j = some z := by rw [rm_other (fun c => by have := c.1; omega)]; exact h1
      have h4 : 0 < refsN (rmL (drL (L ++ moreL L 1 2) 2 j) 2 j) x.file := refs_mem.2 ⟨z, (look_is h3).1, by rw [hxz]⟩
      have h5 : (refsN (rmL (drL (L ++ moreL L 1 2) 2 j) 2 j) x.file == 0) = false := by simp; omega
      simpa using h5
theorem child_out (hp : ∀ x ∈ L, x.pid = 1) : ∀ j, drO (L ++ moreL L 1 2) 2 j = []
  | 0 => rfl
  | j + 1 => by
    show drO (L ++ moreL L 1 2) 2 j ++ (if clsB (drL (L ++ moreL L 1 2) 2 j) 2 j then [((getX (drL (L ++ moreL L 1 2) 2 j) 2 j).kind, (getX (drL (L ++ moreL L 1 2) 2 j) 2 j).thing)] else []) = []
    rw [child_out hp j, child_not hp j]
    rfl
theorem child_fork (hp : ∀ x ∈ L, x.pid = 1) : fork9E L 1 2 = 0 := by
  unfold fork9E
  rw [if_neg (by decide), if_neg (fun ⟨x, hx, e⟩ => by have := hp x hx; omega)]
theorem child_again (hp : ∀ x ∈ L, x.pid = 1) : (L = [] ∧ fork9E (L ++ moreL L 1 2) 1 2 = 0) ∨ (L ≠ [] ∧ fork9E (L ++ moreL L 1 2) 1 2 = 2) := by
  cases L with
  | nil => exact .inl ⟨rfl, rfl⟩
  | cons x L =>
    refine .inr ⟨by simp, ?_⟩
    unfold fork9E
    rw [if_neg (by decide), if_pos ⟨{ x with pid := 2 }, List.mem_append_right _ (more_mem.2 ⟨x, by simp, hp x (by simp), rfl⟩), rfl⟩]
theorem child_cnt (hw : WF L n) (hp : ∀ x ∈ L, x.pid = 1) : cntN (drL (L ++ moreL L 1 2) 2 8) n = cntN L n := by
  have h1 := dr_cnt (hw.fork (child_fork hp)) 2 8
  rw [child_out hp] at h1
  rw [cnt_more (fun y hy => by obtain ⟨x, hx, _, rfl⟩ := more_mem.1 hy; exact ⟨x, hx, rfl⟩)] at h1
  simpa using h1.symm
theorem cnt_pos (hw : WF L n) : 0 < cntN L n ↔ L ≠ [] := by
  constructor
  · rintro h rfl
    rw [cntN_nil] at h
    omega
  · intro h
    obtain ⟨x, hx⟩ := List.exists_mem_of_ne_nil L h
    have ho := hw.ok x hx
    have key : ∀ {m f : Nat}, 1 ≤ f → f ≤ m → 0 < refsN L f → 0 < cntN L m := by
      intro m
      induction m with
      | zero => intro f h1 h2; omega
      | succ m ih =>
        intro f h1 h2 h3
        rw [show cntN L (m + 1) = cntN L m + (if 0 < refsN L (m + 1 : Nat) then 1 else 0) from rfl]
        by_cases c : f = m + 1
        · subst c; rw [if_pos h3]; omega
        · have := ih h1 (by omega) h3; omega
    exact key (f := x.file.toNat) (by omega) (by omega) (refs_mem.2 ⟨x, hx, by omega⟩)
end

/-! ### duplicates -/
def dupsL (k t : Int) : Nat → Nat → List FV
  | _, 0 => []
  | a, m + 1 => ⟨3, a, 1, k, t⟩ :: dupsL k t (a + 1) m
section
variable {k t : Int}
theorem dups_more : ∀ (m a : Nat), dupsL k t a m ++ [⟨3, (a + m : Nat), 1, k, t⟩] = dupsL k t a (m + 1)
  | 0, a => rfl
  | m + 1, a => by
    show ⟨3, a, 1, k, t⟩ :: (dupsL k t (a + 1) m ++ [⟨3, (a + (m + 1) : Nat), 1, k, t⟩]) = _
    rw [show a + (m + 1) = a + 1 + m by omega, dups_more m (a + 1)]
    rfl
theorem dups_len : ∀ (m a : Nat), (dupsL k t a m).length = m
  | 0, _ => rfl
  | m + 1, a => by show (dupsL k t (a + 1) m).length + 1 = m + 1; rw [dups_len m]
theorem dups_look : ∀ (m a i : Nat), a ≤ i → i < a + m → look (dupsL k t a m) 3 i = some ⟨3, i, 1, k, t⟩
  | 0, a, i, h1, h2 => by omega
  | m + 1, a, i, h1, h2 => by
    unfold look
    rw [show dupsL k t a (m + 1) = ⟨3, a, 1, k, t⟩ :: dupsL k t (a + 1) m from rfl, List.find?_cons]
    by_cases c : i = a
    · subst c
      rw [show FV.is 3 i ⟨3, i, 1, k, t⟩ = true from is_iff.2 ⟨rfl, rfl⟩]
    · rw [is_no (fun e => c (by have := e.2; dsimp only at this; omega))]
      exact dups_look m (a + 1) i (by omega) (by omega)
theorem dups_off : ∀ (m a i : Nat), (i < a ∨ a + m ≤ i) → look (dupsL k t a m) 3 i = none
  | 0, a, i, h => rfl
  | m + 1, a, i, h => by
    unfold look
    rw [show dupsL k t a (m + 1) = ⟨3, a, 1, k, t⟩ :: dupsL k t (a + 1) m from rfl, List.find?_cons, is_no (fun e => by have := e.2; dsimp only at this; omega)]
    exact dups_off m (a + 1) i (by omega)
theorem dups_free {m : Nat} (h : m < 8) : freeI (dupsL k t 0 m) 3 = m := by
  refine least_yes (by decide) h (fun i hi => getE_zero.2 ⟨by decide, _, dups_look m 0 i (by omega) (by omega)⟩) (fun e => ?_)
  obtain ⟨_, x, hx⟩ := getE_zero.1 e
  rw [dups_off m 0 m (by omega)] at hx
  cases hx
theorem dups_full : freeI (dupsL k t 0 8) 3 = -1 := least_no fun i hi => getE_zero.2 ⟨by decide, _, dups_look 8 0 i (by omega) (by omega)⟩
theorem dups_dup {m : Nat} (h1 : 1 ≤ m) (h8 : m ≤ 8) : dupE (dupsL k t 0 m) 3 0 = (if m < 8 then 0 else 81) ∧ dupL (dupsL k t 0 m) 3 0 = dupsL k t 0 (if m < 8 then m + 1 else 8) := by
  have hl : look (dupsL k t 0 m) 3 0 = some ⟨3, 0, 1, k, t⟩ := dups_look m 0 0 (by omega) (by omega)
  have hat : ¬ atI (dupsL k t 0 m) 3 0 < 0 := by
    rcases idx_look (dupsL k t 0 m) 3 0 with ⟨a, b⟩ | ⟨i, z, a, b, _⟩
    · rw [b] at hl; cases hl
    · rw [atI_some a]; omega
  have hE : dupE (dupsL k t 0 m) 3 0 = (if m < 8 then 0 else 81) := by
    unfold dupE
    rw [if_neg (by decide), if_neg hat]
    by_cases c : m < 8
    · rw [dups_free c, if_neg (by omega), if_pos c]
    · obtain rfl : m = 8 := by omega
      rw [dups_full]; rfl
  refine ⟨hE, ?_⟩
  unfold dupL
  rw [hE]
  by_cases c : m < 8
  · rw [if_pos c, if_pos rfl, dups_free c, fdX_look, hl]
    have := dups_more (k := k) (t := t) m 0
    rw [if_pos c]
    simpa using this
  · obtain rfl : m = 8 := by omega
    rfl
theorem dups_refs : ∀ (m a : Nat), refsN (dupsL k t a m) 1 = m
  | 0, _ => rfl
  | m + 1, a => by
    unfold refsN at *
    rw [show dupsL k t a (m + 1) = ⟨3, a, 1, k, t⟩ :: dupsL k t (a + 1) m from rfl, List.countP_cons]
    have := dups_refs m (a + 1)
    unfold refsN at this
    rw [this]
    rfl
theorem dups_close {m a : Nat} : clsL (dupsL k t a (m + 1)) 3 a = dupsL k t (a + 1) m ∧ getE (dupsL k t a (m + 1)) 3 a = 0 ∧ clsB (dupsL k t a (m + 1)) 3 a = (m == 0) ∧ getX (dupsL k t a (m + 1)) 3 a = ⟨3, a, 1, k, t⟩ := by
  have hl : look (dupsL k t a (m + 1)) 3 a = some ⟨3, a, 1, k, t⟩ := dups_look (m + 1) a a (by omega) (by omega)
  have hE : getE (dupsL k t a (m + 1)) 3 a = 0 := getE_zero.2 ⟨by decide, _, hl⟩
  have hi : (dupsL k t a (m + 1)).findIdx? (FV.is 3 a) = some 0 := by
    rw [show dupsL k t a (m + 1) = ⟨3, a, 1, k, t⟩ :: dupsL k t (a + 1) m from rfl, List.findIdx?_cons, show FV.is 3 a ⟨3, a, 1, k, t⟩ = true from is_iff.2 ⟨rfl, rfl⟩]
    rfl
  have hr : rmL (dupsL k t a (m + 1)) 3 a = dupsL k t (a + 1) m := by
    rw [rmL_some hi]
    rfl
  refine ⟨by unfold clsL; rw [if_pos hE, hr], hE, ?_, by rw [getX_yes hE, fdX_look, hl]; rfl⟩
  unfold clsB
  rw [hE, hr, fdX_look, hl]
  show ((0 : Int) == 0 && refsN (dupsL k t (a + 1) m) 1 == 0) = _
  rw [dups_refs]
  rfl
end
end Go.Proofs.Ytfgigofmmapbmaa
