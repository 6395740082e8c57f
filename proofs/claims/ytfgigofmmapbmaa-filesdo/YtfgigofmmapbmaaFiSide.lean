/- Layer 9: a law's own blocks beside a Files: its calls leave them alone. -/
import Derived.Test.YtfgigofmmapbmaaFiWorks
namespace Go.Proofs.Ytfgigofmmapbmaa
open Go.RowKit

/-- a Files, and beside it blocks that hold what C says. -/
def FiA (Fi : World → (Nat → Prop) → Nat → List FV → Nat → Prop) (C : Nat → Option Obj) (w : World) (S' : Nat → Prop) (p : Nat) (L : List FV) (n : Nat) : Prop :=
  ∃ S, S' = (fun k => S k ∨ (C k).isSome = true) ∧ Fi w S p L n ∧ ∀ k o, C k = some o → ¬ S k ∧ w.heap[k]? = some o
section
variable {Fi : World → (Nat → Prop) → Nat → List FV → Nat → Prop} {C : Nat → Option Obj} {w w' w0 : World} {S S1 : Nat → Prop} {p n n' : Nat} {L L' : List FV}
theorem fia_mv (hC : ∀ k o, C k = some o → ¬ S k ∧ w.heap[k]? = some o) (h : ∃ S1, Fi w' S1 p L' n' ∧ MvS S S1 w w') :
    ∃ S2, FiA Fi C w' S2 p L' n' ∧ MvS (fun k => S k ∨ (C k).isSome = true) S2 w w' := by
  obtain ⟨S1, h1, hm⟩ := h
  refine ⟨_, ⟨S1, rfl, h1, fun k o hk => ?_⟩, hm.os, hm.tape, hm.output, hm.size, fun k hk hS => hm.block k hk (fun c => hS (.inl c)), fun k hk => ?_⟩
  · obtain ⟨h2, h3⟩ := hC k o hk
    have hlt := (Array.getElem?_eq_some_iff.1 h3).1
    refine ⟨fun c => ?_, (hm.block k hlt h2).trans h3⟩
    rcases hm.row k c with e | e
    · exact h2 e
    · omega
  · rcases hk with e | e
    · rcases hm.row k e with c | c
      · exact .inl (.inl c)
      · exact .inr c
    · exact .inl (.inr e)
theorem works_side (W : Works Fi) (C : Nat → Option Obj) : Works (FiA Fi C) where
  keep := by
    rintro w w' _ p L n ⟨S, rfl, h, hC⟩ hs hk
    exact ⟨S, rfl, W.keep h hs (fun k e => hk k (.inl e)), fun k o e => ⟨(hC k o e).1, (hk k (.inr (by rw [e]; rfl))).trans (hC k o e).2⟩⟩
  lt := by
    rintro w _ p L n ⟨S, rfl, h, hC⟩ k (e | e)
    · exact W.lt h k e
    · obtain ⟨o, ho⟩ := Option.isSome_iff_exists.1 e
      exact (Array.getElem?_eq_some_iff.1 (hC k o ho).2).1
  wf := by
    rintro w _ p L n ⟨S, rfl, h, hC⟩
    exact W.wf h
  opn := by
    rintro w _ p L n ⟨S, rfl, h, hC⟩ hl hn P k t
    refine (W.opn h hl hn P k t).mono ?_
    rintro e w' ⟨rfl, h'⟩
    exact ⟨rfl, fia_mv hC h'⟩
  dup := by
    rintro w _ p L n ⟨S, rfl, h, hC⟩ hl hn P d
    refine (W.dup h hl hn P d).mono ?_
    rintro e w' ⟨rfl, h'⟩
    exact ⟨rfl, fia_mv hC h'⟩
  cls := by
    rintro w _ p L n ⟨S, rfl, h, hC⟩ hl hn P d
    refine (W.cls h hl hn P d).mono ?_
    rintro e w' ⟨rfl, h'⟩
    exact ⟨rfl, fia_mv hC h'⟩
  get := by
    rintro w _ p L n ⟨S, rfl, h, hC⟩ hl hn P d
    exact W.get h hl hn P d
  fork := by
    rintro w _ p L n ⟨S, rfl, h, hC⟩ hl hn P c
    refine (W.fork h hl hn P c).mono ?_
    rintro e w' ⟨rfl, h'⟩
    exact ⟨rfl, fia_mv hC h'⟩
  drop := by
    rintro w _ p L n ⟨S, rfl, h, hC⟩ hl hn P
    refine (W.drop h hl hn P).mono ?_
    rintro e w' ⟨u, rfl, hu, h'⟩
    exact ⟨u, rfl, hu, fia_mv hC h'⟩
  count := by
    rintro w _ p L n ⟨S, rfl, h, hC⟩ hl hn
    exact W.count h hl hn

/-- one block. -/
def one9 (b : Nat) (o : Obj) : Nat → Option Obj := fun k => if k = b then some o else none
theorem one9_some {b k : Nat} {o o' : Obj} (h : one9 b o k = some o') : k = b ∧ o' = o := by
  unfold one9 at h
  split at h
  · exact ⟨by assumption, (Option.some.inj h).symm⟩
  · cases h
/-- a block made. -/
theorem St.side (W : Works Fi) (h : St Fi w0 w p L n) (o : Obj) : St (FiA Fi (one9 w.heap.size o)) w0 (w.alloc o) p L n := by
  obtain ⟨S, h1, h2, h3⟩ := h
  have hl := W.lt h1
  refine ⟨_, ⟨S, rfl, W.keep h1 (by simp) (fun k hk => Below.heap_alloc w o k (hl k hk)), fun k o' e => ?_⟩, fun k hk => ?_, h3.alloc h3.size o⟩
  · obtain ⟨rfl, rfl⟩ := one9_some e
    exact ⟨fun c => by have := hl _ c; omega, heap_alloc_new w _⟩
  · rcases hk with c | c
    · exact h2 k c
    · obtain ⟨o', e⟩ := Option.isSome_iff_exists.1 c
      obtain ⟨rfl, -⟩ := one9_some e
      exact h3.size
theorem St.un (h : St (FiA Fi C) w0 w p L n) : St Fi w0 w p L n := by
  obtain ⟨_, ⟨S, rfl, h, hC⟩, h2, h3⟩ := h
  exact ⟨S, h, fun k hk => h2 k (.inl hk), h3⟩
theorem St.holds {b : Nat} {o : Obj} (h : St (FiA Fi (one9 b o)) w0 w p L n) : w.heap[b]? = some o := by
  obtain ⟨_, ⟨S, rfl, h, hC⟩, h2, h3⟩ := h
  exact (hC b o (by unfold one9; rw [if_pos rfl])).2
theorem St.sideBox {b : Nat} {xs : Array Value} {t : TypeId} (h : St (FiA Fi (one9 b (.cells xs t))) w0 w p L n) : BoxA w b t xs := ⟨h.holds⟩
/-- a store into a block beside. -/
theorem St.sideSet (W : Works Fi) {b : Nat} {xs : Array Value} {t : TypeId} (h : St (FiA Fi (one9 b (.cells xs t))) w0 w p L n) (i : Nat) (v : Value) : St (FiA Fi (one9 b (.cells (xs.setIfInBounds i v) t))) w0 (w.setCell ⟨b, i, none⟩ v) p L n := by
  have hb := h.sideBox
  obtain ⟨_, ⟨S, rfl, h, hC⟩, h2, h3⟩ := h
  have hb0 : w0.heap.size ≤ b := h2 b (.inr (by unfold one9; rw [if_pos rfl]; rfl))
  have hnb := (hC b _ (by unfold one9; rw [if_pos rfl])).1
  refine ⟨_, ⟨S, rfl, W.keep h (by simp) (fun k hk => heap_setCell_other _ _ _ _ (show k ≠ b from fun c => hnb (by rw [← c]; exact hk))), fun k o' e => ?_⟩, fun k hk => ?_, h3.setCell (p := ⟨b, i, none⟩) hb0 v⟩
  · obtain ⟨rfl, rfl⟩ := one9_some e
    exact ⟨hnb, (hb.set i v).blk⟩
  · rcases hk with c | c
    · exact h2 k (.inl c)
    · obtain ⟨o', e⟩ := Option.isSome_iff_exists.1 c
      obtain ⟨rfl, -⟩ := one9_some e
      exact hb0
/-- two blocks. -/
def two9 (b : Nat) (o : Obj) (c : Nat) (o' : Obj) : Nat → Option Obj := fun k => if k = b then some o else if k = c then some o' else none
theorem St.holdsAt {b : Nat} {o : Obj} (h : St (FiA Fi C) w0 w p L n) (hC : C b = some o) : w.heap[b]? = some o := by
  obtain ⟨_, ⟨S, rfl, h, hk⟩, h2, h3⟩ := h
  exact (hk b o hC).2
theorem St.side2 (W : Works Fi) {b : Nat} {o : Obj} (h : St (FiA Fi (one9 b o)) w0 w p L n) (o' : Obj) : St (FiA Fi (two9 b o w.heap.size o')) w0 (w.alloc o') p L n := by
  have hbo := h.holds
  have hlt := (Array.getElem?_eq_some_iff.1 hbo).1
  obtain ⟨_, ⟨S, rfl, h, hC⟩, h2, h3⟩ := h
  have hl := W.lt h
  refine ⟨_, ⟨S, rfl, W.keep h (by simp) (fun k hk => Below.heap_alloc w o' k (hl k hk)), fun k q e => ?_⟩, fun k hk => ?_, h3.alloc h3.size o'⟩
  · unfold two9 at e
    split at e
    · cases e
      rename_i hk
      subst hk
      exact ⟨(hC k o (by unfold one9; rw [if_pos rfl])).1, (Below.heap_alloc w o' k hlt).trans hbo⟩
    · split at e
      · cases e
        rename_i hk
        subst hk
        exact ⟨fun c => by have := hl _ c; omega, heap_alloc_new w _⟩
      · cases e
  · rcases hk with c | c
    · exact h2 k (.inl c)
    · obtain ⟨q, e⟩ := Option.isSome_iff_exists.1 c
      unfold two9 at e
      split at e
      · rename_i hk
        subst hk
        exact h2 k (.inr (by unfold one9; rw [if_pos rfl]; rfl))
      · split at e
        · rename_i hk
          subst hk
          exact h3.size
        · cases e
/-- a store into a block beside. -/
theorem St.sideStore (W : Works Fi) {b : Nat} {xs : Array Value} {t : TypeId} {C' : Nat → Option Obj} (h : St (FiA Fi C) w0 w p L n) (hC : C b = some (.cells xs t)) (i : Nat) (v : Value) (h' : C' b = some (.cells (xs.setIfInBounds i v) t)) (ho : ∀ k, k ≠ b → C' k = C k) : St (FiA Fi C') w0 (w.setCell ⟨b, i, none⟩ v) p L n := by
  have hb : BoxA w b t xs := ⟨h.holdsAt hC⟩
  obtain ⟨_, ⟨S, rfl, h, hK⟩, h2, h3⟩ := h
  have hb0 : w0.heap.size ≤ b := h2 b (.inr (by rw [hC]; rfl))
  have hnb := (hK b _ hC).1
  refine ⟨_, ⟨S, rfl, W.keep h (by simp) (fun k hk => heap_setCell_other _ _ _ _ (show k ≠ b from fun c => hnb (by rw [← c]; exact hk))), fun k o' e => ?_⟩, fun k hk => ?_, h3.setCell (p := ⟨b, i, none⟩) hb0 v⟩
  · by_cases c : k = b
    · subst c
      rw [h'] at e
      cases e
      exact ⟨hnb, (hb.set i v).blk⟩
    · rw [ho k c] at e
      exact ⟨(hK k o' e).1, (heap_setCell_other _ _ _ _ c).trans (hK k o' e).2⟩
  · rcases hk with c | c
    · exact h2 k (.inl c)
    · by_cases e : k = b
      · rw [e]; exact hb0
      · rw [ho k e] at c
        exact h2 k (.inr c)
section
variable {b c : Nat} {xs ys : Array Value} {s t : TypeId}
theorem St.boxA (h : St (FiA Fi (two9 b (.cells xs s) c (.cells ys t))) w0 w p L n) : BoxA w b s xs := ⟨h.holdsAt (by unfold two9; rw [if_pos rfl])⟩
theorem St.boxB (h : St (FiA Fi (two9 b (.cells xs s) c (.cells ys t))) w0 w p L n) (hne : c ≠ b) : BoxA w c t ys := ⟨h.holdsAt (by unfold two9; rw [if_neg hne, if_pos rfl])⟩
theorem St.setA (W : Works Fi) (h : St (FiA Fi (two9 b (.cells xs s) c (.cells ys t))) w0 w p L n) (i : Nat) (v : Value) : St (FiA Fi (two9 b (.cells (xs.setIfInBounds i v) s) c (.cells ys t))) w0 (w.setCell ⟨b, i, none⟩ v) p L n :=
  h.sideStore W (b := b) (by unfold two9; rw [if_pos rfl]) i v (by unfold two9; rw [if_pos rfl]) (fun k hk => by unfold two9; rw [if_neg hk, if_neg hk])
theorem St.setB (W : Works Fi) (h : St (FiA Fi (two9 b (.cells xs s) c (.cells ys t))) w0 w p L n) (hne : c ≠ b) (i : Nat) (v : Value) : St (FiA Fi (two9 b (.cells xs s) c (.cells (ys.setIfInBounds i v) t))) w0 (w.setCell ⟨c, i, none⟩ v) p L n :=
  h.sideStore W (b := c) (by unfold two9; rw [if_neg hne, if_pos rfl]) i v (by unfold two9; rw [if_neg hne, if_pos rfl]) (fun k hk => by unfold two9; rw [if_neg hk, if_neg hk])
end
end
end Go.Proofs.Ytfgigofmmapbmaa
