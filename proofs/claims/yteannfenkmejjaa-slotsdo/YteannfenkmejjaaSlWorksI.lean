/- Layer 11: what the laws ask of package slots, of int (Works11I: its calls as functions on eight slots), whatever it looks like in memory. -/
import Derived.Test.YteannfenkmejjaaSlMv
namespace Go.Proofs.Yteannfenkmejjaa
open Go.RowKit

/-- (g: the blocks below g, a package's own variables among them, no call turns.) -/
structure Works11I (g : Nat) (Sl : World → (Nat → Prop) → Nat → SlT Int → Prop) : Prop where
  keep : ∀ {W W' : World} {S : Nat → Prop} {p : Nat} {L : SlT Int}, Sl W S p L → W.heap.size ≤ W'.heap.size → (∀ k, S k ∨ k < g → W'.heap[k]? = W.heap[k]?) → Sl W' S p L
  lt : ∀ {W : World} {S : Nat → Prop} {p : Nat} {L : SlT Int}, Sl W S p L → ∀ k, S k ∨ k < g → k < W.heap.size
  ok : ∀ {W : World} {S : Nat → Prop} {p : Nat} {L : SlT Int}, Sl W S p L → SOk L
  add : ∀ {W : World} {S : Nat → Prop} {p : Nat} {L : SlT Int}, Sl W S p L → ∀ v : Int, Calls Try.prog 13 #[.pointer (some ⟨p, 0, none⟩), (.int .i64 v)] W fun e W' =>
    e = .returned (.tuple #[.int .i64 (addN L), .int .i64 (addE L)]) ∧ ∃ S', Sl W' S' p (addL L v) ∧ MvS S S' W W'
  get : ∀ {W : World} {S : Nat → Prop} {p : Nat} {L : SlT Int}, Sl W S p L → ∀ id : Int, Calls Try.prog 15 #[.pointer (some ⟨p, 0, none⟩), .int .i64 id] W fun e W' =>
    e = .returned (.tuple #[encI (getV (0 : Int) L id), .int .i64 (getE L id)]) ∧ Below W.heap.size W W'
  set : ∀ {W : World} {S : Nat → Prop} {p : Nat} {L : SlT Int}, Sl W S p L → ∀ (id : Int) (v : Int), Calls Try.prog 17 #[.pointer (some ⟨p, 0, none⟩), .int .i64 id, (.int .i64 v)] W fun e W' =>
    e = .returned (.int .i64 (getE L id)) ∧ ∃ S', Sl W' S' p (setL L id v) ∧ MvS S S' W W'
  rem : ∀ {W : World} {S : Nat → Prop} {p : Nat} {L : SlT Int}, Sl W S p L → ∀ id : Int, Calls Try.prog 19 #[.pointer (some ⟨p, 0, none⟩), .int .i64 id] W fun e W' =>
    e = .returned (.tuple #[encI (getV (0 : Int) L id), .int .i64 (getE L id)]) ∧ ∃ S', Sl W' S' p (remL L id) ∧ MvS S S' W W'
  ids : ∀ {W : World} {S : Nat → Prop} {p : Nat} {L : SlT Int}, Sl W S p L → Calls Try.prog 22 #[.pointer (some ⟨p, 0, none⟩)] W fun e W' =>
    ∃ v, e = .returned v ∧ LsI W' W.heap.size v (idsL L) ∧ Below W.heap.size W W'
/-- New makes eight free ones. -/
def New11I (g : Nat) (Sl : World → (Nat → Prop) → Nat → SlT Int → Prop) (W0 : World) : Prop := g ≤ W0.heap.size ∧ ∀ W : World, Below W0.heap.size W0 W → Calls Try.prog 10 #[] W fun e W' => ∃ p S, e = .returned (.pointer (some ⟨p, 0, none⟩)) ∧ Sl W' S p (newS Int) ∧ (∀ k, S k → W.heap.size ≤ k) ∧ Below W.heap.size W W'

section
variable {g : Nat} {Sl : World → (Nat → Prop) → Nat → SlT Int → Prop}
/-- a law's own. -/
def SsI (g : Nat) (Sl : World → (Nat → Prop) → Nat → SlT Int → Prop) (W0 W : World) (p : Nat) (L : SlT Int) : Prop := ∃ S, Sl W S p L ∧ (∀ k, S k → W0.heap.size ≤ k) ∧ Below W0.heap.size W0 W ∧ g ≤ W0.heap.size
variable {W0 W W' : World} {S S' : Nat → Prop} {p : Nat} {L L' : SlT Int}
theorem SsI.bel (h : SsI g Sl W0 W p L) : Below W0.heap.size W0 W := by obtain ⟨_, _, _, h, _⟩ := h; exact h
theorem SsI.ok (K : Works11I g Sl) (h : SsI g Sl W0 W p L) : SOk L := by obtain ⟨_, h, _⟩ := h; exact K.ok h
theorem SsI.below (K : Works11I g Sl) (h : SsI g Sl W0 W p L) (hb : Below W.heap.size W W') : SsI g Sl W0 W' p L := by
  obtain ⟨S, h1, h2, h3, h4⟩ := h
  exact ⟨S, K.keep h1 hb.size (fun k hk => hb.block k (K.lt h1 k hk)), h2, h3.trans (hb.mono h3.size), h4⟩
theorem SsI.drew (K : Works11I g Sl) (h : SsI g Sl W0 W p L) : SsI g Sl W0 W.drew p L := h.below K ⟨rfl, rfl, rfl, Nat.le_refl _, fun _ _ => rfl⟩
theorem ss_mvI (hS : ∀ k, S k → W0.heap.size ≤ k) (hB : Below W0.heap.size W0 W) (hg : g ≤ W0.heap.size) (h : ∃ S', Sl W' S' p L' ∧ MvS S S' W W') : SsI g Sl W0 W' p L' := by
  obtain ⟨S', h1, hm⟩ := h
  exact ⟨S', h1, hm.lo hS hB, hm.below hS hB, hg⟩
theorem ss_newI (K : New11I g Sl W0) (hB : Below W0.heap.size W0 W) : Calls Try.prog 10 #[] W fun e W' => ∃ p, e = .returned (.pointer (some ⟨p, 0, none⟩)) ∧ SsI g Sl W0 W' p (newS Int) := by
  refine (K.2 W hB).mono ?_
  rintro e W' ⟨p, S, rfl, h1, h2, h3⟩
  exact ⟨p, rfl, S, h1, fun k hk => Nat.le_trans hB.size (h2 k hk), hB.trans (h3.mono hB.size), K.1⟩
theorem ss_addI (K : Works11I g Sl) (h : SsI g Sl W0 W p L) (v : Int) : Calls Try.prog 13 #[.pointer (some ⟨p, 0, none⟩), (.int .i64 v)] W fun e W' => e = .returned (.tuple #[.int .i64 (addN L), .int .i64 (addE L)]) ∧ SsI g Sl W0 W' p (addL L v) := by
  obtain ⟨S, h1, h2, h3, h4⟩ := h
  refine (K.add h1 v).mono ?_
  rintro e W' ⟨rfl, h⟩
  exact ⟨rfl, ss_mvI h2 h3 h4 h⟩
theorem ss_getI (K : Works11I g Sl) (h : SsI g Sl W0 W p L) (id : Int) : Calls Try.prog 15 #[.pointer (some ⟨p, 0, none⟩), .int .i64 id] W fun e W' => e = .returned (.tuple #[encI (getV (0 : Int) L id), .int .i64 (getE L id)]) ∧ SsI g Sl W0 W' p L := by
  have h' := h
  obtain ⟨S, h1, _⟩ := h
  refine (K.get h1 id).mono ?_
  rintro e W' ⟨rfl, hb⟩
  exact ⟨rfl, h'.below K hb⟩
theorem ss_setI (K : Works11I g Sl) (h : SsI g Sl W0 W p L) (id : Int) (v : Int) : Calls Try.prog 17 #[.pointer (some ⟨p, 0, none⟩), .int .i64 id, (.int .i64 v)] W fun e W' => e = .returned (.int .i64 (getE L id)) ∧ SsI g Sl W0 W' p (setL L id v) := by
  obtain ⟨S, h1, h2, h3, h4⟩ := h
  refine (K.set h1 id v).mono ?_
  rintro e W' ⟨rfl, h⟩
  exact ⟨rfl, ss_mvI h2 h3 h4 h⟩
theorem ss_remI (K : Works11I g Sl) (h : SsI g Sl W0 W p L) (id : Int) : Calls Try.prog 19 #[.pointer (some ⟨p, 0, none⟩), .int .i64 id] W fun e W' => e = .returned (.tuple #[encI (getV (0 : Int) L id), .int .i64 (getE L id)]) ∧ SsI g Sl W0 W' p (remL L id) := by
  obtain ⟨S, h1, h2, h3, h4⟩ := h
  refine (K.rem h1 id).mono ?_
  rintro e W' ⟨rfl, h⟩
  exact ⟨rfl, ss_mvI h2 h3 h4 h⟩
theorem ss_idsI (K : Works11I g Sl) (h : SsI g Sl W0 W p L) : Calls Try.prog 22 #[.pointer (some ⟨p, 0, none⟩)] W fun e W' => ∃ v, e = .returned v ∧ LsI W' W.heap.size v (idsL L) ∧ SsI g Sl W0 W' p L ∧ Below W.heap.size W W' := by
  have h' := h
  obtain ⟨S, h1, _⟩ := h
  refine (K.ids h1).mono ?_
  rintro e W' ⟨v, rfl, hl, hb⟩
  exact ⟨v, rfl, hl, h'.below K hb, hb⟩
end
end Go.Proofs.Yteannfenkmejjaa
