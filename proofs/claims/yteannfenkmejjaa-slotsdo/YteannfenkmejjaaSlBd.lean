/- Layer 11: the program's slots beside the document's own and a box of the law's: BdX; the calls of the two. -/
import Derived.Test.YteannfenkmejjaaSlWorksI
import Derived.Test.YteannfenkmejjaaRef11M
import Derived.Test.YteannfenkmejjaaRef11I
namespace Go.Proofs.Yteannfenkmejjaa
open Go.RowKit

/-- slots at p hold L; the document's own lie at q; a box of the law's own at b. -/
def BdX (g : Nat) (Sl : World → (Nat → Prop) → Nat → SlT Int → Prop) (W0 W : World) (p q b : Nat) (xs : Array Value) (L : SlT Int) (R : RT11) : Prop :=
  ∃ S, Sl W S p L ∧ (∀ k, S k → W0.heap.size ≤ k ∧ k ≠ q ∧ k ≠ b) ∧ R11 W q R ∧ (g ≤ W0.heap.size ∧ W0.heap.size ≤ q) ∧ Below W0.heap.size W0 W ∧ BoxA W b 32 xs ∧ b ≠ q
/-- the same without a box. -/
def BdP (g : Nat) (Sl : World → (Nat → Prop) → Nat → SlT Int → Prop) (W0 W : World) (p q : Nat) (R : RT11) : Prop :=
  ∃ S, Sl W S p (absT R) ∧ (∀ k, S k → W0.heap.size ≤ k ∧ k ≠ q) ∧ R11 W q R ∧ (g ≤ W0.heap.size ∧ W0.heap.size ≤ q) ∧ Below W0.heap.size W0 W
/-- the document's new one. -/
def newR : RT11 := List.replicate 8 (false, 0, 0)
section
variable {g : Nat} {Sl : World → (Nat → Prop) → Nat → SlT Int → Prop} {W0 W W' : World} {p q b : Nat} {xs : Array Value} {L L' : SlT Int} {R R' : RT11} {S : Nat → Prop}
theorem absT_new : absT newR = newS Int := rfl
theorem BdP.bel (h : BdP g Sl W0 W p q R) : Below W0.heap.size W0 W := by obtain ⟨_, _, _, _, _, h⟩ := h; exact h
theorem BdP.start (K : Works11I g Sl) (h : SsI g Sl W0 W p (newS Int)) : BdP g Sl W0 (W.alloc (.cells (refV newR) 30)) p W.heap.size newR := by
  obtain ⟨S, h1, h2, h3, h4⟩ := h
  have hl := K.lt h1
  refine ⟨S, K.keep h1 (by simp) (fun k hk => Below.heap_alloc W _ k (hl k hk)), fun k hk => ⟨h2 k hk, Nat.ne_of_lt (hl k (.inl hk))⟩, ⟨BoxA.new W _ _, by simp [newR], fun x hx => ?_⟩, ⟨h4, h3.size⟩, h3.alloc h3.size _⟩
  obtain ⟨_, rfl⟩ := List.mem_replicate.1 hx
  decide
theorem BdP.box (K : Works11I g Sl) (h : BdP g Sl W0 W p q R) (xs : Array Value) : BdX g Sl W0 (W.alloc (.cells xs 32)) p q W.heap.size xs (absT R) R := by
  obtain ⟨S, h1, h2, h3, h4, h5⟩ := h
  have hl := K.lt h1
  have hq := h3.box.lt
  exact ⟨S, K.keep h1 (by simp) (fun k hk => Below.heap_alloc W _ k (hl k hk)), fun k hk => ⟨(h2 k hk).1, (h2 k hk).2, Nat.ne_of_lt (hl k (.inl hk))⟩, h3.keep (Below.heap_alloc W _ q hq), h4, h5.alloc h5.size _, BoxA.new W _ _, by omega⟩
theorem BdX.un (h : BdX g Sl W0 W p q b xs L R) (e : absT R = L) : BdP g Sl W0 W p q R := by
  subst e
  obtain ⟨S, h1, h2, h3, h4, h5, _⟩ := h
  exact ⟨S, h1, fun k hk => ⟨(h2 k hk).1, (h2 k hk).2.1⟩, h3, h4, h5⟩
theorem BdX.bx (h : BdX g Sl W0 W p q b xs L R) : BoxA W b 32 xs := by obtain ⟨_, _, _, _, _, _, h, _⟩ := h; exact h
theorem BdX.rp (h : BdX g Sl W0 W p q b xs L R) : R11 W q R := by obtain ⟨_, _, _, h, _⟩ := h; exact h
theorem BdX.below (K : Works11I g Sl) (h : BdX g Sl W0 W p q b xs L R) (hb : Below W.heap.size W W') : BdX g Sl W0 W' p q b xs L R := by
  obtain ⟨S, h1, h2, h3, h4, h5, h6, h7⟩ := h
  exact ⟨S, K.keep h1 hb.size (fun k hk => hb.block k (K.lt h1 k hk)), h2, h3.below' hb, h4, h5.trans (hb.mono h5.size), h6.below' hb, h7⟩
theorem BdX.drew (K : Works11I g Sl) (h : BdX g Sl W0 W p q b xs L R) : BdX g Sl W0 W.drew p q b xs L R := h.below K ⟨rfl, rfl, rfl, Nat.le_refl _, fun _ _ => rfl⟩
theorem bd_p (h2 : ∀ k, S k → W0.heap.size ≤ k ∧ k ≠ q ∧ k ≠ b) (h3 : R11 W q R) (h4 : g ≤ W0.heap.size ∧ W0.heap.size ≤ q) (h5 : Below W0.heap.size W0 W) (h6 : BoxA W b 32 xs) (h7 : b ≠ q) (hp : ∃ S', Sl W' S' p L' ∧ MvS S S' W W') : BdX g Sl W0 W' p q b xs L' R := by
  obtain ⟨S', h', hm⟩ := hp
  have hq := h3.box.lt
  have hb := h6.lt
  refine ⟨S', h', fun k hk => ?_, h3.keep (hm.block q hq (fun c => (h2 q c).2.1 rfl)), h4, hm.below (fun k hk => (h2 k hk).1) h5, h6.keep (hm.block b hb (fun c => (h2 b c).2.2 rfl)), h7⟩
  rcases hm.row k hk with c | c
  · exact h2 k c
  · exact ⟨Nat.le_trans h5.size c, by omega, by omega⟩
theorem bd_d (K : Works11I g Sl) (h : BdX g Sl W0 W p q b xs L R) (hr : R11 W' q R') (ht : Tur q W W') : BdX g Sl W0 W' p q b xs L R' := by
  obtain ⟨S, h1, h2, h3, h4, h5, h6, h7⟩ := h
  exact ⟨S, K.keep h1 ht.size (fun k hk => ht.block k (K.lt h1 k hk) (by rcases hk with c | c; exact (h2 k c).2.1; omega)), h2, hr, h4, ht.below h5 h4.2 h5.size, h6.keep (ht.block b h6.lt h7), h7⟩

theorem bd_add (K : Works11I g Sl) (h : BdX g Sl W0 W p q b xs L R) (v : Int) : Calls Try.prog 13 #[.pointer (some ⟨p, 0, none⟩), .int .i64 v] W fun e W' => e = .returned (.tuple #[.int .i64 (addN L), .int .i64 (addE L)]) ∧ BdX g Sl W0 W' p q b xs (addL L v) R := by
  obtain ⟨S, h1, h2, h3, h4, h5, h6, h7⟩ := h
  refine (K.add h1 v).mono ?_
  rintro e W' ⟨rfl, h⟩
  exact ⟨rfl, bd_p h2 h3 h4 h5 h6 h7 h⟩
theorem bd_set (K : Works11I g Sl) (h : BdX g Sl W0 W p q b xs L R) (id v : Int) : Calls Try.prog 17 #[.pointer (some ⟨p, 0, none⟩), .int .i64 id, .int .i64 v] W fun e W' => e = .returned (.int .i64 (getE L id)) ∧ BdX g Sl W0 W' p q b xs (setL L id v) R := by
  obtain ⟨S, h1, h2, h3, h4, h5, h6, h7⟩ := h
  refine (K.set h1 id v).mono ?_
  rintro e W' ⟨rfl, h⟩
  exact ⟨rfl, bd_p h2 h3 h4 h5 h6 h7 h⟩
theorem bd_rem (K : Works11I g Sl) (h : BdX g Sl W0 W p q b xs L R) (id : Int) : Calls Try.prog 19 #[.pointer (some ⟨p, 0, none⟩), .int .i64 id] W fun e W' => e = .returned (.tuple #[.int .i64 (getV 0 L id), .int .i64 (getE L id)]) ∧ BdX g Sl W0 W' p q b xs (remL L id) R := by
  obtain ⟨S, h1, h2, h3, h4, h5, h6, h7⟩ := h
  refine (K.rem h1 id).mono ?_
  rintro e W' ⟨rfl, h⟩
  exact ⟨rfl, bd_p h2 h3 h4 h5 h6 h7 h⟩
theorem bd_get (K : Works11I g Sl) (h : BdX g Sl W0 W p q b xs L R) (id : Int) : Calls Try.prog 15 #[.pointer (some ⟨p, 0, none⟩), .int .i64 id] W fun e W' => e = .returned (.tuple #[.int .i64 (getV 0 L id), .int .i64 (getE L id)]) ∧ BdX g Sl W0 W' p q b xs L R := by
  have h' := h
  obtain ⟨S, h1, _⟩ := h
  refine (K.get h1 id).mono ?_
  rintro e W' ⟨rfl, hb⟩
  exact ⟨rfl, h'.below K hb⟩
theorem bd_ids (K : Works11I g Sl) (h : BdX g Sl W0 W p q b xs L R) : Calls Try.prog 22 #[.pointer (some ⟨p, 0, none⟩)] W fun e W' => ∃ v, e = .returned v ∧ LsI W' 0 v (idsL L) ∧ BdX g Sl W0 W' p q b xs L R := by
  have h' := h
  obtain ⟨S, h1, _⟩ := h
  refine (K.ids h1).mono ?_
  rintro e W' ⟨v, rfl, hl, hb⟩
  exact ⟨v, rfl, hl.mono (Nat.zero_le _), h'.below K hb⟩
theorem dd_add (K : Works11I g Sl) (h : BdX g Sl W0 W p q b xs L' R) (v : Int) : Calls Try.prog 14 #[.pointer (some ⟨q, 0, none⟩), .int .i64 v] W fun e W' => e = .returned (.tuple #[.int .i64 (addN (absT R)), .int .i64 (addE (absT R))]) ∧ ∃ R', absT R' = addL (absT R) v ∧ BdX g Sl W0 W' p q b xs L' R' := by
  refine (radd11 h.rp v).mono ?_
  rintro e W' ⟨rfl, ⟨R', hr, e⟩, ht⟩
  exact ⟨rfl, R', e, bd_d K h hr ht⟩
theorem dd_set (K : Works11I g Sl) (h : BdX g Sl W0 W p q b xs L' R) (id v : Int) : Calls Try.prog 18 #[.pointer (some ⟨q, 0, none⟩), .int .i64 id, .int .i64 v] W fun e W' => e = .returned (.int .i64 (getE (absT R) id)) ∧ ∃ R', absT R' = setL (absT R) id v ∧ BdX g Sl W0 W' p q b xs L' R' := by
  refine (rset11 h.rp id v).mono ?_
  rintro e W' ⟨rfl, ⟨R', hr, e⟩, ht⟩
  exact ⟨rfl, R', e, bd_d K h hr ht⟩
theorem dd_rem (K : Works11I g Sl) (h : BdX g Sl W0 W p q b xs L' R) (id : Int) : Calls Try.prog 20 #[.pointer (some ⟨q, 0, none⟩), .int .i64 id] W fun e W' => e = .returned (.tuple #[.int .i64 (getV 0 (absT R) id), .int .i64 (getE (absT R) id)]) ∧ ∃ R', absT R' = remL (absT R) id ∧ BdX g Sl W0 W' p q b xs L' R' := by
  refine (rrem11 h.rp id).mono ?_
  rintro e W' ⟨rfl, ⟨R', hr, e⟩, ht⟩
  exact ⟨rfl, R', e, bd_d K h hr ht⟩
theorem dd_get (h : BdX g Sl W0 W p q b xs L' R) (id : Int) : Calls Try.prog 16 #[.pointer (some ⟨q, 0, none⟩), .int .i64 id] W fun e W' => e = .returned (.tuple #[.int .i64 (getV 0 (absT R) id), .int .i64 (getE (absT R) id)]) ∧ W' = W := rget11 h.rp id
theorem dd_ids (K : Works11I g Sl) (h : BdX g Sl W0 W p q b xs L' R) : Calls Try.prog 12 #[.pointer (some ⟨q, 0, none⟩)] W fun e W' => ∃ v, e = .returned v ∧ LsI W' 0 v (idsL (absT R)) ∧ BdX g Sl W0 W' p q b xs L' R ∧ Below W.heap.size W W' := by
  refine (rids11 h.rp).mono ?_
  rintro e W' ⟨v, rfl, hl, hb⟩
  exact ⟨v, rfl, hl.mono (Nat.zero_le _), h.below K hb, hb⟩
end
end Go.Proofs.Yteannfenkmejjaa
