/- Layer 8: what a round of Put or of Get turns. -/
import Derived.Test.YtpfldelmbigmbaaDoorRiIter
namespace Go.Proofs.YtpfldelmbigmbaaDoor
open Go.RowKit

theorem RAt.inj {w : World} {q n fa la n' fa' la' : Nat} {fo lo fo' lo' : Bool} {X X' : List UInt8} (h : RAt w q X n fa fo la lo) (h' : RAt w q X' n' fa' fo' la' lo') : n' = n ∧ fa' = fa ∧ fo' = fo ∧ la' = la ∧ lo' = lo := by
  have e1 := h.c64.symm.trans h'.c64; have e2 := h.c65.symm.trans h'.c65; have e3 := h.c66.symm.trans h'.c66; have e4 := h.c67.symm.trans h'.c67; have e5 := h.c68.symm.trans h'.c68
  simp at e1 e2 e3 e4 e5
  exact ⟨by omega, by omega, e3.symm, by omega, e5.symm⟩

/-- what a round leaves alone: bookkeeping, ends, pointers to rings. -/
def Lft (o : Obj) : Prop := o.isCells = false ∨ ∃ cs t fr, o = Obj.cells cs t fr ∧ (t = 68 ∨ t = 49)
structure Ch (W W' : World) : Prop where
  size : W.heap.size ≤ W'.heap.size
  left : ∀ (k : Nat) o, W.heap[k]? = some o → Lft o → W'.heap[k]? = some o
section
variable {w W W' : World} {q : Nat}
theorem Ch.refl (W : World) : Ch W W := ⟨Nat.le_refl _, fun _ _ h _ => h⟩
theorem Ch.trans {A B C : World} (h : Ch A B) (k : Ch B C) : Ch A C := ⟨Nat.le_trans h.size k.size, fun i o hi ho => k.left i o (h.left i o hi ho) ho⟩
theorem Ch.but {cs : Array Value} {t : TypeId} {fr : Nat × Nat} (b : Nat) (hs : W.heap.size ≤ W'.heap.size) (hb : W.heap[b]? = some (Obj.cells cs t fr)) (h1 : t ≠ 68) (h2 : t ≠ 49)
    (h : ∀ k, k < W.heap.size → k ≠ b → W'.heap[k]? = W.heap[k]?) : Ch W W' :=
  ⟨hs, fun k o hk ho => by
    refine (h k (Array.getElem?_eq_some_iff.1 hk).1 (fun e => ?_)).trans hk
    subst e
    rw [hb] at hk
    cases hk
    rcases ho with ho | ⟨cs', t', fr', e, ht⟩
    · cases ho
    · cases e
      rcases ht with ht | ht
      · exact h1 ht
      · exact h2 ht⟩
theorem Ch.all (hs : W.heap.size ≤ W'.heap.size) (h : ∀ k, k < W.heap.size → W'.heap[k]? = W.heap[k]?) : Ch W W' := ⟨hs, fun k _ hk _ => (h k (Array.getElem?_eq_some_iff.1 hk).1).trans hk⟩
theorem Ch.drew (W : World) : Ch W W.drew := Ch.all (Nat.le_refl _) (fun _ _ => rfl)
theorem Ch.alloc (W : World) (o : Obj) : Ch W (W.alloc o) := Ch.all (by simp) (fun k hk => Below.heap_alloc W o k hk)
theorem Ch.row {n fa la : Nat} {fo lo : Bool} {X : List UInt8} (h : RAt W q X n fa fo la lo) (cs : Array Value) : Ch W (W.setRow q cs) :=
  Ch.but q (by simp [World.setRow]) h.blk (by decide) (by decide) (fun k _ hk => setRow_other W q k cs (fun e => hk e))
theorem Ch.set {b o : Nat} {t : TypeId} {v : Value} (h : Boxed W b t v) (h1 : t ≠ 68) (h2 : t ≠ 49) (u : Value) : Ch W (W.setCell ⟨b, o, none⟩ u) :=
  Ch.but b (by simp) h h1 h2 (fun k _ hk => Below.heap_setCell _ _ _ _ hk)
theorem Ch.grown {base k size : Nat} {e : TypeId} {v : Value} {xs : List Value} (h : W.ownsRow base e size v k xs) (h1 : e ≠ 68) (h2 : e ≠ 49) (hg : W.grownBy W' v.ownBlock) : Ch W W' := by
  rcases h.2 with ⟨rfl, _⟩ | ⟨g, cap, cur, rfl, hb, hgb, _⟩
  · exact Ch.all hg.size (fun k hk => hg.block k hk (by simp [Value.ownBlock]))
  · exact Ch.but g hg.size hgb h1 h2 (fun k hk hne => hg.block k hk (by simp [Value.ownBlock]; exact hne))
theorem Ch.from (h : Ch W W') (B : Nat) : KeepsFrom B W W' := ⟨h.size, fun k o _ hk ho => h.left k o hk (.inl ho)⟩
theorem Ch.kp {n fa la : Nat} {fo lo : Bool} {X X' : List UInt8} (h : Ch W W') (h1 : RAt W q X n fa fo la lo) (h2 : RAt W' q X' n fa fo la lo) : KpR q W W' :=
  ⟨h.size, fun k xs hk => (h.left k _ hk (.inr ⟨_, _, _, rfl, .inl rfl⟩)).trans hk.symm, fun k xs hk => (h.left k _ hk (.inr ⟨_, _, _, rfl, .inr rfl⟩)).trans hk.symm,
    fun Y n' fa' fo' la' lo' hY => by obtain ⟨rfl, rfl, rfl, rfl, rfl⟩ := h1.inj hY; exact ⟨X', h2⟩⟩

/-! ### nothing that was there ahead of the call has turned but q -/
theorem Tur.alloc (h : Tur q w W) (o : Obj) : Tur q w (W.alloc o) :=
  ⟨h.os, h.tape, h.output, by have := h.size; simp; omega, fun k hk h1 => (Below.heap_alloc W o k (Nat.lt_of_lt_of_le hk h.size)).trans (h.block k hk h1)⟩
theorem Tur.drewR (h : Tur q w W) : Tur q w W.drew := ⟨h.os, h.tape, h.output, h.size, h.block⟩
theorem Tur.setHi (h : Tur q w W) {b : Nat} (hb : w.heap.size ≤ b) (o : Nat) (v : Value) : Tur q w (W.setCell ⟨b, o, none⟩ v) :=
  ⟨h.os, h.tape, h.output, by have := h.size; simpa using this, fun k hk h1 => (Below.heap_setCell _ _ _ _ (show k ≠ b by omega)).trans (h.block k hk h1)⟩
theorem Tur.grown {base k size : Nat} {e : TypeId} {v : Value} {xs : List Value} (h : Tur q w W) (ho : W.ownsRow base e size v k xs) (hb : w.heap.size ≤ base) (hg : W.grownBy W' v.ownBlock) : Tur q w W' := by
  refine ⟨hg.os.trans h.os, hg.tape.trans h.tape, hg.output.trans h.output, Nat.le_trans h.size hg.size, fun k hk h1 => (hg.block k (Nat.lt_of_lt_of_le hk h.size) ?_).trans (h.block k hk h1)⟩
  rcases ho.2 with ⟨rfl, _⟩ | ⟨g, cap, cur, rfl, hb2, _⟩
  · simp [Value.ownBlock]
  · simp [Value.ownBlock]; omega
theorem Tur.mv {B : Nat} (h : Tur q w W) (m : Mv 68 B W W') (hB : w.heap.size ≤ B) : Tur q w W' :=
  ⟨m.os.trans h.os, m.tape.trans h.tape, m.output.trans h.output, Nat.le_trans h.size m.size, fun k hk h1 => (m.low k (by omega) (Nat.lt_of_lt_of_le hk h.size)).trans (h.block k hk h1)⟩
theorem RAt.mv {B n fa la : Nat} {fo lo : Bool} {X : List UInt8} (h : RAt W q X n fa fo la lo) (m : Mv 68 B W W') : RAt W' q X n fa fo la lo := h.keep (m.cells q _ _ _ h.blk (by decide))
theorem boxed_mv {B b : Nat} {t : TypeId} {v : Value} (h : Boxed W b t v) (m : Mv 68 B W W') (ht : t ≠ 68) : Boxed W' b t v := (m.cells b _ _ _ h ht).trans h
theorem ownsRow_keep {base k size : Nat} {e : TypeId} {v : Value} {xs : List Value} (h : W.ownsRow base e size v k xs) (hk : ∀ g, v.ownBlock = some g → W'.heap[g]? = W.heap[g]?) : W'.ownsRow base e size v k xs := by
  refine ⟨h.1, ?_⟩
  rcases h.2 with h | ⟨g, cap, cur, rfl, hb, hg, r⟩
  · exact .inl h
  · exact .inr ⟨g, cap, cur, rfl, hb, (hk g rfl).trans hg, r⟩
theorem ownsRow_mv {B base k size : Nat} {e : TypeId} {v : Value} {xs : List Value} (h : W.ownsRow base e size v k xs) (m : Mv 68 B W W') (ht : e ≠ 68) : W'.ownsRow base e size v k xs := by
  refine ownsRow_keep h fun g hg => ?_
  rcases h.2 with ⟨rfl, _⟩ | ⟨g', cap, cur, rfl, hb, hg', r⟩
  · cases hg
  · obtain rfl : g' = g := by simpa [Value.ownBlock] using hg
    exact m.cells g' _ _ _ hg' ht
/-- a row is no block of another type. -/
theorem ownsRow_far {base k size b : Nat} {e t : TypeId} {v : Value} {cs : Array Value} {fr : Nat × Nat} {xs : List Value} (h : W.ownsRow base e size v k xs) (hb : W.heap[b]? = some (Obj.cells cs t fr)) (ht : t ≠ e) : some b ≠ v.ownBlock := by
  rcases h.2 with ⟨rfl, _⟩ | ⟨g', cap, cur, rfl, _, hg', r⟩
  · simp [Value.ownBlock]
  · intro e'
    obtain rfl : b = g' := by simpa [Value.ownBlock] using e'
    rw [hb] at hg'
    cases hg'
    exact ht rfl
end
end Go.Proofs.YtpfldelmbigmbaaDoor
