/- Layer 9: a Files and the document's own beside each other: what each call leaves of the other. -/
import Derived.Test.YtfgigofmmapbmaaFiSide
import Derived.Test.YtfgigofmmapbmaaRef9Close
import Derived.Test.YtfgigofmmapbmaaRef9Drop
namespace Go.Proofs.Ytfgigofmmapbmaa
open Go.RowKit

/-- a Files at p holds L1, n1; the document's own at q L2, n2; apart from each other; of what the document's own consists lies below t. -/
def Bo (Fi : World → (Nat → Prop) → Nat → List FV → Nat → Prop) (w0 w : World) (p q t : Nat) (L1 : List FV) (n1 : Nat) (L2 : List FV) (n2 : Nat) : Prop :=
  ∃ v S, Fi w S p L1 n1 ∧ (∀ k, S k → w0.heap.size ≤ k ∧ k ≠ q ∧ v.ownBlock ≠ some k) ∧ R9 w w0.heap.size q v L2 n2 ∧ Below w0.heap.size w0 w ∧ q < t ∧ ∀ k, v.ownBlock = some k → k < t
section
variable {Fi : World → (Nat → Prop) → Nat → List FV → Nat → Prop} {w0 w w' : World} {p q t n1 n2 n' : Nat} {L1 L2 L' : List FV} {S S' : Nat → Prop} {v v' : Value} {o : Obj} {b : Nat}
theorem bo_f (h2 : ∀ k, S k → w0.heap.size ≤ k ∧ k ≠ q ∧ v.ownBlock ≠ some k) (h3 : R9 w w0.heap.size q v L2 n2) (h4 : Below w0.heap.size w0 w) (h5 : q < t) (h6 : ∀ k, v.ownBlock = some k → k < t) (hp : ∃ S', Fi w' S' p L' n' ∧ MvS S S' w w') : Bo Fi w0 w' p q t L' n' L2 n2 := by
  obtain ⟨S', h', hm⟩ := hp
  refine ⟨v, S', h', fun k hk => ?_, h3.keep (hm.block q h3.lt (fun c => (h2 q c).2.1 rfl)) (fun k e => hm.block k (h3.row.lt k e).2 (fun c => (h2 k c).2.2 e)), mvs_below hm (fun k hk => (h2 k hk).1) h4, h5, h6⟩
  rcases hm.row k hk with c | c
  · exact h2 k c
  · have := h3.lt
    exact ⟨Nat.le_trans h4.size c, by omega, fun e => by have := (h3.row.lt k e).2; omega⟩
theorem bo_r (W : Works Fi) (h1 : Fi w S p L1 n1) (h2 : ∀ k, S k → w0.heap.size ≤ k ∧ k ≠ q ∧ v.ownBlock ≠ some k) (h3 : R9 w w0.heap.size q v L2 n2) (h4 : Below w0.heap.size w0 w) (hq : R9 w' w0.heap.size q v' L' n') (hm : Mv9 q v v' w w') : Bo Fi w0 w' p q w'.heap.size L1 n1 L' n' := by
  refine ⟨v', S, W.keep h1 hm.size (fun k hk => hm.block k (W.lt h1 k hk) (h2 k hk).2.1 (h2 k hk).2.2), fun k hk => ⟨(h2 k hk).1, (h2 k hk).2.1, fun e => ?_⟩, hq, ?_, hq.lt, fun k e => (hq.row.lt k e).2⟩
  · rcases hm.row k e with c | c
    · exact (h2 k hk).2.2 c
    · have := W.lt h1 k hk; omega
  · have hb := h3.bq
    exact ⟨hm.os.trans h4.os, hm.tape.trans h4.tape, hm.output.trans h4.output, Nat.le_trans h4.size hm.size, fun k hk => (hm.block k (Nat.lt_of_lt_of_le hk h4.size) (by omega) (fun e => by have := (h3.row.lt k e).1; omega)).trans (h4.block k hk)⟩
theorem Bo.bel (h : Bo Fi w0 w p q t L1 n1 L2 n2) : Below w0.heap.size w0 w := by obtain ⟨_, _, _, _, _, h, _⟩ := h; exact h
theorem Bo.wf (W : Works Fi) (h : Bo Fi w0 w p q t L1 n1 L2 n2) : WF L1 n1 := by obtain ⟨_, _, h, _⟩ := h; exact W.wf h
theorem Bo.below (W : Works Fi) (h : Bo Fi w0 w p q t L1 n1 L2 n2) (hb : Below w.heap.size w w') : Bo Fi w0 w' p q t L1 n1 L2 n2 := by
  obtain ⟨v, S, h1, h2, h3, h4, h5, h6⟩ := h
  exact ⟨v, S, W.keep h1 hb.size (fun k hk => hb.block k (W.lt h1 k hk)), h2, h3.below hb, h4.trans (hb.mono h4.size), h5, h6⟩
theorem Bo.alloc (W : Works Fi) (h : Bo Fi w0 w p q t L1 n1 L2 n2) (o : Obj) : Bo Fi w0 (w.alloc o) p q t L1 n1 L2 n2 := h.below W ((Below.refl _ _).alloc (Nat.le_refl _) o)
theorem Bo.top (h : Bo Fi w0 w p q t L1 n1 L2 n2) : Bo Fi w0 w p q w.heap.size L1 n1 L2 n2 := by
  obtain ⟨v, S, h1, h2, h3, h4, h5, h6⟩ := h
  exact ⟨v, S, h1, h2, h3, h4, h3.lt, fun k e => (h3.row.lt k e).2⟩
theorem Bo.side (W : Works Fi) (h : Bo Fi w0 w p q t L1 n1 L2 n2) (o : Obj) : Bo (FiA Fi (one9 w.heap.size o)) w0 (w.alloc o) p q t L1 n1 L2 n2 := by
  obtain ⟨v, S, h1, h2, h3, h4, h5, h6⟩ := h
  have hl := W.lt h1
  have hq := h3.lt
  refine ⟨v, _, ⟨S, rfl, W.keep h1 (by simp) (fun k hk => Below.heap_alloc w o k (hl k hk)), fun k o' e => ?_⟩, fun k hk => ?_, h3.below ((Below.refl _ _).alloc (Nat.le_refl _) o), h4.alloc h4.size o, h5, h6⟩
  · obtain ⟨rfl, rfl⟩ := one9_some e
    exact ⟨fun c => by have := hl _ c; omega, heap_alloc_new w _⟩
  · rcases hk with c | c
    · exact h2 k c
    · obtain ⟨o', e⟩ := Option.isSome_iff_exists.1 c
      obtain ⟨rfl, -⟩ := one9_some e
      exact ⟨h4.size, by omega, fun e => by have := (h3.row.lt _ e).2; omega⟩
theorem Bo.un {C : Nat → Option Obj} (h : Bo (FiA Fi C) w0 w p q t L1 n1 L2 n2) : Bo Fi w0 w p q t L1 n1 L2 n2 := by
  obtain ⟨v, _, ⟨S, rfl, h1, hC⟩, h2, r⟩ := h
  exact ⟨v, S, h1, fun k hk => h2 k (.inl hk), r⟩
theorem Bo.box {xs : Array Value} {s : TypeId} (h : Bo (FiA Fi (one9 b (.cells xs s))) w0 w p q t L1 n1 L2 n2) : BoxA w b s xs := by
  obtain ⟨v, _, ⟨S, rfl, h1, hC⟩, h2, r⟩ := h
  exact ⟨(hC b _ (by unfold one9; rw [if_pos rfl])).2⟩

/-! ### the document's calls, in one -/
theorem open9c {L : List FV} {n : Nat} {base : Nat} (h : R9 w base q v L n) (hl : L.length ≤ 80000) (hn : n ≤ 80000) (P k x : Int) : Calls Try.prog 23 #[.pointer (some ⟨q, 0, none⟩), .int .i64 P, .agg #[.int .i64 k, .int .i64 x]] w fun e w' =>
    e = .returned (.tuple #[.int .i64 (openN L n P k x), .int .i64 (openE L n P k x)]) ∧ ∃ v', R9 w' base q v' (openL L n P k x) (openG L n P k x : Nat) ∧ Mv9 q v v' w w' := by
  by_cases hE : openE L n P k x = 0
  · have := open9_yes h (by omega) (by omega) P k x hE
    unfold openN openL openG
    rw [if_pos hE, if_pos hE, if_pos hE, hE]
    exact this
  · refine (open9_no h (by omega) (by omega) P k x hE).mono ?_
    rintro e w' ⟨rfl, hb⟩
    unfold openN openL openG
    rw [if_neg hE, if_neg hE, if_neg hE]
    exact ⟨rfl, v, h.below hb, Mv9.of_below hb⟩
theorem dup9c {L : List FV} {n : Nat} {base : Nat} (h : R9 w base q v L n) (hl : L.length ≤ 80000) (P d : Int) : Calls Try.prog 24 #[.pointer (some ⟨q, 0, none⟩), .int .i64 P, .int .i64 d] w fun e w' =>
    e = .returned (.tuple #[.int .i64 (dupN L P d), .int .i64 (dupE L P d)]) ∧ ∃ v', R9 w' base q v' (dupL L P d) n ∧ Mv9 q v v' w w' := by
  by_cases hE : dupE L P d = 0
  · have := dup9_yes h (by omega) P d hE
    unfold dupN dupL
    rw [if_pos hE, if_pos hE, hE]
    exact this
  · refine (dup9_no h (by omega) P d hE).mono ?_
    rintro e w' ⟨rfl, rfl⟩
    unfold dupN dupL
    rw [if_neg hE, if_neg hE]
    exact ⟨rfl, v, h, Mv9.refl _⟩

/-! ### a call of one of the two -/
theorem bof_open (W : Works Fi) (h : Bo Fi w0 w p q t L1 n1 L2 n2) (hl : L1.length ≤ 80000) (hn : n1 ≤ 80000) (P k x : Int) : Calls Try.prog 17 #[.pointer (some ⟨p, 0, none⟩), .int .i64 P, .agg #[.int .i64 k, .int .i64 x]] w fun e w' =>
    e = .returned (.tuple #[.int .i64 (openN L1 n1 P k x), .int .i64 (openE L1 n1 P k x)]) ∧ Bo Fi w0 w' p q t (openL L1 n1 P k x) (openG L1 n1 P k x) L2 n2 := by
  obtain ⟨v, S, h1, h2, h3, h4, h5, h6⟩ := h
  refine (W.opn h1 hl hn P k x).mono ?_
  rintro e w' ⟨rfl, h⟩
  exact ⟨rfl, bo_f h2 h3 h4 h5 h6 h⟩
theorem bor_open (W : Works Fi) (h : Bo Fi w0 w p q t L1 n1 L2 n2) (hl : L2.length ≤ 80000) (hn : n2 ≤ 80000) (P k x : Int) : Calls Try.prog 23 #[.pointer (some ⟨q, 0, none⟩), .int .i64 P, .agg #[.int .i64 k, .int .i64 x]] w fun e w' =>
    e = .returned (.tuple #[.int .i64 (openN L2 n2 P k x), .int .i64 (openE L2 n2 P k x)]) ∧ Bo Fi w0 w' p q w'.heap.size L1 n1 (openL L2 n2 P k x) (openG L2 n2 P k x) := by
  obtain ⟨v, S, h1, h2, h3, h4, h5, h6⟩ := h
  refine (open9c h3 hl hn P k x).mono ?_
  rintro e w' ⟨rfl, v', hq, hm⟩
  exact ⟨rfl, bo_r W h1 h2 h3 h4 hq hm⟩
theorem bof_dup (W : Works Fi) (h : Bo Fi w0 w p q t L1 n1 L2 n2) (hl : L1.length ≤ 80000) (hn : n1 ≤ 80000) (P d : Int) : Calls Try.prog 18 #[.pointer (some ⟨p, 0, none⟩), .int .i64 P, .int .i64 d] w fun e w' =>
    e = .returned (.tuple #[.int .i64 (dupN L1 P d), .int .i64 (dupE L1 P d)]) ∧ Bo Fi w0 w' p q t (dupL L1 P d) n1 L2 n2 := by
  obtain ⟨v, S, h1, h2, h3, h4, h5, h6⟩ := h
  refine (W.dup h1 hl hn P d).mono ?_
  rintro e w' ⟨rfl, h⟩
  exact ⟨rfl, bo_f h2 h3 h4 h5 h6 h⟩
theorem bor_dup (W : Works Fi) (h : Bo Fi w0 w p q t L1 n1 L2 n2) (hl : L2.length ≤ 80000) (P d : Int) : Calls Try.prog 24 #[.pointer (some ⟨q, 0, none⟩), .int .i64 P, .int .i64 d] w fun e w' =>
    e = .returned (.tuple #[.int .i64 (dupN L2 P d), .int .i64 (dupE L2 P d)]) ∧ Bo Fi w0 w' p q w'.heap.size L1 n1 (dupL L2 P d) n2 := by
  obtain ⟨v, S, h1, h2, h3, h4, h5, h6⟩ := h
  refine (dup9c h3 hl P d).mono ?_
  rintro e w' ⟨rfl, v', hq, hm⟩
  exact ⟨rfl, bo_r W h1 h2 h3 h4 hq hm⟩
theorem bof_cls (W : Works Fi) (h : Bo Fi w0 w p q t L1 n1 L2 n2) (hl : L1.length ≤ 80000) (hn : n1 ≤ 80000) (P d : Int) : Calls Try.prog 19 #[.pointer (some ⟨p, 0, none⟩), .int .i64 P, .int .i64 d] w fun e w' =>
    e = .returned (.tuple #[.agg #[.int .i64 (getX L1 P d).kind, .int .i64 (getX L1 P d).thing], .bool (clsB L1 P d), .int .i64 (getE L1 P d)]) ∧ Bo Fi w0 w' p q t (clsL L1 P d) n1 L2 n2 := by
  obtain ⟨v, S, h1, h2, h3, h4, h5, h6⟩ := h
  refine (W.cls h1 hl hn P d).mono ?_
  rintro e w' ⟨rfl, h⟩
  exact ⟨rfl, bo_f h2 h3 h4 h5 h6 h⟩
theorem bor_cls (W : Works Fi) (h : Bo Fi w0 w p q t L1 n1 L2 n2) (hl : L2.length ≤ 80000) (P d : Int) : Calls Try.prog 25 #[.pointer (some ⟨q, 0, none⟩), .int .i64 P, .int .i64 d] w fun e w' =>
    e = .returned (.tuple #[.agg #[.int .i64 (getX L2 P d).kind, .int .i64 (getX L2 P d).thing], .bool (clsB L2 P d), .int .i64 (getE L2 P d)]) ∧ Bo Fi w0 w' p q w'.heap.size L1 n1 (clsL L2 P d) n2 := by
  obtain ⟨v, S, h1, h2, h3, h4, h5, h6⟩ := h
  refine (close9 h3 (by omega) P d).mono ?_
  rintro e w' ⟨rfl, v', hq, hm⟩
  exact ⟨rfl, bo_r W h1 h2 h3 h4 hq hm⟩
theorem bof_get (W : Works Fi) (h : Bo Fi w0 w p q t L1 n1 L2 n2) (hl : L1.length ≤ 80000) (hn : n1 ≤ 80000) (P d : Int) : Calls Try.prog 15 #[.pointer (some ⟨p, 0, none⟩), .int .i64 P, .int .i64 d] w fun e w' =>
    e = .returned (.tuple #[.agg #[.int .i64 (getX L1 P d).kind, .int .i64 (getX L1 P d).thing], .int .i64 (getE L1 P d)]) ∧ Bo Fi w0 w' p q t L1 n1 L2 n2 := by
  have h' := h
  obtain ⟨v, S, h1, h2, h3, h4, h5, h6⟩ := h
  refine (W.get h1 hl hn P d).mono ?_
  rintro e w' ⟨rfl, hb⟩
  exact ⟨rfl, h'.below W hb⟩
theorem bor_get (W : Works Fi) (h : Bo Fi w0 w p q t L1 n1 L2 n2) (hl : L2.length ≤ 80000) (P d : Int) : Calls Try.prog 16 #[.pointer (some ⟨q, 0, none⟩), .int .i64 P, .int .i64 d] w fun e w' =>
    e = .returned (.tuple #[.agg #[.int .i64 (getX L2 P d).kind, .int .i64 (getX L2 P d).thing], .int .i64 (getE L2 P d)]) ∧ Bo Fi w0 w' p q t L1 n1 L2 n2 := by
  have h' := h
  obtain ⟨v, S, h1, h2, h3, h4, h5, h6⟩ := h
  refine (get9 h3 (by omega) P d).mono ?_
  rintro e w' ⟨rfl, hb⟩
  exact ⟨rfl, h'.below W hb⟩
theorem bof_fork (W : Works Fi) (h : Bo Fi w0 w p q t L1 n1 L2 n2) (hl : L1.length ≤ 80000) (hn : n1 ≤ 80000) (P c : Int) : Calls Try.prog 20 #[.pointer (some ⟨p, 0, none⟩), .int .i64 P, .int .i64 c] w fun e w' =>
    e = .returned (.int .i64 (fork9E L1 P c)) ∧ Bo Fi w0 w' p q t (fork9L L1 P c) n1 L2 n2 := by
  obtain ⟨v, S, h1, h2, h3, h4, h5, h6⟩ := h
  refine (W.fork h1 hl hn P c).mono ?_
  rintro e w' ⟨rfl, h⟩
  exact ⟨rfl, bo_f h2 h3 h4 h5 h6 h⟩
theorem bor_fork (W : Works Fi) (h : Bo Fi w0 w p q t L1 n1 L2 n2) (hl : L2.length ≤ 80000) (P c : Int) : Calls Try.prog 26 #[.pointer (some ⟨q, 0, none⟩), .int .i64 P, .int .i64 c] w fun e w' =>
    e = .returned (.int .i64 (fork9E L2 P c)) ∧ Bo Fi w0 w' p q w'.heap.size L1 n1 (fork9L L2 P c) n2 := by
  obtain ⟨v, S, h1, h2, h3, h4, h5, h6⟩ := h
  refine (fork9 h3 (by omega) P c).mono ?_
  rintro e w' ⟨rfl, v', hq, hm⟩
  exact ⟨rfl, bo_r W h1 h2 h3 h4 hq hm⟩
theorem bof_drop (W : Works Fi) (h : Bo Fi w0 w p q t L1 n1 L2 n2) (hl : L1.length ≤ 80000) (hn : n1 ≤ 80000) (P : Int) : Calls Try.prog 21 #[.pointer (some ⟨p, 0, none⟩), .int .i64 P] w fun e w' =>
    ∃ u, e = .returned u ∧ OsIn w' w.heap.size u (drO L1 P 8) ∧ Bo Fi w0 w' p q w.heap.size (drL L1 P 8) n1 L2 n2 ∧ w.heap.size ≤ w'.heap.size := by
  obtain ⟨v, S, h1, h2, h3, h4, h5, h6⟩ := h
  refine (W.drop h1 hl hn P).mono ?_
  rintro e w' ⟨u, rfl, hu, S', hS, hm⟩
  exact ⟨u, rfl, hu, bo_f h2 h3 h4 h3.lt (fun k e => (h3.row.lt k e).2) ⟨S', hS, hm⟩, hm.size⟩
theorem bor_drop (W : Works Fi) (h : Bo Fi w0 w p q t L1 n1 L2 n2) (hl : L2.length ≤ 80000) (P : Int) {u : Value} {A : List (Int × Int)} (hu : OsIn w t u A) (ht : t ≤ w.heap.size) : Calls Try.prog 28 #[.pointer (some ⟨q, 0, none⟩), .int .i64 P] w fun e w' =>
    ∃ u', e = .returned u' ∧ OsIn w' t u' (drO L2 P 8) ∧ OsIn w' t u A ∧ Bo Fi w0 w' p q w'.heap.size L1 n1 (drL L2 P 8) n2 := by
  obtain ⟨v, S, h1, h2, h3, h4, h5, h6⟩ := h
  refine (drop9 h3 (by omega) P).mono ?_
  rintro e w' ⟨u', rfl, hu', v', hq, hm⟩
  refine ⟨u', rfl, hu'.in.mono ht, ?_, bo_r W h1 h2 h3 h4 hq hm⟩
  obtain ⟨a, cap, rfl, ha⟩ := hu
  refine ⟨a, cap, rfl, fun hpos => ?_⟩
  obtain ⟨r, o, rfl, hr1, hr2, hc⟩ := ha hpos
  refine ⟨r, o, rfl, hr1, Nat.lt_of_lt_of_le hr2 hm.size, fun k x hx => ?_⟩
  have hb := hm.block r hr2 (by omega) (fun e => by have := h6 r e; omega)
  obtain ⟨c0, c1⟩ := hc k x hx
  exact ⟨(World.cell?_of_block (w := w) hb).trans c0, (World.cell?_of_block (w := w) hb).trans c1⟩
theorem bof_count (W : Works Fi) (h : Bo Fi w0 w p q t L1 n1 L2 n2) (hl : L1.length ≤ 80000) (hn : n1 ≤ 80000) : Calls Try.prog 13 #[.pointer (some ⟨p, 0, none⟩)] w fun e w' =>
    e = .returned (.int .i64 (cntN L1 n1)) ∧ Bo Fi w0 w' p q t L1 n1 L2 n2 := by
  have h' := h
  obtain ⟨v, S, h1, h2, h3, h4, h5, h6⟩ := h
  refine (W.count h1 hl hn).mono ?_
  rintro e w' ⟨rfl, hb⟩
  exact ⟨rfl, h'.below W hb⟩
theorem bor_count (h : Bo Fi w0 w p q t L1 n1 L2 n2) (hl : L2.length ≤ 80000) (hn : n2 ≤ 80000) : Calls Try.prog 14 #[.pointer (some ⟨q, 0, none⟩)] w fun e w' =>
    e = .returned (.int .i64 (cntN L2 n2)) ∧ w = w' := by
  obtain ⟨v, S, h1, h2, h3, h4, h5, h6⟩ := h
  exact count9 h3 (by omega) (by omega)
end
end Go.Proofs.Ytfgigofmmapbmaa
