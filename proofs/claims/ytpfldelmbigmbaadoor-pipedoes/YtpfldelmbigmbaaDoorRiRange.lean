/- General, over any program: a range over a function whose iterator keeps a struct of its own between two rounds, and stores into it: the caller's invariant has to bear that blocks of that struct's type turn. -/
import Derived.Test.YtpfldelmbigmbaaDoorRows
import Derived.RangeFuncNested
namespace Go.Proofs.YtpfldelmbigmbaaDoor
open Go.RowKit

/-- what was below B lies as it lay, and so do all cells but those of type T. -/
structure Mv (T : TypeId) (B : Nat) (W W' : World) : Prop where
  os : W'.os = W.os
  tape : W'.tape = W.tape
  output : W'.output = W.output
  size : W.heap.size ≤ W'.heap.size
  low : ∀ k, k < B → k < W.heap.size → W'.heap[k]? = W.heap[k]?
  cells : ∀ (k : Nat) cs t fr, W.heap[k]? = some (Obj.cells cs t fr) → t ≠ T → W'.heap[k]? = W.heap[k]?
/-- the iterator's own: of what was from B on, cells of type T alone have turned. -/
structure MvE (T : TypeId) (B : Nat) (W W' : World) : Prop where
  os : W'.os = W.os
  tape : W'.tape = W.tape
  output : W'.output = W.output
  size : W.heap.size ≤ W'.heap.size
  low : ∀ k, k < B → k < W.heap.size → W'.heap[k]? = W.heap[k]?
  others : ∀ (k : Nat) o, W.heap[k]? = some o → (∀ cs fr, o ≠ Obj.cells cs T fr) → W'.heap[k]? = some o
section
variable {T : TypeId} {B : Nat} {W W' : World}
theorem MvE.mv {C : Nat} (h : MvE T C W W') (hB : B ≤ C) : Mv T B W W' :=
  ⟨h.os, h.tape, h.output, h.size, fun k hk hs => h.low k (by omega) hs, fun k cs t fr hk ht => (h.others k _ hk (fun cs' fr' e => by cases e; exact ht rfl)).trans hk.symm⟩
theorem Mv.put {l : Nat} {o : Obj} (o' : Obj) (hB : B ≤ l) (hl : W.heap[l]? = some o) (ho : o.isCells = false) : Mv T B W (W.putObj l o') :=
  ⟨rfl, rfl, rfl, by rw [World.putObj_size]; exact Nat.le_refl _, fun k hk _ => World.putObj_heap_other (by omega), fun k cs t fr hk _ => World.putObj_heap_other (fun e => by subst e; rw [hl] at hk; cases hk; cases ho)⟩
theorem MvE.alloc (o : Obj) (B : Nat) (W : World) : MvE T B W (W.alloc o) :=
  ⟨rfl, rfl, rfl, by simp, fun k _ hs => Below.heap_alloc W o k hs, fun k _ hk _ => (Below.heap_alloc W o k (Array.getElem?_eq_some_iff.1 hk).1).trans hk⟩
theorem MvE.of_below (h : Below W.heap.size W W') (B : Nat) : MvE T B W W' :=
  ⟨h.os, h.tape, h.output, h.size, fun k _ hs => h.block k hs, fun k _ hk _ => (h.block k (Array.getElem?_eq_some_iff.1 hk).1).trans hk⟩
theorem MvE.trans {W'' : World} (h : MvE T B W W') (k : MvE T B W' W'') : MvE T B W W'' :=
  ⟨k.os.trans h.os, k.tape.trans h.tape, k.output.trans h.output, Nat.le_trans h.size k.size, fun j hj hs => (k.low j hj (Nat.lt_of_lt_of_le hs h.size)).trans (h.low j hj hs), fun j o hj ho => k.others j o (h.others j o hj ho) ho⟩
theorem MvE.refl (B : Nat) (W : World) : MvE T B W W := ⟨rfl, rfl, rfl, Nat.le_refl _, fun _ _ _ => rfl, fun _ _ h _ => h⟩
theorem MvE.drew (B : Nat) (W : World) : MvE T B W W.drew := ⟨rfl, rfl, rfl, Nat.le_refl _, fun _ _ _ => rfl, fun _ _ h _ => h⟩
theorem MvE.set {b o : Nat} {cs : Array Value} {fr : Nat × Nat} (hB : B ≤ b) (hb : W.heap[b]? = some (.cells cs T fr)) (v : Value) : MvE T B W (W.setCell ⟨b, o, none⟩ v) :=
  ⟨rfl, rfl, rfl, by simp, fun k hk _ => Below.heap_setCell _ _ _ _ (show k ≠ b by omega), fun k ob hk ho => (Below.heap_setCell _ _ _ _ (show k ≠ b from fun e => by subst e; rw [hb] at hk; cases hk; exact ho _ _ rfl)).trans hk⟩
end

/-- an iterator's contract, for callers that bear that its own structs turn. -/
def SeqE {α : Type} (T : TypeId) (n : Nat) (P : Program) (g : Nat) (lb : Array Value) (encs : α → Array Value) (Kp : World → World → Prop) (S Sp : List α → Prop) (N : Nat) (w : World) : Prop :=
  ∀ (l : Nat) (J Jx : List α → World → Prop) (W : World), Below w.heap.size w W → (∀ s A A', J s A → MvE T W.heap.size A A' → J s A') → (∀ s A A', Jx s A → MvE T W.heap.size A A' → Jx s A') →
    (∀ pre x W1, J pre W1 → pre.length < N → YieldAt Fence.wide (n - 1) P l (encs x) W1 fun e W' =>
      (e = .returned (.bool true) ∧ J (pre ++ [x]) W' ∧ Kp W1 W') ∨ (e = .returned (.bool false) ∧ Jx (pre ++ [x]) W')) →
    J [] W → CallsIn Fence.wide n P g (#[.func (.yield l) #[] #[]] ++ lb) W fun e W' => (∃ v, e = .returned v) ∧ ((∃ xs, S xs ∧ J xs W') ∨ (∃ pre, Sp pre ∧ Jx pre W'))

section
variable {P : Program} {n : Nat}

/-- the two blocks of a loop's bookkeeping. -/
structure Kept (l D : Nat) (r : Loop) (W : World) : Prop where
  loop : W.heap[l]? = some (.loop r)
  defs : W.heap[D]? = some (.deferred (some []))
theorem Kept.mvE {T : TypeId} {C l D : Nat} {r : Loop} {W W' : World} (h : Kept l D r W) (m : MvE T C W W') : Kept l D r W' :=
  ⟨m.others l _ h.loop (fun cs fr e => by cases e), m.others D _ h.defs (fun cs fr e => by cases e)⟩
theorem Kept.from {l D C : Nat} {r : Loop} {W W' : World} (h : Kept l D r W) (k : KeepsFrom C W W') (h1 : C ≤ l) (h2 : C ≤ D) : Kept l D r W' := ⟨k.same l _ h1 h.loop rfl, k.same D _ h2 h.defs rfl⟩
theorem Kept.put {l D : Nat} {r : Loop} {W : World} (h : Kept l D r W) (r' : Loop) (hne : D ≠ l) : Kept l D r' (W.putObj l (.loop r')) :=
  ⟨World.putObj_heap_same (Array.getElem?_eq_some_iff.1 h.loop).1, (World.putObj_heap_other hne).trans h.defs⟩

theorem range_ends {α : Type} (T : TypeId) {g : Operand} {ps : Array Tmp} {assign body : Code} {Q : Exit → Act → World → Prop} {a : Act} {w : World} {gf : Nat} {lb : Array Value} (hg : a.eval g = .func (.func gf) #[] lb)
    (eg : ∀ args w, (callFunc gf args).run P w = .ok (.enter gf args) w) {encs : α → Array Value} {Kp : World → World → Prop} {S Sp : List α → Prop} {N : Nat} {w0 : World} (hseq : SeqE T (n - 1) P gf lb encs Kp S Sp N w0)
    (hKt : ∀ {A B C : World}, Kp A B → Kp B C → Kp A C) (hKb : ∀ (W : World) (l : Nat) (o o' : Obj), W.heap[l]? = some o → o.isCells = false → Kp W (W.putObj l o')) (hb0 : Below w0.heap.size w0 w) (hps : ∀ x, (encs x).size = ps.size)
    (I : List α → World → Prop) (Ix : Code → List α → World → Prop) (hI : ∀ s A A', I s A → Mv T w.heap.size A A' → I s A') (hIx : ∀ c s A A', Ix c s A → Mv T w.heap.size A A' → Ix c s A') (h0 : I [] w) (a₁ : α → Act)
    (hassign : ∀ (l : Nat) (x : α) (W : World) (K : Act → World → Prop), K (a₁ x) W →
      assign.wpIn (Fence.wide.inRound l) (n - 1 - 1) P (Exit.then K (fun _ _ _ => False)) { tmps := (ps.zip (encs x)).foldl (fun t (p, v) => t.setIfInBounds p v) a.tmps, defers := [] } W)
    (hbody : ∀ (l : Nat) (pre : List α) (x : α) (W : World), I pre W → pre.length < N → body.wpIn (Fence.wide.inRound l) (n - 1 - 1) P (ownPostG w.heap.size Kp I Ix (pre ++ [x]) W) (a₁ x) W)
    (hdone : ∀ (D : Nat) (xs : List α) (W : World), w.heap.size ≤ D → S xs → I xs W → W.heap[D]? = some (.deferred (some [])) → Q .normal { a with defers := { target := .collected D, args := #[] } :: a.defers } W)
    (hstop : ∀ (D : Nat) (c : Code) (pre : List α) (W : World), w.heap.size ≤ D → Sp pre → Ix c pre W → W.heap[D]? = some (.deferred (some [])) → c.wpIn Fence.wide n P Q { a with defers := { target := .collected D, args := #[] } :: a.defers } W) :
    (Code.rangeFunc g ps assign body).wpIn Fence.wide n P Q a w := by
  refine wpIn_rangeFunc fun fn _ => ?_
  let R : LoopState → Option Code → Loop := fun st pe => { state := st, pending := pe, fn, tmps := a.tmps, params := ps, assign, body, defers := w.heap.size }
  let W1 : World := (w.alloc (.deferred (some []))).alloc (.loop (R .ready none))
  have hs1 : W1.heap.size = w.heap.size + 2 := by simp [W1]
  have hk1 : Kept (w.heap.size + 1) w.heap.size (R .ready none) W1 :=
    ⟨by have := World.alloc_heap_new (w.alloc (.deferred (some []))) (.loop (R .ready none)); rwa [World.size_alloc] at this, (Below.heap_alloc _ _ _ (by simp)).trans (World.alloc_heap_new w _)⟩
  have hm1 : MvE T w.heap.size w W1 := (MvE.alloc _ _ _).trans (MvE.alloc _ _ _)
  have hlD : w.heap.size ≠ w.heap.size + 1 := by omega
  refine ⟨w.heap.size + 1, [{ target := .collected w.heap.size, args := #[] }], W1, { target := .fn (.func gf) lb, args := #[.func (.yield (w.heap.size + 1)) #[] #[]] }, W1, gf, #[.func (.yield (w.heap.size + 1)) #[] #[]] ++ lb, W1,
    run_enterLoop_outer _ _ _ _ _, by simp only [resolve, hg]; simp [go_sem], fun _ _ => trivial, by simp [invoke, go_sem, eg], fun e => (by cases e), ?_⟩
  refine (hseq (w.heap.size + 1) (fun pre W => I pre W ∧ Kept (w.heap.size + 1) w.heap.size (R .ready none) W) (fun pre W => ∃ c, Ix c pre W ∧ Kept (w.heap.size + 1) w.heap.size (R .done (some c)) W) W1
    (hb0.trans ((((Below.refl _ w).alloc (Nat.le_refl _) _).alloc (by simp) _).mono hb0.size))
    (fun s A A' h m => ⟨hI s A A' h.1 (m.mv (by omega)), h.2.mvE m⟩) (fun s A A' ⟨c, h, k⟩ m => ⟨c, hIx c s A A' h (m.mv (by omega)), k.mvE m⟩) ?round ⟨hI _ _ _ h0 (hm1.mv (Nat.le_refl _)), hk1⟩).mono ?back
  case round =>
    rintro pre x W ⟨hi, hk⟩ hlen
    refine ⟨fn, _, assign, body, run_yield hk.loop (hps x), roundIn_of_wpIn trivial (hassign _ x W _ ⟨_, run_beginRound hk.loop rfl, ?_⟩)⟩
    have hk2 : Kept (w.heap.size + 1) w.heap.size (R .busy none) (W.putObj (w.heap.size + 1) (.loop (R .busy none))) := hk.put _ hlD
    have hi2 : I pre (W.putObj (w.heap.size + 1) (.loop (R .busy none))) := hI _ _ _ hi (Mv.put _ (by omega) hk.loop rfl)
    have hp2 : Kp W (W.putObj (w.heap.size + 1) (.loop (R .busy none))) := hKb _ _ _ _ hk.loop rfl
    refine wpIn_mono (hbody _ pre x _ hi2 hlen) fun e a3 W3 hq => ?_
    have fin : ∀ jump : Option Code, KeepsFrom w.heap.size (W.putObj (w.heap.size + 1) (.loop (R .busy none))) W3 →
        (Instr.endRound (w.heap.size + 1) jump).run P W3 = .ok (.bool jump.isNone) (W3.putObj (w.heap.size + 1) (.loop (R (if jump.isNone then .ready else .done) jump))) ∧
        W3.heap[w.heap.size + 1]? = some (.loop (R .busy none)) ∧ Kept (w.heap.size + 1) w.heap.size (R (if jump.isNone then .ready else .done) jump) (W3.putObj (w.heap.size + 1) (.loop (R (if jump.isNone then .ready else .done) jump))) := fun jump kf => by
      have k3 := hk2.from kf (by omega) (Nat.le_refl _)
      exact ⟨run_endRound jump k3.loop, k3.loop, k3.put _ hlD⟩
    have out : ∀ c : Code, KeepsFrom w.heap.size (W.putObj (w.heap.size + 1) (.loop (R .busy none))) W3 → Ix c (pre ++ [x]) W3 →
        ∃ W4, (Instr.endRound (w.heap.size + 1) (some c)).run P W3 = .ok (.bool false) W4 ∧ ∃ c, Ix c (pre ++ [x]) W4 ∧ Kept (w.heap.size + 1) w.heap.size (R .done (some c)) W4 := fun c kf hx => by
      obtain ⟨hr, hl, h4⟩ := fin (some c) kf
      exact ⟨_, hr, c, hIx _ _ _ _ hx (Mv.put _ (by omega) hl rfl), h4⟩
    cases e with
    | normal =>
      obtain ⟨kf, kp, hi3⟩ := hq
      obtain ⟨hr, hl, h4⟩ := fin none kf
      exact ⟨_, _, hr, .inl ⟨rfl, ⟨hI _ _ _ hi3 (Mv.put _ (by omega) hl rfl), h4⟩, hKt (hKt hp2 kp) (hKb _ _ _ _ hl rfl)⟩⟩
    | ret =>
      obtain ⟨W4, hr, hx⟩ := out .ret hq.1 hq.2
      exact ⟨_, _, hr, .inr ⟨rfl, hx⟩⟩
    | exit id =>
      obtain ⟨W4, hr, hx⟩ := out (.exit id) hq.1 hq.2
      exact ⟨_, _, hr, .inr ⟨rfl, hx⟩⟩
    | goto t =>
      obtain ⟨W4, hr, hx⟩ := out (.goto t) hq.1 hq.2
      exact ⟨_, _, hr, .inr ⟨rfl, hx⟩⟩
    | panic ch => exact hq.elim
    | outgrown => exact hq.elim
  case back =>
    rintro e W2 ⟨⟨v, rfl⟩, (⟨xs, hS, hi, hk⟩ | ⟨pre, hSp, c, hi, hk⟩)⟩
    · exact ⟨none, _, run_endLoop hk.loop (by simp [R]), hdone _ xs _ (Nat.le_refl _) hS (hI _ _ _ hi (Mv.put _ (by omega) hk.loop rfl)) ((World.putObj_heap_other hlD).trans hk.defs)⟩
    · exact ⟨some c, _, run_endLoop hk.loop (by simp [R]), hstop _ c pre _ (Nat.le_refl _) hSp (hIx _ _ _ _ hi (Mv.put _ (by omega) hk.loop rfl)) ((World.putObj_heap_other hlD).trans hk.defs)⟩
end
end Go.Proofs.YtpfldelmbigmbaaDoor
