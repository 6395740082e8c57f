/- Package pipe: a pipe in memory (PM): a block with its ring's place and its two counts, the ring, the package's variables; end, able, change. -/
import Derived.Test.YtpfldelmbigmbaaDoorPiErr
import Derived.Test.YtpfldelmbigmbaaDoorPiPure
import Derived.Test.YtpfldelmbigmbaaDoorRiRing
namespace Go.Proofs.YtpfldelmbigmbaaDoor
open Go.RowKit

def pipeV (q r v : Nat) : Array Value := #[.pointer (some ⟨q, 0, none⟩), .int .i64 (r : Int), .int .i64 (v : Int)]
/-- the pipe at p, its ring at q, holds L, and has r readers and v writers. -/
structure PM (g : Nat) (A : Fin 4 → Addr) (w : World) (p q : Nat) (L : List UInt8) (r v : Nat) : Prop where
  box : BoxA w p 56 (pipeV q r v)
  ring : Rg w q 32 L
  ne : p ≠ q
  rl : r ≤ 100
  vl : v ≤ 100
  sen : Sen g A w
  gp : g ≤ p
  gq : g ≤ q
section
variable {g : Nat} {A : Fin 4 → Addr} {w w' : World} {p q r v r' v' : Nat} {L L' : List UInt8}
theorem PM.keep (h : PM g A w p q L r v) (hs : w.heap.size ≤ w'.heap.size) (e : ∀ k, (k = p ∨ k = q) ∨ k < g → w'.heap[k]? = w.heap[k]?) : PM g A w' p q L r v :=
  ⟨h.box.keep (e p (.inl (.inl rfl))), h.ring.keep (e q (.inl (.inr rfl))), h.ne, h.rl, h.vl, h.sen.keep hs (fun k hk => e k (.inr hk)), h.gp, h.gq⟩
theorem PM.lt (h : PM g A w p q L r v) : ∀ k, (k = p ∨ k = q) ∨ k < g → k < w.heap.size := by
  rintro k ((rfl | rfl) | c)
  · exact h.box.lt
  · exact h.ring.lt
  · have := h.sen.gle; omega
theorem PM.below' (h : PM g A w p q L r v) (hb : Below w.heap.size w w') : PM g A w' p q L r v := h.keep hb.size (fun k hk => hb.block k (h.lt k hk))
theorem PM.drew (h : PM g A w p q L r v) : PM g A w.drew p q L r v := h.keep (Nat.le_refl _) (fun _ _ => rfl)
theorem PM.drewN (h : PM g A w p q L r v) (n : Nat) : PM g A (w.drewN n) p q L r v := h.keep (Nat.le_refl _) (fun _ _ => rfl)
theorem PM.alloc (h : PM g A w p q L r v) (o : Obj) : PM g A (w.alloc o) p q L r v := h.keep (by simp) (fun k hk => Below.heap_alloc w o k (h.lt k hk))
theorem PM.turp (h : PM g A w p q L r v) (ht : Tur p w w') (hb : BoxA w' p 56 (pipeV q r' v')) (h1 : r' ≤ 100) (h2 : v' ≤ 100) : PM g A w' p q L r' v' :=
  ⟨hb, h.ring.tur ht (Ne.symm h.ne), h.ne, h1, h2, h.sen.keep ht.size (fun k hk => ht.block k (by have := h.sen.gle; omega) (by have := h.gp; omega)), h.gp, h.gq⟩
theorem PM.turq (h : PM g A w p q L r v) (ht : Tur q w w') (hr : Rg w' q 32 L') : PM g A w' p q L' r v :=
  ⟨h.box.keep (ht.block p h.box.lt h.ne), hr, h.ne, h.rl, h.vl, h.sen.keep ht.size (fun k hk => ht.block k (by have := h.sen.gle; omega) (by have := h.gq; omega)), h.gp, h.gq⟩

/-- the place of the count of a kind's ends. -/
def endP (p : Nat) (k : Int) : Value := if k = 1 then .pointer (some ⟨p, 1, none⟩) else if k = 2 then .pointer (some ⟨p, 2, none⟩) else .pointer none
set_option maxRecDepth 100000 in
set_option maxHeartbeats 1000000 in
theorem end_any (p : Nat) (k : Int) (w : World) : Calls Tryd.prog 33 #[.pointer (some ⟨p, 0, none⟩), .int .i64 k] w fun e w' => e = .returned (endP p k) ∧ w' = w := by
  by_cases h1 : k = 1
  · subst h1
    go_enter Tryd.func33, Tryd.ntmps33
    go_wp2
    go_ret
    exact ⟨rfl, rfl⟩
  by_cases h2 : k = 2
  · subst h2
    go_enter Tryd.func33, Tryd.ntmps33
    go_wp2
    go_ret
    exact ⟨rfl, rfl⟩
  have e : endP p k = .pointer none := by unfold endP; rw [if_neg h1, if_neg h2]
  have d1 : (k == 1) = false := by simpa using h1
  have d2 : (k == 2) = false := by simpa using h2
  rw [e]
  go_enter Tryd.func33, Tryd.ntmps33
  go_wp2
  go_ret
  exact ⟨rfl, rfl⟩

set_option maxRecDepth 100000 in
set_option maxHeartbeats 1000000 in
theorem able_any (h : Sen g A w) (o : Option (Fin 4)) : Calls Tryd.prog 35 #[errV A o] w fun e w' => e = .returned (.bool (!(o == some 2) && !(o == some 0))) ∧ w' = w := by
  have I0 := Lib.hid (is_any h o 0)
  have I2 := Lib.hid (is_any h o 2)
  have c0 := h.v0
  have c2 := h.v2
  clear h
  generalize errV A o = x at *
  generalize errV A (some 0) = x0 at *
  generalize errV A (some 2) = x2 at *
  generalize (o == some 0) = b0 at *
  generalize (o == some 2) = b2 at *
  cases b0 <;> cases b2
  all_goals
    go_enter Tryd.func35, Tryd.ntmps35
    go_wp2_with (first
      | (go_at_call 36; refine I2.out.mono ?_; clear I2; rintro e w' ⟨rfl, rfl⟩)
      | (go_at_call 36; refine I0.out.mono ?_; clear I0; rintro e w' ⟨rfl, rfl⟩))
    go_ret
    exact ⟨rfl, rfl⟩
end
end Go.Proofs.YtpfldelmbigmbaaDoor
