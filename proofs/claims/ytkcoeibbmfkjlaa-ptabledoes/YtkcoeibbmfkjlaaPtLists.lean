/- Lists of numbers that are owned: Ints of two that are the same; sixteens counted. -/
import Derived.Test.YtkcoeibbmfkjlaaPtFacts
namespace Go.Proofs.Ytkcoeibbmfkjlaa
open Go.RowKit

/-- a slice that holds these numbers: none, or cells of one block. -/
def ListAt (w : World) (v : Value) (xs : List Nat) : Prop :=
  (v = .slice none 0 0 ∧ xs = []) ∨ ∃ b cap, v = .slice (some ⟨b, 0, none⟩) xs.length cap ∧ ∀ j, j < xs.length → w.cell? ⟨b, j, none⟩ = some (.int .i64 ((xs[j]?.getD 0 : Nat) : Int))

theorem listAt_own {w : World} {base : Nat} {v : Value} {xs : List Nat} (h : w.ownsRow base 3 1 v xs.length (xs.map intV)) : ListAt w v xs := by
  rcases h.2 with ⟨rfl, h0⟩ | ⟨g, cap, cur, rfl, _⟩
  · exact .inl ⟨rfl, List.eq_nil_of_length_eq_zero h0⟩
  · refine .inr ⟨g, cap, rfl, fun j hj => ?_⟩
    have := h.cells (g := g) rfl j (intV (xs[j]?.getD 0)) (by simp [hj])
    simpa [Addr.add_mid, intV] using this

/-- .. as long as its block lies. -/
theorem ListAt.keep {w w' : World} {v : Value} {xs : List Nat} (h : ListAt w v xs) (hk : ∀ b, v.ownBlock = some b → w'.heap[b]? = w.heap[b]?) : ListAt w' v xs := by
  rcases h with h | ⟨b, cap, rfl, hc⟩
  · exact .inl h
  · refine .inr ⟨b, cap, rfl, fun j hj => ?_⟩
    exact (World.cell?_of_block (w := w) (hk b rfl)).trans (hc j hj)
theorem ListAt.below {w w' : World} {v : Value} {xs : List Nat} (h : ListAt w v xs) (hb : Below w.heap.size w w') (hlt : ∀ b, v.ownBlock = some b → b < w.heap.size) : ListAt w' v xs :=
  h.keep fun b e => hb.block b (hlt b e)
theorem ListAt.grown {w w' : World} {g : Nat} {v : Value} {xs : List Nat} (h : ListAt w v xs) (hg : w.grownBy w' (some g)) (hlt : ∀ b, v.ownBlock = some b → b < w.heap.size ∧ b ≠ g) : ListAt w' v xs :=
  h.keep fun b e => hg.block b (hlt b e).1 (fun c => (hlt b e).2 (Option.some.inj c))

theorem ListAt.form {w : World} {v : Value} {xs : List Nat} (h : ListAt w v xs) : ∃ a cap, v = .slice a xs.length cap := by
  rcases h with ⟨rfl, rfl⟩ | ⟨b, cap, rfl, _⟩
  · exact ⟨none, 0, rfl⟩
  · exact ⟨_, cap, rfl⟩

theorem pages_sl {w : World} {p g n root : Nat} {S : PtS} (hm : S.at w p g n) (h : S.ok n root) :
    Calls Try.prog 20 #[.pointer (some ⟨p, 0, none⟩), .int .i64 root] w fun e W' =>
      (∃ a cap, e = .returned (.tuple #[.slice a (pagesL S.E).length cap, .int .i64 0]) ∧ ListAt W' (.slice a (pagesL S.E).length cap) (pagesL S.E) ∧ ∀ b, (Value.slice a (pagesL S.E).length cap).ownBlock = some b → w.heap.size ≤ b ∧ b < W'.heap.size) ∧ Below w.heap.size w W' := by
  refine (pages_rep hm h).mono ?_
  rintro e W' ⟨⟨v, rfl, hrow⟩, hB⟩
  have hl := listAt_own hrow
  obtain ⟨a, cap, rfl⟩ := hl.form
  exact ⟨⟨a, cap, rfl, hl, fun b e => hrow.lt b e⟩, hB⟩

theorem below_drew1 {m : Nat} {w w1 : World} (h : Below m w w1) : Below m w w1.drew := ⟨h.os, h.tape, h.output, h.size, h.block⟩

set_option maxRecDepth 100000 in
set_option maxHeartbeats 1000000 in
theorem ints_row (b b' cap cap' : Nat) (xs : List Nat) (w : World) (hl : xs.length ≤ 1000) (hc : ∀ j, j < xs.length → w.cell? ⟨b, j, none⟩ = some (.int .i64 ((xs[j]?.getD 0 : Nat) : Int))) (hc' : ∀ j, j < xs.length → w.cell? ⟨b', j, none⟩ = some (.int .i64 ((xs[j]?.getD 0 : Nat) : Int))) (hb : b < w.heap.size) (hb' : b' < w.heap.size) :
    Calls Try.prog 22 #[.slice (some ⟨b, 0, none⟩) xs.length cap, .slice (some ⟨b', 0, none⟩) xs.length cap'] w fun e w' => e = .returned (.bool true) ∧ Below w.heap.size w w' := by
  have HC := Lib.hid hc; have HC' := Lib.hid hc'
  clear hc hc'
  go_enter Try.func22, Try.ntmps22
  go_wp2
  go_loopw [5] (fun i wr => ∃ k : Nat, k ≤ xs.length ∧ i = .int .i64 k ∧ Below w.heap.size w wr) (fun i _ => xs.length - (intOf i).toNat)
  case atStart => exact ⟨0, Nat.zero_le _, rfl, Below.refl _ _⟩
  case round =>
    obtain ⟨k, hk, rfl, hB⟩ := hrel
    by_cases hlt : k < xs.length
    · have c := (hB.cell (p := ⟨b, k, none⟩) hb).trans (HC.out k hlt)
      have c' := (hB.cell (p := ⟨b', k, none⟩) hb').trans (HC'.out k hlt)
      have i0 : (0 : Int) ≤ (k : Int) := by omega
      have i1 : (k : Int) < (xs.length : Int) := by omega
      generalize ((xs[k]?.getD 0 : Nat) : Int) = x at c c'
      have HB := Lib.hid hB; clear hB
      go_wp2
      go_quiet (fail)
      go_wp2
      go_roundw
      case rel => exact ⟨k + 1, by omega, by go_num, below_drewN HB.out⟩
      case measure => simp [intOf]; omega
    · obtain rfl : k = xs.length := by omega
      go_wp2
      go_ret
      exact ⟨rfl, hB⟩

set_option maxRecDepth 100000 in
set_option maxHeartbeats 1000000 in
theorem ints_zero (a a' : Option Addr) (cap cap' : Nat) (w : World) :
    Calls Try.prog 22 #[.slice a 0 cap, .slice a' 0 cap'] w fun e w' => e = .returned (.bool true) ∧ Below w.heap.size w w' := by
  go_enter Try.func22, Try.ntmps22
  go_wp2
  go_loopw [5] (fun i wr => i = .int .i64 0 ∧ wr = w) (fun _ _ => 0)
  case atStart => exact ⟨rfl, rfl⟩
  case round =>
    obtain ⟨rfl, rfl⟩ := hrel
    go_wp2
    go_ret
    exact ⟨rfl, Below.refl _ _⟩

theorem ints_same {w : World} {v v' : Value} {xs : List Nat} (hl : xs.length ≤ 1000) (h : ListAt w v xs) (h' : ListAt w v' xs) (hb : ∀ b, v.ownBlock = some b → b < w.heap.size) (hb' : ∀ b, v'.ownBlock = some b → b < w.heap.size) :
    Calls Try.prog 22 #[v, v'] w fun e w' => e = .returned (.bool true) ∧ Below w.heap.size w w' := by
  rcases h with ⟨rfl, e⟩ | ⟨b, cap, rfl, hc⟩
  · subst e
    rcases h' with ⟨rfl, _⟩ | ⟨b', cap', rfl, hc'⟩
    · exact ints_zero _ _ _ _ w
    · exact ints_zero _ _ _ _ w
  · rcases h' with ⟨rfl, e⟩ | ⟨b', cap', rfl, hc'⟩
    · subst e
      exact ints_zero _ _ _ _ w
    · exact ints_row b b' cap cap' xs w hl hc hc' (hb b rfl) (hb' b' rfl)

end Go.Proofs.Ytkcoeibbmfkjlaa
