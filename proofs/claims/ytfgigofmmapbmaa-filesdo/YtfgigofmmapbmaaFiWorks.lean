/- Layer 9: what the laws ask of package files (Works: its calls as functions on a list of descriptors), whatever it looks like in memory; shown, with nothing but that. -/
import Derived.Test.YtfgigofmmapbmaaFiLaws
namespace Go.Proofs.Ytfgigofmmapbmaa
open Go.RowKit

def dupN (L : List FV) (p d : Int) : Int := if dupE L p d = 0 then freeI L p else 0
/-- what a call turns: blocks of S; S' are S's or new. -/
structure MvS (S S' : Nat → Prop) (w w' : World) : Prop where
  os : w'.os = w.os
  tape : w'.tape = w.tape
  output : w'.output = w.output
  size : w.heap.size ≤ w'.heap.size
  block : ∀ k, k < w.heap.size → ¬ S k → w'.heap[k]? = w.heap[k]?
  row : ∀ k, S' k → S k ∨ w.heap.size ≤ k

structure Works (Fi : World → (Nat → Prop) → Nat → List FV → Nat → Prop) : Prop where
  keep : ∀ {w w' : World} {S : Nat → Prop} {p : Nat} {L : List FV} {n : Nat}, Fi w S p L n → w.heap.size ≤ w'.heap.size → (∀ k, S k → w'.heap[k]? = w.heap[k]?) → Fi w' S p L n
  lt : ∀ {w : World} {S : Nat → Prop} {p : Nat} {L : List FV} {n : Nat}, Fi w S p L n → ∀ k, S k → k < w.heap.size
  wf : ∀ {w : World} {S : Nat → Prop} {p : Nat} {L : List FV} {n : Nat}, Fi w S p L n → WF L n
  opn : ∀ {w : World} {S : Nat → Prop} {p : Nat} {L : List FV} {n : Nat}, Fi w S p L n → L.length ≤ 80000 → n ≤ 80000 → ∀ P k t : Int, Calls Try.prog 17 #[.pointer (some ⟨p, 0, none⟩), .int .i64 P, .agg #[.int .i64 k, .int .i64 t]] w fun e w' =>
    e = .returned (.tuple #[.int .i64 (openN L n P k t), .int .i64 (openE L n P k t)]) ∧ ∃ S', Fi w' S' p (openL L n P k t) (openG L n P k t) ∧ MvS S S' w w'
  dup : ∀ {w : World} {S : Nat → Prop} {p : Nat} {L : List FV} {n : Nat}, Fi w S p L n → L.length ≤ 80000 → n ≤ 80000 → ∀ P d : Int, Calls Try.prog 18 #[.pointer (some ⟨p, 0, none⟩), .int .i64 P, .int .i64 d] w fun e w' =>
    e = .returned (.tuple #[.int .i64 (dupN L P d), .int .i64 (dupE L P d)]) ∧ ∃ S', Fi w' S' p (dupL L P d) n ∧ MvS S S' w w'
  cls : ∀ {w : World} {S : Nat → Prop} {p : Nat} {L : List FV} {n : Nat}, Fi w S p L n → L.length ≤ 80000 → n ≤ 80000 → ∀ P d : Int, Calls Try.prog 19 #[.pointer (some ⟨p, 0, none⟩), .int .i64 P, .int .i64 d] w fun e w' =>
    e = .returned (.tuple #[.agg #[.int .i64 (getX L P d).kind, .int .i64 (getX L P d).thing], .bool (clsB L P d), .int .i64 (getE L P d)]) ∧ ∃ S', Fi w' S' p (clsL L P d) n ∧ MvS S S' w w'
  get : ∀ {w : World} {S : Nat → Prop} {p : Nat} {L : List FV} {n : Nat}, Fi w S p L n → L.length ≤ 80000 → n ≤ 80000 → ∀ P d : Int, Calls Try.prog 15 #[.pointer (some ⟨p, 0, none⟩), .int .i64 P, .int .i64 d] w fun e w' =>
    e = .returned (.tuple #[.agg #[.int .i64 (getX L P d).kind, .int .i64 (getX L P d).thing], .int .i64 (getE L P d)]) ∧ Below w.heap.size w w'
  fork : ∀ {w : World} {S : Nat → Prop} {p : Nat} {L : List FV} {n : Nat}, Fi w S p L n → L.length ≤ 80000 → n ≤ 80000 → ∀ P c : Int, Calls Try.prog 20 #[.pointer (some ⟨p, 0, none⟩), .int .i64 P, .int .i64 c] w fun e w' =>
    e = .returned (.int .i64 (fork9E L P c)) ∧ ∃ S', Fi w' S' p (fork9L L P c) n ∧ MvS S S' w w'
  drop : ∀ {w : World} {S : Nat → Prop} {p : Nat} {L : List FV} {n : Nat}, Fi w S p L n → L.length ≤ 80000 → n ≤ 80000 → ∀ P : Int, Calls Try.prog 21 #[.pointer (some ⟨p, 0, none⟩), .int .i64 P] w fun e w' =>
    ∃ u, e = .returned u ∧ OsIn w' w.heap.size u (drO L P 8) ∧ ∃ S', Fi w' S' p (drL L P 8) n ∧ MvS S S' w w'
  count : ∀ {w : World} {S : Nat → Prop} {p : Nat} {L : List FV} {n : Nat}, Fi w S p L n → L.length ≤ 80000 → n ≤ 80000 → Calls Try.prog 13 #[.pointer (some ⟨p, 0, none⟩)] w fun e w' =>
    e = .returned (.int .i64 (cntN L n)) ∧ Below w.heap.size w w'

/-- New makes one of none. -/
def NewOf (Fi : World → (Nat → Prop) → Nat → List FV → Nat → Prop) : Prop := ∀ w : World, Calls Try.prog 11 #[] w fun e w' => ∃ p S, e = .returned (.pointer (some ⟨p, 0, none⟩)) ∧ Fi w' S p [] 0 ∧ (∀ k, S k → w.heap.size ≤ k) ∧ Below w.heap.size w w'

section
variable {Fi : World → (Nat → Prop) → Nat → List FV → Nat → Prop}
/-- a law's own files: nothing that was there ahead of the law has turned. -/
def St (Fi : World → (Nat → Prop) → Nat → List FV → Nat → Prop) (w0 w : World) (p : Nat) (L : List FV) (n : Nat) : Prop := ∃ S, Fi w S p L n ∧ (∀ k, S k → w0.heap.size ≤ k) ∧ Below w0.heap.size w0 w
variable {w0 w w' : World} {S S' : Nat → Prop} {p n n' : Nat} {L L' : List FV}
theorem St.bel (h : St Fi w0 w p L n) : Below w0.heap.size w0 w := by obtain ⟨_, _, _, h⟩ := h; exact h
theorem St.wf (W : Works Fi) (h : St Fi w0 w p L n) : WF L n := by obtain ⟨_, h, _, _⟩ := h; exact W.wf h
theorem St.below (W : Works Fi) (h : St Fi w0 w p L n) (hb : Below w.heap.size w w') : St Fi w0 w' p L n := by
  obtain ⟨S, h1, h2, h3⟩ := h
  exact ⟨S, W.keep h1 hb.size (fun k hk => hb.block k (W.lt h1 k hk)), h2, h3.trans (hb.mono h3.size)⟩
theorem St.alloc (W : Works Fi) (h : St Fi w0 w p L n) (o : Obj) : St Fi w0 (w.alloc o) p L n := h.below W ((Below.refl _ _).alloc (Nat.le_refl _) o)
theorem mvs_below (hm : MvS S S' w w') (h2 : ∀ k, S k → w0.heap.size ≤ k) (h3 : Below w0.heap.size w0 w) : Below w0.heap.size w0 w' :=
  ⟨hm.os.trans h3.os, hm.tape.trans h3.tape, hm.output.trans h3.output, Nat.le_trans h3.size hm.size, fun k hk => (hm.block k (Nat.lt_of_lt_of_le hk h3.size) (fun c => by have := h2 k c; omega)).trans (h3.block k hk)⟩
theorem st_mv (hS : ∀ k, S k → w0.heap.size ≤ k) (hB : Below w0.heap.size w0 w) (h : ∃ S', Fi w' S' p L' n' ∧ MvS S S' w w') : St Fi w0 w' p L' n' := by
  obtain ⟨S', h1, hm⟩ := h
  exact ⟨S', h1, fun k hk => by
    rcases hm.row k hk with c | c
    · exact hS k c
    · exact Nat.le_trans hB.size c, mvs_below hm hS hB⟩
theorem st_new (W : NewOf Fi) (hB : Below w0.heap.size w0 w) : Calls Try.prog 11 #[] w fun e w' => ∃ p, e = .returned (.pointer (some ⟨p, 0, none⟩)) ∧ St Fi w0 w' p [] 0 := by
  refine (W w).mono ?_
  rintro e w' ⟨p, S, rfl, h1, h2, h3⟩
  exact ⟨p, rfl, S, h1, fun k hk => Nat.le_trans hB.size (h2 k hk), hB.trans (h3.mono hB.size)⟩
theorem st_open (W : Works Fi) (h : St Fi w0 w p L n) (hl : L.length ≤ 80000) (hn : n ≤ 80000) (P k t : Int) : Calls Try.prog 17 #[.pointer (some ⟨p, 0, none⟩), .int .i64 P, .agg #[.int .i64 k, .int .i64 t]] w fun e w' =>
    e = .returned (.tuple #[.int .i64 (openN L n P k t), .int .i64 (openE L n P k t)]) ∧ St Fi w0 w' p (openL L n P k t) (openG L n P k t) := by
  obtain ⟨S, h1, h2, h3⟩ := h
  refine (W.opn h1 hl hn P k t).mono ?_
  rintro e w' ⟨rfl, h⟩
  exact ⟨rfl, st_mv h2 h3 h⟩
theorem st_dup (W : Works Fi) (h : St Fi w0 w p L n) (hl : L.length ≤ 80000) (hn : n ≤ 80000) (P d : Int) : Calls Try.prog 18 #[.pointer (some ⟨p, 0, none⟩), .int .i64 P, .int .i64 d] w fun e w' =>
    e = .returned (.tuple #[.int .i64 (dupN L P d), .int .i64 (dupE L P d)]) ∧ St Fi w0 w' p (dupL L P d) n := by
  obtain ⟨S, h1, h2, h3⟩ := h
  refine (W.dup h1 hl hn P d).mono ?_
  rintro e w' ⟨rfl, h⟩
  exact ⟨rfl, st_mv h2 h3 h⟩
theorem st_cls (W : Works Fi) (h : St Fi w0 w p L n) (hl : L.length ≤ 80000) (hn : n ≤ 80000) (P d : Int) : Calls Try.prog 19 #[.pointer (some ⟨p, 0, none⟩), .int .i64 P, .int .i64 d] w fun e w' =>
    e = .returned (.tuple #[.agg #[.int .i64 (getX L P d).kind, .int .i64 (getX L P d).thing], .bool (clsB L P d), .int .i64 (getE L P d)]) ∧ St Fi w0 w' p (clsL L P d) n := by
  obtain ⟨S, h1, h2, h3⟩ := h
  refine (W.cls h1 hl hn P d).mono ?_
  rintro e w' ⟨rfl, h⟩
  exact ⟨rfl, st_mv h2 h3 h⟩
theorem st_get (W : Works Fi) (h : St Fi w0 w p L n) (hl : L.length ≤ 80000) (hn : n ≤ 80000) (P d : Int) : Calls Try.prog 15 #[.pointer (some ⟨p, 0, none⟩), .int .i64 P, .int .i64 d] w fun e w' =>
    e = .returned (.tuple #[.agg #[.int .i64 (getX L P d).kind, .int .i64 (getX L P d).thing], .int .i64 (getE L P d)]) ∧ St Fi w0 w' p L n ∧ Below w.heap.size w w' := by
  have h' := h
  obtain ⟨S, h1, h2, h3⟩ := h
  refine (W.get h1 hl hn P d).mono ?_
  rintro e w' ⟨rfl, hb⟩
  exact ⟨rfl, h'.below W hb, hb⟩
theorem st_fork (W : Works Fi) (h : St Fi w0 w p L n) (hl : L.length ≤ 80000) (hn : n ≤ 80000) (P c : Int) : Calls Try.prog 20 #[.pointer (some ⟨p, 0, none⟩), .int .i64 P, .int .i64 c] w fun e w' =>
    e = .returned (.int .i64 (fork9E L P c)) ∧ St Fi w0 w' p (fork9L L P c) n := by
  obtain ⟨S, h1, h2, h3⟩ := h
  refine (W.fork h1 hl hn P c).mono ?_
  rintro e w' ⟨rfl, h⟩
  exact ⟨rfl, st_mv h2 h3 h⟩
theorem st_drop (W : Works Fi) (h : St Fi w0 w p L n) (hl : L.length ≤ 80000) (hn : n ≤ 80000) (P : Int) : Calls Try.prog 21 #[.pointer (some ⟨p, 0, none⟩), .int .i64 P] w fun e w' =>
    ∃ u, e = .returned u ∧ OsIn w' w.heap.size u (drO L P 8) ∧ St Fi w0 w' p (drL L P 8) n := by
  obtain ⟨S, h1, h2, h3⟩ := h
  refine (W.drop h1 hl hn P).mono ?_
  rintro e w' ⟨u, rfl, hu, h⟩
  exact ⟨u, rfl, hu, st_mv h2 h3 h⟩
theorem st_count (W : Works Fi) (h : St Fi w0 w p L n) (hl : L.length ≤ 80000) (hn : n ≤ 80000) : Calls Try.prog 13 #[.pointer (some ⟨p, 0, none⟩)] w fun e w' =>
    e = .returned (.int .i64 (cntN L n)) ∧ St Fi w0 w' p L n := by
  have h' := h
  obtain ⟨S, h1, h2, h3⟩ := h
  refine (W.count h1 hl hn).mono ?_
  rintro e w' ⟨rfl, hb⟩
  exact ⟨rfl, h'.below W hb⟩
end

/-! ### shown -/
theorem sh1 : openN [] 0 1 1 5 = 0 ∧ openE [] 0 1 1 5 = 0 ∧ openL [] 0 1 1 5 = [⟨1, 0, 1, 1, 5⟩] ∧ openG [] 0 1 1 5 = 1 := by decide
theorem sh2 : dupN [⟨1, 0, 1, 1, 5⟩] 1 0 = 1 ∧ dupE [⟨1, 0, 1, 1, 5⟩] 1 0 = 0 ∧ dupL [⟨1, 0, 1, 1, 5⟩] 1 0 = [⟨1, 0, 1, 1, 5⟩, ⟨1, 1, 1, 1, 5⟩] := by decide
theorem sh3 : clsB [⟨1, 0, 1, 1, 5⟩, ⟨1, 1, 1, 1, 5⟩] 1 0 = false ∧ getE [⟨1, 0, 1, 1, 5⟩, ⟨1, 1, 1, 1, 5⟩] 1 0 = 0 ∧ clsL [⟨1, 0, 1, 1, 5⟩, ⟨1, 1, 1, 1, 5⟩] 1 0 = [⟨1, 1, 1, 1, 5⟩] ∧ getX [⟨1, 0, 1, 1, 5⟩, ⟨1, 1, 1, 1, 5⟩] 1 0 = ⟨1, 0, 1, 1, 5⟩ := by decide
theorem sh4 : clsB [⟨1, 1, 1, 1, 5⟩] 1 1 = true ∧ getE [⟨1, 1, 1, 1, 5⟩] 1 1 = 0 ∧ clsL [⟨1, 1, 1, 1, 5⟩] 1 1 = [] ∧ getX [⟨1, 1, 1, 1, 5⟩] 1 1 = ⟨1, 1, 1, 1, 5⟩ := by decide
theorem sh5 : getE [] 1 1 = 80 ∧ getX [] 1 1 = ⟨0, 0, 0, 0, 0⟩ := by decide

set_option maxRecDepth 100000 in
theorem eql_opened (a b a' b' : Int) (w : World) : (binOp .eql 32 (.agg #[.int .i64 a, .int .i64 b]) (.agg #[.int .i64 a', .int .i64 b'])).run Try.prog w = .ok (.bool ((a == a') && (b == b'))) w := by
  cases h1 : (a == a') <;> cases h2 : (b == b') <;> simp [go_sem, h1, h2]

set_option maxRecDepth 100000 in
set_option maxHeartbeats 4000000 in
theorem shown9 {Fi : World → (Nat → Prop) → Nat → List FV → Nat → Prop} (W : Works Fi) (N : NewOf Fi) (w : World) : Calls Try.prog 10 #[] w fun e w' => e = .returned (.bool true) ∧ Below w.heap.size w w' := by
  have NW := Lib.hid (st_new (w0 := w) N (Below.refl _ w))
  have HW := Lib.hid W
  have hq := eql_opened 1 5 1 5
  clear W N
  go_enter Try.func10, Try.ntmps10
  go_wp2_with (first
    | (go_at_call 11; refine NW.out.mono ?_; rintro e w1 ⟨q, rfl, h1⟩; have O1 := Lib.hid (st_open HW.out h1 (by decide) (by decide) 1 1 5); rw [sh1.1, sh1.2.1, sh1.2.2.1, sh1.2.2.2] at O1; clear h1)
    | (go_at_call 17; refine O1.out.mono ?_; rintro e w2 ⟨rfl, h2⟩; have D1 := Lib.hid (st_dup HW.out h2 (by decide) (by decide) 1 0); rw [sh2.1, sh2.2.1, sh2.2.2] at D1; clear h2)
    | (go_at_call 18; refine D1.out.mono ?_; rintro e w3 ⟨rfl, h3⟩; have C1 := Lib.hid (st_cls HW.out h3 (by decide) (by decide) 1 0); rw [sh3.1, sh3.2.1, sh3.2.2.1, sh3.2.2.2] at C1; clear h3)
    | (go_at_call 19; refine C1.out.mono ?_; rintro e w4 ⟨rfl, h4⟩; have C2 := Lib.hid (st_cls HW.out (St.alloc HW.out h4 (.cells #[.int .i64 1, .int .i64 5] 32)) (by decide) (by decide) 1 1); rw [sh4.1, sh4.2.1, sh4.2.2.1, sh4.2.2.2] at C2; clear h4 C1)
    | (go_at_call 19; refine C2.out.mono ?_; rintro e w5 ⟨rfl, h5⟩; have G1 := Lib.hid (st_get HW.out (St.alloc HW.out h5 (.cells #[.int .i64 1, .int .i64 5] 32)) (by decide) (by decide) 1 1); rw [sh5.1, sh5.2] at G1; have BX := BoxA.new w5 32 #[.int .i64 1, .int .i64 5]; clear h5 C2)
    | (go_at_call 15; refine G1.out.mono ?_; rintro e w6 ⟨rfl, h6, hb6⟩; have BX6 := BX.below' hb6; have BX7 := BX6.alloc (.cells #[.int .i64 0, .int .i64 0] 32); have x0 := BX7.at 0 rfl; have x1 := BX7.at 1 rfl; have H6 := Lib.hid (St.alloc HW.out h6 (.cells #[.int .i64 0, .int .i64 0] 32)); clear h6 hb6 BX BX6 BX7))
  go_ret
  exact ⟨rfl, H6.out.bel⟩
end Go.Proofs.Ytfgigofmmapbmaa
