/- Layer 10: what the laws ask of package pipe (Works10: its calls as functions on bytes, readers, writers), whatever it looks like in memory. -/
import Derived.Test.YtpfldelmbigmbaaDoorPiPure
namespace Go.Proofs.YtpfldelmbigmbaaDoor
open Go.RowKit

/-- what a call turns: blocks of S; S' are S's or new. -/
structure MvP (S S' : Nat → Prop) (w w' : World) : Prop where
  os : w'.os = w.os
  tape : w'.tape = w.tape
  output : w'.output = w.output
  size : w.heap.size ≤ w'.heap.size
  block : ∀ k, k < w.heap.size → ¬ S k → w'.heap[k]? = w.heap[k]?
  row : ∀ k, S' k → S k ∨ w.heap.size ≤ k
/-- the bytes of a string. -/
abbrev strP (L : List UInt8) : Value := .string ⟨L.toArray⟩

/-- (g: the blocks below g, a package's own variables among them, no call turns.) -/
structure Works10 (g : Nat) (Pi : World → (Nat → Prop) → Nat → List UInt8 → Nat → Nat → Prop) : Prop where
  keep : ∀ {W W' : World} {S : Nat → Prop} {p : Nat} {L : List UInt8} {r w : Nat}, Pi W S p L r w → W.heap.size ≤ W'.heap.size → (∀ k, S k ∨ k < g → W'.heap[k]? = W.heap[k]?) → Pi W' S p L r w
  lt : ∀ {W : World} {S : Nat → Prop} {p : Nat} {L : List UInt8} {r w : Nat}, Pi W S p L r w → ∀ k, S k ∨ k < g → k < W.heap.size
  ok : ∀ {W : World} {S : Nat → Prop} {p : Nat} {L : List UInt8} {r w : Nat}, Pi W S p L r w → POk L r w
  opn : ∀ {W : World} {S : Nat → Prop} {p : Nat} {L : List UInt8} {r w : Nat}, Pi W S p L r w → ∀ k : Int, Calls Tryd.prog 17 #[.pointer (some ⟨p, 0, none⟩), .int .i64 k] W fun e W' =>
    e = .returned (.int .i64 (opE r w k)) ∧ ∃ S', Pi W' S' p L (opR r w k) (opW r w k) ∧ MvP S S' W W'
  cls : ∀ {W : World} {S : Nat → Prop} {p : Nat} {L : List UInt8} {r w : Nat}, Pi W S p L r w → ∀ k : Int, Calls Tryd.prog 19 #[.pointer (some ⟨p, 0, none⟩), .int .i64 k] W fun e W' =>
    e = .returned (.tuple #[.bool (clB r w k), .int .i64 (clE r w k)]) ∧ ∃ S', Pi W' S' p L (clR r w k) (clW r w k) ∧ MvP S S' W W'
  rd : ∀ {W : World} {S : Nat → Prop} {p : Nat} {L : List UInt8} {r w : Nat}, Pi W S p L r w → ∀ n : Int, n ≤ 9223372036854775807 → Calls Tryd.prog 12 #[.pointer (some ⟨p, 0, none⟩), .int .i64 n] W fun e W' =>
    e = .returned (.tuple #[strP (rdS L w n), .int .i64 (rdE L w n)]) ∧ ∃ S', Pi W' S' p (rdL L w n) r w ∧ MvP S S' W W'
  wr : ∀ {W : World} {S : Nat → Prop} {p : Nat} {L : List UInt8} {r w : Nat}, Pi W S p L r w → ∀ s : ByteArray, (s.size ≤ 1000 ∨ r = 0) → Calls Tryd.prog 14 #[.pointer (some ⟨p, 0, none⟩), .string s] W fun e W' =>
    e = .returned (.tuple #[.int .i64 (wrN L r s.data.toList : Nat), .int .i64 (wrE L r s.data.toList)]) ∧ ∃ S', Pi W' S' p (wrL L r s.data.toList) r w ∧ MvP S S' W W'
  canR : ∀ {W : World} {S : Nat → Prop} {p : Nat} {L : List UInt8} {r w : Nat}, Pi W S p L r w → Calls Tryd.prog 23 #[.pointer (some ⟨p, 0, none⟩)] W fun e W' => e = .returned (.bool (canR L w)) ∧ Below W.heap.size W W'
  canW : ∀ {W : World} {S : Nat → Prop} {p : Nat} {L : List UInt8} {r w : Nat}, Pi W S p L r w → Calls Tryd.prog 24 #[.pointer (some ⟨p, 0, none⟩)] W fun e W' => e = .returned (.bool (canW L r)) ∧ Below W.heap.size W W'
  ends : ∀ {W : World} {S : Nat → Prop} {p : Nat} {L : List UInt8} {r w : Nat}, Pi W S p L r w → Calls Tryd.prog 21 #[.pointer (some ⟨p, 0, none⟩)] W fun e W' => e = .returned (.tuple #[.int .i64 (r : Nat), .int .i64 (w : Nat)]) ∧ Below W.heap.size W W'
  len : ∀ {W : World} {S : Nat → Prop} {p : Nat} {L : List UInt8} {r w : Nat}, Pi W S p L r w → Calls Tryd.prog 22 #[.pointer (some ⟨p, 0, none⟩)] W fun e W' => e = .returned (.int .i64 (L.length : Nat)) ∧ Below W.heap.size W W'
/-- New makes an empty one with a reader and a writer. -/
def NewP (g : Nat) (Pi : World → (Nat → Prop) → Nat → List UInt8 → Nat → Nat → Prop) (W0 : World) : Prop := g ≤ W0.heap.size ∧ ∀ W : World, Below W0.heap.size W0 W → Calls Tryd.prog 11 #[] W fun e W' => ∃ p S, e = .returned (.pointer (some ⟨p, 0, none⟩)) ∧ Pi W' S p [] 1 1 ∧ (∀ k, S k → W.heap.size ≤ k) ∧ Below W.heap.size W W'

section
variable {g : Nat} {Pi : World → (Nat → Prop) → Nat → List UInt8 → Nat → Nat → Prop}
/-- a law's own pipe. -/
def Sp (Pi : World → (Nat → Prop) → Nat → List UInt8 → Nat → Nat → Prop) (W0 W : World) (p : Nat) (L : List UInt8) (r w : Nat) : Prop := ∃ S, Pi W S p L r w ∧ (∀ k, S k → W0.heap.size ≤ k) ∧ Below W0.heap.size W0 W
variable {W0 W W' : World} {S S' : Nat → Prop} {p r w r' w' : Nat} {L L' : List UInt8}
theorem Sp.bel (h : Sp Pi W0 W p L r w) : Below W0.heap.size W0 W := by obtain ⟨_, _, _, h⟩ := h; exact h
theorem Sp.ok (K : Works10 g Pi) (h : Sp Pi W0 W p L r w) : POk L r w := by obtain ⟨_, h, _, _⟩ := h; exact K.ok h
theorem Sp.below (K : Works10 g Pi) (h : Sp Pi W0 W p L r w) (hb : Below W.heap.size W W') : Sp Pi W0 W' p L r w := by
  obtain ⟨S, h1, h2, h3⟩ := h
  exact ⟨S, K.keep h1 hb.size (fun k hk => hb.block k (K.lt h1 k hk)), h2, h3.trans (hb.mono h3.size)⟩
theorem mvp_below (hm : MvP S S' W W') (h2 : ∀ k, S k → W0.heap.size ≤ k) (h3 : Below W0.heap.size W0 W) : Below W0.heap.size W0 W' :=
  ⟨hm.os.trans h3.os, hm.tape.trans h3.tape, hm.output.trans h3.output, Nat.le_trans h3.size hm.size, fun k hk => (hm.block k (Nat.lt_of_lt_of_le hk h3.size) (fun c => by have := h2 k c; omega)).trans (h3.block k hk)⟩
theorem sp_mv (hS : ∀ k, S k → W0.heap.size ≤ k) (hB : Below W0.heap.size W0 W) (h : ∃ S', Pi W' S' p L' r' w' ∧ MvP S S' W W') : Sp Pi W0 W' p L' r' w' := by
  obtain ⟨S', h1, hm⟩ := h
  exact ⟨S', h1, fun k hk => by
    rcases hm.row k hk with c | c
    · exact hS k c
    · exact Nat.le_trans hB.size c, mvp_below hm hS hB⟩
theorem sp_new (K : NewP g Pi W0) (hB : Below W0.heap.size W0 W) : Calls Tryd.prog 11 #[] W fun e W' => ∃ p, e = .returned (.pointer (some ⟨p, 0, none⟩)) ∧ Sp Pi W0 W' p [] 1 1 := by
  refine (K.2 W hB).mono ?_
  rintro e W' ⟨p, S, rfl, h1, h2, h3⟩
  exact ⟨p, rfl, S, h1, fun k hk => Nat.le_trans hB.size (h2 k hk), hB.trans (h3.mono hB.size)⟩
theorem sp_open (K : Works10 g Pi) (h : Sp Pi W0 W p L r w) (k : Int) : Calls Tryd.prog 17 #[.pointer (some ⟨p, 0, none⟩), .int .i64 k] W fun e W' => e = .returned (.int .i64 (opE r w k)) ∧ Sp Pi W0 W' p L (opR r w k) (opW r w k) := by
  obtain ⟨S, h1, h2, h3⟩ := h
  refine (K.opn h1 k).mono ?_
  rintro e W' ⟨rfl, h⟩
  exact ⟨rfl, sp_mv h2 h3 h⟩
theorem sp_cls (K : Works10 g Pi) (h : Sp Pi W0 W p L r w) (k : Int) : Calls Tryd.prog 19 #[.pointer (some ⟨p, 0, none⟩), .int .i64 k] W fun e W' => e = .returned (.tuple #[.bool (clB r w k), .int .i64 (clE r w k)]) ∧ Sp Pi W0 W' p L (clR r w k) (clW r w k) := by
  obtain ⟨S, h1, h2, h3⟩ := h
  refine (K.cls h1 k).mono ?_
  rintro e W' ⟨rfl, h⟩
  exact ⟨rfl, sp_mv h2 h3 h⟩
theorem sp_read (K : Works10 g Pi) (h : Sp Pi W0 W p L r w) (n : Int) (hn : n ≤ 9223372036854775807) : Calls Tryd.prog 12 #[.pointer (some ⟨p, 0, none⟩), .int .i64 n] W fun e W' => e = .returned (.tuple #[strP (rdS L w n), .int .i64 (rdE L w n)]) ∧ Sp Pi W0 W' p (rdL L w n) r w := by
  obtain ⟨S, h1, h2, h3⟩ := h
  refine (K.rd h1 n hn).mono ?_
  rintro e W' ⟨rfl, h⟩
  exact ⟨rfl, sp_mv h2 h3 h⟩
theorem sp_write (K : Works10 g Pi) (h : Sp Pi W0 W p L r w) (s : ByteArray) (hs : s.size ≤ 1000 ∨ r = 0) : Calls Tryd.prog 14 #[.pointer (some ⟨p, 0, none⟩), .string s] W fun e W' => e = .returned (.tuple #[.int .i64 (wrN L r s.data.toList : Nat), .int .i64 (wrE L r s.data.toList)]) ∧ Sp Pi W0 W' p (wrL L r s.data.toList) r w := by
  obtain ⟨S, h1, h2, h3⟩ := h
  refine (K.wr h1 s hs).mono ?_
  rintro e W' ⟨rfl, h⟩
  exact ⟨rfl, sp_mv h2 h3 h⟩
theorem sp_canR (K : Works10 g Pi) (h : Sp Pi W0 W p L r w) : Calls Tryd.prog 23 #[.pointer (some ⟨p, 0, none⟩)] W fun e W' => e = .returned (.bool (canR L w)) ∧ Sp Pi W0 W' p L r w := by
  have h' := h
  obtain ⟨S, h1, h2, h3⟩ := h
  refine (K.canR h1).mono ?_
  rintro e W' ⟨rfl, hb⟩
  exact ⟨rfl, h'.below K hb⟩
theorem sp_canW (K : Works10 g Pi) (h : Sp Pi W0 W p L r w) : Calls Tryd.prog 24 #[.pointer (some ⟨p, 0, none⟩)] W fun e W' => e = .returned (.bool (canW L r)) ∧ Sp Pi W0 W' p L r w := by
  have h' := h
  obtain ⟨S, h1, h2, h3⟩ := h
  refine (K.canW h1).mono ?_
  rintro e W' ⟨rfl, hb⟩
  exact ⟨rfl, h'.below K hb⟩
theorem sp_ends (K : Works10 g Pi) (h : Sp Pi W0 W p L r w) : Calls Tryd.prog 21 #[.pointer (some ⟨p, 0, none⟩)] W fun e W' => e = .returned (.tuple #[.int .i64 (r : Nat), .int .i64 (w : Nat)]) ∧ Sp Pi W0 W' p L r w := by
  have h' := h
  obtain ⟨S, h1, h2, h3⟩ := h
  refine (K.ends h1).mono ?_
  rintro e W' ⟨rfl, hb⟩
  exact ⟨rfl, h'.below K hb⟩
theorem sp_len (K : Works10 g Pi) (h : Sp Pi W0 W p L r w) : Calls Tryd.prog 22 #[.pointer (some ⟨p, 0, none⟩)] W fun e W' => e = .returned (.int .i64 (L.length : Nat)) ∧ Sp Pi W0 W' p L r w := by
  have h' := h
  obtain ⟨S, h1, h2, h3⟩ := h
  refine (K.len h1).mono ?_
  rintro e W' ⟨rfl, hb⟩
  exact ⟨rfl, h'.below K hb⟩
end
end Go.Proofs.YtpfldelmbigmbaaDoor
