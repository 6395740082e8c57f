/- PipeDoes, under Works10: what acts tell, and a pipe behind each of them, are the document's. -/
import Derived.Test.YtpfldelmbigmbaaDoorPipeWaitsOf
import Derived.Test.YtpfldelmbigmbaaDoorRef10W
import Derived.Test.YtpfldelmbigmbaaDoorRiIn
import Derived.Deep.DeepCutAuto
import Derived.Deep.CutBlock
import Derived.Deep.CutRange
namespace Go.Proofs.YtpfldelmbigmbaaDoor
open Go.RowKit

/-- a pipe at p holds L1, r1, v1; the document's own at q L2, r2, v2; a box of the law's own at b. -/
def BoX (g : Nat) (Pi : World → (Nat → Prop) → Nat → List UInt8 → Nat → Nat → Prop) (W0 W : World) (p q b : Nat) (xs : Array Value) (L1 : List UInt8) (r1 v1 : Nat) (L2 : List UInt8) (r2 v2 : Nat) : Prop :=
  ∃ S, Pi W S p L1 r1 v1 ∧ (∀ k, S k → W0.heap.size ≤ k ∧ k ≠ q ∧ k ≠ b) ∧ RP W q L2 r2 v2 ∧ (g ≤ W0.heap.size ∧ W0.heap.size ≤ q) ∧ Below W0.heap.size W0 W ∧ BoxA W b 30 xs ∧ b ≠ q
/-- the same without a box. -/
def BoP (g : Nat) (Pi : World → (Nat → Prop) → Nat → List UInt8 → Nat → Nat → Prop) (W0 W : World) (p q : Nat) (L : List UInt8) (r v : Nat) : Prop :=
  ∃ S, Pi W S p L r v ∧ (∀ k, S k → W0.heap.size ≤ k ∧ k ≠ q) ∧ RP W q L r v ∧ (g ≤ W0.heap.size ∧ W0.heap.size ≤ q) ∧ Below W0.heap.size W0 W
section
variable {g : Nat} {Pi : World → (Nat → Prop) → Nat → List UInt8 → Nat → Nat → Prop} {W0 W W' : World} {p q b : Nat} {xs : Array Value} {L L1 L2 L' : List UInt8} {r v r1 v1 r2 v2 r' v' : Nat} {S : Nat → Prop}
theorem BoP.bel (h : BoP g Pi W0 W p q L r v) : Below W0.heap.size W0 W := by obtain ⟨_, _, _, _, _, h⟩ := h; exact h
theorem BoP.ok (K : Works10 g Pi) (h : BoP g Pi W0 W p q L r v) : POk L r v := by obtain ⟨_, h, _⟩ := h; exact K.ok h
theorem BoP.start (K : Works10 g Pi) (hg : g ≤ W0.heap.size) (h : Sp Pi W0 W p [] 1 1) : BoP g Pi W0 (W.alloc (.cells #[.string ⟨#[]⟩, .int .i64 1, .int .i64 1] 28)) p W.heap.size [] 1 1 := by
  obtain ⟨S, h1, h2, h3⟩ := h
  have hl := K.lt h1
  exact ⟨S, K.keep h1 (by simp) (fun k hk => Below.heap_alloc W _ k (hl k hk)), fun k hk => ⟨h2 k hk, Nat.ne_of_lt (hl k (.inl hk))⟩, BoxA.new W _ _, ⟨hg, h3.size⟩, h3.alloc h3.size _⟩
theorem BoP.box (K : Works10 g Pi) (h : BoP g Pi W0 W p q L r v) (xs : Array Value) : BoX g Pi W0 (W.alloc (.cells xs 30)) p q W.heap.size xs L r v L r v := by
  obtain ⟨S, h1, h2, h3, h4, h5⟩ := h
  have hl := K.lt h1
  have hq := h3.lt
  exact ⟨S, K.keep h1 (by simp) (fun k hk => Below.heap_alloc W _ k (hl k hk)), fun k hk => ⟨(h2 k hk).1, (h2 k hk).2, Nat.ne_of_lt (hl k (.inl hk))⟩, h3.alloc _, h4, h5.alloc h5.size _, BoxA.new W _ _, by omega⟩
theorem BoX.un (h : BoX g Pi W0 W p q b xs L r v L r v) : BoP g Pi W0 W p q L r v := by
  obtain ⟨S, h1, h2, h3, h4, h5, _⟩ := h
  exact ⟨S, h1, fun k hk => ⟨(h2 k hk).1, (h2 k hk).2.1⟩, h3, h4, h5⟩
theorem BoX.bx (h : BoX g Pi W0 W p q b xs L1 r1 v1 L2 r2 v2) : BoxA W b 30 xs := by obtain ⟨_, _, _, _, _, _, h, _⟩ := h; exact h
theorem BoX.rp (h : BoX g Pi W0 W p q b xs L1 r1 v1 L2 r2 v2) : RP W q L2 r2 v2 := by obtain ⟨_, _, _, h, _⟩ := h; exact h
theorem BoX.below (K : Works10 g Pi) (h : BoX g Pi W0 W p q b xs L1 r1 v1 L2 r2 v2) (hb : Below W.heap.size W W') : BoX g Pi W0 W' p q b xs L1 r1 v1 L2 r2 v2 := by
  obtain ⟨S, h1, h2, h3, h4, h5, h6, h7⟩ := h
  exact ⟨S, K.keep h1 hb.size (fun k hk => hb.block k (K.lt h1 k hk)), h2, h3.below' hb, h4, h5.trans (hb.mono h5.size), h6.below' hb, h7⟩
theorem BoX.drew (K : Works10 g Pi) (h : BoX g Pi W0 W p q b xs L1 r1 v1 L2 r2 v2) : BoX g Pi W0 W.drew p q b xs L1 r1 v1 L2 r2 v2 := h.below K ⟨rfl, rfl, rfl, Nat.le_refl _, fun _ _ => rfl⟩
theorem box_p {L' : List UInt8} (_ : Pi W S p L1 r1 v1) (h2 : ∀ k, S k → W0.heap.size ≤ k ∧ k ≠ q ∧ k ≠ b) (h3 : RP W q L2 r2 v2) (h4 : g ≤ W0.heap.size ∧ W0.heap.size ≤ q) (h5 : Below W0.heap.size W0 W) (h6 : BoxA W b 30 xs) (h7 : b ≠ q) (hp : ∃ S', Pi W' S' p L' r' v' ∧ MvP S S' W W') : BoX g Pi W0 W' p q b xs L' r' v' L2 r2 v2 := by
  obtain ⟨S', h', hm⟩ := hp
  have hq := h3.lt
  have hb := h6.lt
  refine ⟨S', h', fun k hk => ?_, h3.keep (hm.block q hq (fun c => (h2 q c).2.1 rfl)), h4, mvp_below hm (fun k hk => (h2 k hk).1) h5, h6.keep (hm.block b hb (fun c => (h2 b c).2.2 rfl)), h7⟩
  rcases hm.row k hk with c | c
  · exact h2 k c
  · exact ⟨Nat.le_trans h5.size c, by omega, by omega⟩
theorem box_d {L' : List UInt8} (K : Works10 g Pi) (h : BoX g Pi W0 W p q b xs L1 r1 v1 L2 r2 v2) (hr : RP W' q L' r' v') (ht : Tur q W W') : BoX g Pi W0 W' p q b xs L1 r1 v1 L' r' v' := by
  obtain ⟨S, h1, h2, h3, h4, h5, h6, h7⟩ := h
  exact ⟨S, K.keep h1 ht.size (fun k hk => ht.block k (K.lt h1 k hk) (by rcases hk with c | c; exact (h2 k c).2.1; omega)), h2, hr, h4, ht.below h5 h4.2 h5.size, h6.keep (ht.block b h6.lt h7), h7⟩

/-! ### the calls of the two -/
theorem bx_read (K : Works10 g Pi) (h : BoX g Pi W0 W p q b xs L r v L2 r2 v2) (n : Int) (hn : n ≤ 9223372036854775807) : Calls Tryd.prog 12 #[.pointer (some ⟨p, 0, none⟩), .int .i64 n] W fun e W' => e = .returned (.tuple #[strP (rdS L v n), .int .i64 (rdE L v n)]) ∧ BoX g Pi W0 W' p q b xs (rdL L v n) r v L2 r2 v2 := by
  obtain ⟨S, h1, h2, h3, h4, h5, h6, h7⟩ := h
  refine (K.rd h1 n hn).mono ?_
  rintro e W' ⟨rfl, h⟩
  exact ⟨rfl, box_p h1 h2 h3 h4 h5 h6 h7 h⟩
theorem dx_read (K : Works10 g Pi) (h : BoX g Pi W0 W p q b xs L1 r1 v1 L r v) (ok : POk L r v) (n : Int) : Calls Tryd.prog 13 #[.pointer (some ⟨q, 0, none⟩), .int .i64 n] W fun e W' => e = .returned (.tuple #[strP (rdS L v n), .int .i64 (rdE L v n)]) ∧ BoX g Pi W0 W' p q b xs L1 r1 v1 (rdL L v n) r v := by
  refine (rread h.rp ok n).mono ?_
  rintro e W' ⟨rfl, hr, ht⟩
  exact ⟨rfl, box_d K h hr ht⟩
theorem bx_write (K : Works10 g Pi) (h : BoX g Pi W0 W p q b xs L r v L2 r2 v2) (s : ByteArray) (hs : s.size ≤ 1000) : Calls Tryd.prog 14 #[.pointer (some ⟨p, 0, none⟩), .string s] W fun e W' => e = .returned (.tuple #[.int .i64 (wrN L r s.data.toList : Nat), .int .i64 (wrE L r s.data.toList)]) ∧ BoX g Pi W0 W' p q b xs (wrL L r s.data.toList) r v L2 r2 v2 := by
  obtain ⟨S, h1, h2, h3, h4, h5, h6, h7⟩ := h
  refine (K.wr h1 s (.inl hs)).mono ?_
  rintro e W' ⟨rfl, h⟩
  exact ⟨rfl, box_p h1 h2 h3 h4 h5 h6 h7 h⟩
theorem dx_write (K : Works10 g Pi) (h : BoX g Pi W0 W p q b xs L1 r1 v1 L r v) (ok : POk L r v) (s : ByteArray) (hs : s.size ≤ 1000) : Calls Tryd.prog 16 #[.pointer (some ⟨q, 0, none⟩), .string s] W fun e W' => e = .returned (.tuple #[.int .i64 (wrN L r s.data.toList : Nat), .int .i64 (wrE L r s.data.toList)]) ∧ BoX g Pi W0 W' p q b xs L1 r1 v1 (wrL L r s.data.toList) r v := by
  refine (rwrite h.rp ok s (.inl hs)).mono ?_
  rintro e W' ⟨rfl, hr, ht⟩
  exact ⟨rfl, box_d K h hr ht⟩
theorem bx_open (K : Works10 g Pi) (h : BoX g Pi W0 W p q b xs L r v L2 r2 v2) (k : Int) : Calls Tryd.prog 17 #[.pointer (some ⟨p, 0, none⟩), .int .i64 k] W fun e W' => e = .returned (.int .i64 (opE r v k)) ∧ BoX g Pi W0 W' p q b xs L (opR r v k) (opW r v k) L2 r2 v2 := by
  obtain ⟨S, h1, h2, h3, h4, h5, h6, h7⟩ := h
  refine (K.opn h1 k).mono ?_
  rintro e W' ⟨rfl, h⟩
  exact ⟨rfl, box_p h1 h2 h3 h4 h5 h6 h7 h⟩
theorem dx_open (K : Works10 g Pi) (h : BoX g Pi W0 W p q b xs L1 r1 v1 L r v) (ok : POk L r v) (k : Int) : Calls Tryd.prog 18 #[.pointer (some ⟨q, 0, none⟩), .int .i64 k] W fun e W' => e = .returned (.int .i64 (opE r v k)) ∧ BoX g Pi W0 W' p q b xs L1 r1 v1 L (opR r v k) (opW r v k) := by
  refine (ropen h.rp ok k).mono ?_
  rintro e W' ⟨rfl, hr, ht⟩
  exact ⟨rfl, box_d K h hr ht⟩
theorem bx_cls (K : Works10 g Pi) (h : BoX g Pi W0 W p q b xs L r v L2 r2 v2) (k : Int) : Calls Tryd.prog 19 #[.pointer (some ⟨p, 0, none⟩), .int .i64 k] W fun e W' => e = .returned (.tuple #[.bool (clB r v k), .int .i64 (clE r v k)]) ∧ BoX g Pi W0 W' p q b xs L (clR r v k) (clW r v k) L2 r2 v2 := by
  obtain ⟨S, h1, h2, h3, h4, h5, h6, h7⟩ := h
  refine (K.cls h1 k).mono ?_
  rintro e W' ⟨rfl, h⟩
  exact ⟨rfl, box_p h1 h2 h3 h4 h5 h6 h7 h⟩
theorem dx_cls (K : Works10 g Pi) (h : BoX g Pi W0 W p q b xs L1 r1 v1 L r v) (ok : POk L r v) (k : Int) : Calls Tryd.prog 20 #[.pointer (some ⟨q, 0, none⟩), .int .i64 k] W fun e W' => e = .returned (.tuple #[.bool (clB r v k), .int .i64 (clE r v k)]) ∧ BoX g Pi W0 W' p q b xs L1 r1 v1 L (clR r v k) (clW r v k) := by
  refine (rclose h.rp ok k).mono ?_
  rintro e W' ⟨rfl, hr, ht⟩
  exact ⟨rfl, box_d K h hr ht⟩
theorem bx_canR (K : Works10 g Pi) (h : BoX g Pi W0 W p q b xs L r v L2 r2 v2) : Calls Tryd.prog 23 #[.pointer (some ⟨p, 0, none⟩)] W fun e W' => e = .returned (.bool (canR L v)) ∧ BoX g Pi W0 W' p q b xs L r v L2 r2 v2 := by
  have h' := h
  obtain ⟨S, h1, _⟩ := h
  refine (K.canR h1).mono ?_
  rintro e W' ⟨rfl, hb⟩
  exact ⟨rfl, h'.below K hb⟩
theorem bx_canW (K : Works10 g Pi) (h : BoX g Pi W0 W p q b xs L r v L2 r2 v2) : Calls Tryd.prog 24 #[.pointer (some ⟨p, 0, none⟩)] W fun e W' => e = .returned (.bool (canW L r)) ∧ BoX g Pi W0 W' p q b xs L r v L2 r2 v2 := by
  have h' := h
  obtain ⟨S, h1, _⟩ := h
  refine (K.canW h1).mono ?_
  rintro e W' ⟨rfl, hb⟩
  exact ⟨rfl, h'.below K hb⟩
theorem bx_ends (K : Works10 g Pi) (h : BoX g Pi W0 W p q b xs L r v L2 r2 v2) : Calls Tryd.prog 21 #[.pointer (some ⟨p, 0, none⟩)] W fun e W' => e = .returned (.tuple #[.int .i64 (r : Nat), .int .i64 (v : Nat)]) ∧ BoX g Pi W0 W' p q b xs L r v L2 r2 v2 := by
  have h' := h
  obtain ⟨S, h1, _⟩ := h
  refine (K.ends h1).mono ?_
  rintro e W' ⟨rfl, hb⟩
  exact ⟨rfl, h'.below K hb⟩
theorem bx_len (K : Works10 g Pi) (h : BoX g Pi W0 W p q b xs L r v L2 r2 v2) : Calls Tryd.prog 22 #[.pointer (some ⟨p, 0, none⟩)] W fun e W' => e = .returned (.int .i64 (L.length : Nat)) ∧ BoX g Pi W0 W' p q b xs L r v L2 r2 v2 := by
  have h' := h
  obtain ⟨S, h1, _⟩ := h
  refine (K.len h1).mono ?_
  rintro e W' ⟨rfl, hb⟩
  exact ⟨rfl, h'.below K hb⟩
end
section
variable {P : Program} {md : Region.Mode} {ops : Array Oper} {Q : Exit → Act → World → Prop} {S : World → Prop}
/-- an operation that is passed over is taken first. -/
theorem takeU10 (i : Nat) (d : Option Nat) {fuel : Nat} {listed : Array Bool} {a : Act} {w : World} (hd : (ops[i]?).map Oper.dst = some d)
    (hs : Region.noSelect ops = true) (hf : Region.free md ops listed i = true) (hr : (Region.ready md ops listed).contains i = true)
    (hQ : ∀ c a w, Q (.panic c) (a.put d undef) w → Q (.panic c) a w) (hw : ∀ oi, ops[i]? = some oi → Region.wanted oi (yielded ops a.tmps) = false) (hS : S w)
    (h : wpAnyH P md ops Q S fuel (listed.setIfInBounds i true) (a.put d undef) w) : wpAnyH P md ops Q S (fuel + 1) listed a w := by
  cases e : ops[i]? with
  | none => rw [e] at hd; cases hd
  | some oi =>
    rw [e] at hd
    obtain rfl : oi.dst = d := by simpa using hd
    exact wpAnyH_take e hs hf hr hQ (.inr ⟨hw oi e, rfl⟩) hS h
end
section
/-- what the law's last test asks, case by case. -/
theorem tail_cases (L : List UInt8) (r v : Nat) : ∃ (c : Nat) (cr cw : Bool), L.length = c ∧ canR L v = cr ∧ canW L r = cw ∧
    (((0 < c) ∧ cr = true ∧ ((((r : Int) == 0) = true ∧ cw = true) ∨ (((r : Int) == 0) = false ∧ cw = decide ((c : Int) < 32)))) ∨
    (c = 0 ∧ cr = ((v : Int) == 0) ∧ cw = true ∧ (((r : Int) == 0) = true ∨ ((r : Int) == 0) = false))) := by
  refine ⟨_, _, _, rfl, rfl, rfl, ?_⟩
  unfold canR canW
  by_cases hc : 0 < L.length
  · left
    refine ⟨hc, by simp [hc], ?_⟩
    by_cases hr : r = 0
    · left; subst hr; exact ⟨rfl, rfl⟩
    · right
      refine ⟨by rw [beq_eq_false_iff_ne]; omega, ?_⟩
      rw [Bool.eq_iff_iff]
      simp [hr]
      omega
  · right
    have h0 : L.length = 0 := by omega
    refine ⟨h0, ?_, by simp [h0], ?_⟩
    · rw [Bool.eq_iff_iff]
      simp [h0]
    · by_cases hr : r = 0
      · left; subst hr; rfl
      · right; rw [beq_eq_false_iff_ne]; omega
end

set_option maxRecDepth 100000 in
set_option maxHeartbeats 16000000 in
theorem does_of {gB : Nat} {Pi : World → (Nat → Prop) → Nat → List UInt8 → Nat → Nat → Prop} (K : Works10 gB Pi) (w0 : World) (N : NewP gB Pi w0) (a : Option Addr) (len cap : Nat) (hA : ActsAt w0 a len) :
    Calls Tryd.prog 3 #[.slice a len cap] w0 fun e w' => e = .returned (.bool true) ∧ Below w0.heap.size w0 w' := by
  have HA := Lib.hid hA.2
  have hlen := hA.1
  have HS := Lib.hid (shown10 K w0 N)
  have HK := Lib.hid K
  have HN := Lib.hid N
  unfold maxLen at hlen
  clear hA K N
  go_enter Tryd.func3, Tryd.ntmps3
  go_wp2_with (first
    | (go_at_call 10; refine HS.out.mono ?_; rintro e w1 ⟨rfl, hB⟩; have HB := Lib.hid hB; clear hB)
    | (go_at_call 11; refine (sp_new HN.out HB.out).mono ?_; rintro e w2 ⟨p, rfl, h2⟩; have H2 := Lib.hid (BoP.start HK.out HN.out.1 h2); clear h2))
  generalize w2.heap.size = q at *
  go_loopw [6] (fun i wr => ∃ j : Nat, j ≤ len ∧ j ≤ 150 ∧ i = .int .i64 (j : Int) ∧ ∃ (L : List UInt8) (r v : Nat), BoP gB Pi w0 wr p q L r v) (fun i _ => 150 - (intOf i).toNat)
  case atStart => exact ⟨0, Nat.zero_le _, by omega, rfl, [], 1, 1, H2.out⟩
  case round =>
    obtain ⟨j, hj, hj2, rfl, L, r, v, hR⟩ := hrel
    have HR := Lib.hid hR
    have HO := Lib.hid (hR.ok HK.out)
    clear hR
    by_cases hlt : j < len ∧ j < 150
    · obtain ⟨l1, l2⟩ := hlt
      have l3 : (j : Int) < (len : Int) := by omega
      have l4 : (j : Int) < 150 := by omega
      obtain ⟨b, off, rfl, hb, hcs⟩ := HA.out (by omega)
      obtain ⟨d, k, n, s, hA⟩ := hcs j l1
      have HA1 := Lib.hid hA
      have hA0 := hA.below HR.out.bel hb
      have c0 := hA0.c0
      have c1 := hA0.c1
      have c2 := hA0.c2
      have c3 := hA0.c3
      have HX := Lib.hid (HR.out.box HK.out #[.int .i64 d, .int .i64 k, .int .i64 n, .string s])
      obtain ⟨y, hy, hd⟩ := mod6 d
      have hx := six d y hd
      clear hcs hA hA0 hd
      have y0 := HX.out.bx.at 0 (v := .int .i64 d) rfl; have y1 := HX.out.bx.at 1 (v := .int .i64 k) rfl; have y2 := HX.out.bx.at 2 (v := .int .i64 n) rfl; have y3 := HX.out.bx.at 3 (v := .string s) rfl
      go_upto_block 2 with fail
      go_cut [8] from 27 to 200 (fun s8 wx => s8 = .bool true ∧ ∃ (L' : List UInt8) (r' v' : Nat), BoX gB Pi w0 wx p q wr.heap.size #[.int .i64 d, .int .i64 k, .int .i64 n, .string s] L' r' v' L' r' v')
      case first =>
        rcases (show (y = 0 ∨ y = 1) ∨ (y = 2 ∨ y = 3) ∨ y = 4 ∨ y = 5 by omega) with hyy | hyy | rfl | rfl
        · as_aux_lemma =>
            obtain ⟨X, hX⟩ : ∃ X : ByteArray, (⟨(rdS L v n).toArray⟩ : ByteArray) = X := ⟨_, rfl⟩
            obtain ⟨g, hg⟩ : ∃ g, rdE L v n = g := ⟨_, rfl⟩
            obtain ⟨L', hL'⟩ : ∃ L', rdL L v n = L' := ⟨_, rfl⟩
            obtain ⟨r', hr'⟩ : ∃ r', r = r' := ⟨_, rfl⟩
            obtain ⟨v', hv'⟩ : ∃ v', v = v' := ⟨_, rfl⟩
            have KA : ∀ (w5 : World) (b' : Nat) (xs' : Array Value), BoX gB Pi w0 w5 p q b' xs' L r v L r v → Calls Tryd.prog 12 #[.pointer (some ⟨p, 0, none⟩), .int .i64 n] w5 fun e w' => e = .returned (.tuple #[.string X, .int .i64 g]) ∧ BoX gB Pi w0 w' p q b' xs' L' r' v' L r v := fun w5 b' xs' h => by have := bx_read HK.out h n HA1.out.hn; unfold strP at this; rw [hX, hg, hL'] at this; rw [← hr', ← hv']; exact this
            have KB : ∀ (w5 : World) (b' : Nat) (xs' : Array Value), BoX gB Pi w0 w5 p q b' xs' L' r' v' L r v → Calls Tryd.prog 13 #[.pointer (some ⟨q, 0, none⟩), .int .i64 n] w5 fun e w' => e = .returned (.tuple #[.string X, .int .i64 g]) ∧ BoX gB Pi w0 w' p q b' xs' L' r' v' L' r' v' := fun w5 b' xs' h => by have := dx_read HK.out h HO.out n; unfold strP at this; rw [hX, hg, hL'] at this; rw [← hr', ← hv'] at this ⊢; exact this
            have HKA := Lib.hid KA; have HKB := Lib.hid KB
            clear KA KB hX hg hL' hr' hv'
            rcases hyy with rfl | rfl
            all_goals
              obtain ⟨x0, x1, x2, x3, x4, x5⟩ := hx
              simp only [Nat.reduceEqDiff, decide_true, decide_false, Nat.zero_ne_one, Nat.one_ne_zero] at x0 x1 x2 x3 x4 x5
              go_wp2_with (first
                | (go_at_call 12; refine (HKA.out _ _ _ HX.out).mono ?_; rintro e w3 ⟨rfl, h3⟩; have u0 := h3.bx.at 0 (v := .int .i64 d) rfl; have u1 := h3.bx.at 1 (v := .int .i64 k) rfl; have u2 := h3.bx.at 2 (v := .int .i64 n) rfl; have u3 := h3.bx.at 3 (v := .string s) rfl; have H3 := Lib.hid h3; clear h3)
                | (go_at_call 13; refine (HKB.out _ _ _ H3.out).mono ?_; rintro e w4 ⟨rfl, h4⟩; have H4 := Lib.hid h4; clear h4 H3))
              go_meet
              case rel => exact ⟨rfl, L', r', v', H4.out⟩
        · as_aux_lemma =>
            have TX := fun w => text10 s HA1.out.hs w
            have hT : (textS10 s).size ≤ 50 := by rw [textS10_size]; omega
            generalize textS10 s = T at *
            obtain ⟨m, hm⟩ : ∃ m, wrN L r T.data.toList = m := ⟨_, rfl⟩
            obtain ⟨g, hg⟩ : ∃ g, wrE L r T.data.toList = g := ⟨_, rfl⟩
            obtain ⟨L', hL'⟩ : ∃ L', wrL L r T.data.toList = L' := ⟨_, rfl⟩
            obtain ⟨r', hr'⟩ : ∃ r', r = r' := ⟨_, rfl⟩
            obtain ⟨v', hv'⟩ : ∃ v', v = v' := ⟨_, rfl⟩
            have KA : ∀ (w5 : World) (b' : Nat) (xs' : Array Value), BoX gB Pi w0 w5 p q b' xs' L r v L r v → Calls Tryd.prog 14 #[.pointer (some ⟨p, 0, none⟩), .string T] w5 fun e w' => e = .returned (.tuple #[.int .i64 m, .int .i64 g]) ∧ BoX gB Pi w0 w' p q b' xs' L' r' v' L r v := fun w5 b' xs' h => by have := bx_write HK.out h T (by omega); rw [hm, hg, hL'] at this; rw [← hr', ← hv']; exact this
            have KB : ∀ (w5 : World) (b' : Nat) (xs' : Array Value), BoX gB Pi w0 w5 p q b' xs' L' r' v' L r v → Calls Tryd.prog 16 #[.pointer (some ⟨q, 0, none⟩), .string T] w5 fun e w' => e = .returned (.tuple #[.int .i64 m, .int .i64 g]) ∧ BoX gB Pi w0 w' p q b' xs' L' r' v' L' r' v' := fun w5 b' xs' h => by have := dx_write HK.out h HO.out T (by omega); rw [hm, hg, hL'] at this; rw [← hr', ← hv'] at this ⊢; exact this
            have HKA := Lib.hid KA; have HKB := Lib.hid KB; have HTX := Lib.hid TX
            clear KA KB hm hg hL' hr' hv' TX hT
            rcases hyy with rfl | rfl
            all_goals
              obtain ⟨x0, x1, x2, x3, x4, x5⟩ := hx
              simp only [Nat.reduceEqDiff, decide_true, decide_false] at x0 x1 x2 x3 x4 x5
              go_wp2_with (first
                | (go_at_call 15; refine (HTX.out _).mono ?_; rintro e wt ⟨rfl, rfl⟩)
                | (go_at_call 14; refine (HKA.out _ _ _ HX.out).mono ?_; rintro e w3 ⟨rfl, h3⟩; have u0 := h3.bx.at 0 (v := .int .i64 d) rfl; have u1 := h3.bx.at 1 (v := .int .i64 k) rfl; have u2 := h3.bx.at 2 (v := .int .i64 n) rfl; have u3 := h3.bx.at 3 (v := .string s) rfl; have H3 := Lib.hid h3; clear h3)
                | (go_at_call 16; refine (HKB.out _ _ _ H3.out).mono ?_; rintro e w4 ⟨rfl, h4⟩; have H4 := Lib.hid h4; clear h4 H3))
              go_meet
              case rel => exact ⟨rfl, L', r', v', H4.out⟩
        · as_aux_lemma =>
            obtain ⟨g, hg⟩ : ∃ g, opE r v k = g := ⟨_, rfl⟩
            obtain ⟨L', hL'⟩ : ∃ L', L = L' := ⟨_, rfl⟩
            obtain ⟨r', hr'⟩ : ∃ r', opR r v k = r' := ⟨_, rfl⟩
            obtain ⟨v', hv'⟩ : ∃ v', opW r v k = v' := ⟨_, rfl⟩
            have KA : ∀ (w5 : World) (b' : Nat) (xs' : Array Value), BoX gB Pi w0 w5 p q b' xs' L r v L r v → Calls Tryd.prog 17 #[.pointer (some ⟨p, 0, none⟩), .int .i64 k] w5 fun e w' => e = .returned (.int .i64 g) ∧ BoX gB Pi w0 w' p q b' xs' L' r' v' L r v := fun w5 b' xs' h => by have := bx_open HK.out h k; rw [hg, hr', hv'] at this; rw [← hL']; exact this
            have KB : ∀ (w5 : World) (b' : Nat) (xs' : Array Value), BoX gB Pi w0 w5 p q b' xs' L' r' v' L r v → Calls Tryd.prog 18 #[.pointer (some ⟨q, 0, none⟩), .int .i64 k] w5 fun e w' => e = .returned (.int .i64 g) ∧ BoX gB Pi w0 w' p q b' xs' L' r' v' L' r' v' := fun w5 b' xs' h => by have := dx_open HK.out h HO.out k; rw [hg, hr', hv'] at this; rw [← hL'] at this ⊢; exact this
            have HKA := Lib.hid KA; have HKB := Lib.hid KB
            clear KA KB hg hL' hr' hv'
            obtain ⟨x0, x1, x2, x3, x4, x5⟩ := hx
            simp only [Nat.reduceEqDiff, decide_true, decide_false] at x0 x1 x2 x3 x4 x5
            go_wp2_with fail
            go_region_held3 (fun w' => w'.cell? ⟨wr.heap.size, 1, none⟩ = some (.int .i64 k)) (first | exact y1 | exact u1 | exact u2) (first
              | (go_at_call 17; refine (HKA.out _ _ _ (HX.out.drew HK.out)).mono ?_; rintro e w3 ⟨rfl, h3⟩; have u1 := h3.bx.at 1 (v := .int .i64 k) rfl; have H3 := Lib.hid h3; clear h3)
              | (go_at_call 18; refine (HKB.out _ _ _ H3.out).mono ?_; rintro e w4 ⟨rfl, h4⟩; have u2 := h4.bx.at 1 (v := .int .i64 k) rfl; have H4 := Lib.hid h4; clear h4 H3))
            go_wp2
            go_meet
            case rel => exact ⟨rfl, L', r', v', H4.out⟩
        · as_aux_lemma =>
            obtain ⟨g, hg⟩ : ∃ g, clE r v k = g := ⟨_, rfl⟩
            obtain ⟨B, hB'⟩ : ∃ B, clB r v k = B := ⟨_, rfl⟩
            obtain ⟨L', hL'⟩ : ∃ L', L = L' := ⟨_, rfl⟩
            obtain ⟨r', hr'⟩ : ∃ r', clR r v k = r' := ⟨_, rfl⟩
            obtain ⟨v', hv'⟩ : ∃ v', clW r v k = v' := ⟨_, rfl⟩
            have KA : ∀ (w5 : World) (b' : Nat) (xs' : Array Value), BoX gB Pi w0 w5 p q b' xs' L r v L r v → Calls Tryd.prog 19 #[.pointer (some ⟨p, 0, none⟩), .int .i64 k] w5 fun e w' => e = .returned (.tuple #[.bool B, .int .i64 g]) ∧ BoX gB Pi w0 w' p q b' xs' L' r' v' L r v := fun w5 b' xs' h => by have := bx_cls HK.out h k; rw [hg, hB', hr', hv'] at this; rw [← hL']; exact this
            have KB : ∀ (w5 : World) (b' : Nat) (xs' : Array Value), BoX gB Pi w0 w5 p q b' xs' L' r' v' L r v → Calls Tryd.prog 20 #[.pointer (some ⟨q, 0, none⟩), .int .i64 k] w5 fun e w' => e = .returned (.tuple #[.bool B, .int .i64 g]) ∧ BoX gB Pi w0 w' p q b' xs' L' r' v' L' r' v' := fun w5 b' xs' h => by have := dx_cls HK.out h HO.out k; rw [hg, hB', hr', hv'] at this; rw [← hL'] at this ⊢; exact this
            have HKA := Lib.hid KA; have HKB := Lib.hid KB
            clear KA KB hg hB' hL' hr' hv'
            obtain ⟨x0, x1, x2, x3, x4, x5⟩ := hx
            simp only [Nat.reduceEqDiff, decide_true, decide_false] at x0 x1 x2 x3 x4 x5
            go_wp2_with (first
              | (go_at_call 19; refine (HKA.out _ _ _ HX.out).mono ?_; rintro e w3 ⟨rfl, h3⟩; have u0 := h3.bx.at 0 (v := .int .i64 d) rfl; have u1 := h3.bx.at 1 (v := .int .i64 k) rfl; have u2 := h3.bx.at 2 (v := .int .i64 n) rfl; have u3 := h3.bx.at 3 (v := .string s) rfl; have H3 := Lib.hid h3; clear h3)
              | (go_at_call 20; refine (HKB.out _ _ _ H3.out).mono ?_; rintro e w4 ⟨rfl, h4⟩; have H4 := Lib.hid h4; clear h4 H3))
            go_meet
            case rel => exact ⟨rfl, L', r', v', H4.out⟩
      case rest =>
        obtain ⟨rfl, L', r', v', h4⟩ := hcut
        have H4 := Lib.hid h4
        clear h4 HX c0 c1 c2 c3 HA1
        generalize #[Value.int .i64 d, .int .i64 k, .int .i64 n, .string s] = xs' at *
        generalize wr.heap.size = b' at *
        obtain ⟨c, cr, cw, hc, hcr, hcw, hcase⟩ := tail_cases L' r' v'
        have KE := bx_ends HK.out H4.out
        have KL : ∀ w5, BoX gB Pi w0 w5 p q b' xs' L' r' v' L' r' v' → Calls Tryd.prog 22 #[.pointer (some ⟨p, 0, none⟩)] w5 fun e w' => e = .returned (.int .i64 (c : Nat)) ∧ BoX gB Pi w0 w' p q b' xs' L' r' v' L' r' v' := fun w5 h => by have := bx_len HK.out h; rw [hc] at this; exact this
        have KR : ∀ w5, BoX gB Pi w0 w5 p q b' xs' L' r' v' L' r' v' → Calls Tryd.prog 23 #[.pointer (some ⟨p, 0, none⟩)] w5 fun e w' => e = .returned (.bool cr) ∧ BoX gB Pi w0 w' p q b' xs' L' r' v' L' r' v' := fun w5 h => by have := bx_canR HK.out h; rw [hcr] at this; exact this
        have KW : ∀ w5, BoX gB Pi w0 w5 p q b' xs' L' r' v' L' r' v' → Calls Tryd.prog 24 #[.pointer (some ⟨p, 0, none⟩)] w5 fun e w' => e = .returned (.bool cw) ∧ BoX gB Pi w0 w' p q b' xs' L' r' v' L' r' v' := fun w5 h => by have := bx_canW HK.out h; rw [hcw] at this; exact this
        obtain ⟨Z, hZ⟩ : ∃ Z : ByteArray, (⟨L'.toArray⟩ : ByteArray) = Z := ⟨_, rfl⟩
        have hz : Z.size = c := by rw [← hZ, mk_size, hc]
        have KP : ∀ w5, BoX gB Pi w0 w5 p q b' xs' L' r' v' L' r' v' → w5.cell? ⟨q, 0, none⟩ = some (.string Z) ∧ w5.cell? ⟨q, 1, none⟩ = some (.int .i64 (r' : Int)) ∧ w5.cell? ⟨q, 2, none⟩ = some (.int .i64 (v' : Int)) := fun w5 h => by
          have h3 := h.rp
          unfold RP at h3
          rw [hZ] at h3
          exact ⟨h3.at 0 rfl, h3.at 1 rfl, h3.at 2 rfl⟩
        have HKE := Lib.hid KE; have HKL := Lib.hid KL; have HKR := Lib.hid KR; have HKW := Lib.hid KW; have HKP := Lib.hid KP
        clear KE KL KR KW KP hZ hc hcr hcw
        go_wp2_with (go_at_call 21; refine HKE.out.mono ?_; rintro e w6 ⟨rfl, h6⟩; have H6 := Lib.hid (h6.drew HK.out); have Z6 := Lib.hid (HKP.out _ h6); clear h6)
        rcases hcase with ⟨t1, rfl, (⟨t2, rfl⟩ | ⟨t2, rfl⟩)⟩ | ⟨rfl, rfl, rfl, (t2 | t2)⟩
        · as_aux_lemma =>
            have dc : decide (0 < c) = true := by simp; omega
            have dc2 : decide ((0 : Int) < (c : Int)) = true := by simp; omega
            refine wp_region_held_drew (S := (fun w' => w'.cell? ⟨q, 0, none⟩ = some (.string Z) ∧ w'.cell? ⟨q, 1, none⟩ = some (.int .i64 (r' : Int)) ∧ w'.cell? ⟨q, 2, none⟩ = some (.int .i64 (v' : Int)))) (by kernel_rfl) Z6.out (fun hHeld => ?_)
            change wpAnyH _ _ _ _ _ 64 (Array.replicate 64 false) _ _
            refine takeH8 0 (.bool true) (some 137) rfl (by kernel_rfl) (by kernel_rfl) (by kernel_rfl) (fun _ _ _ h => h) (fun oi h => by obtain rfl := Option.some.inj h; rfl) (fun oi h W hS => by obtain rfl := Option.some.inj h; obtain ⟨q1, q2, q3⟩ := hS; go_simp) hHeld ?_
            simp only [Act.put, List.setIfInBounds_toArray, List.set_cons_zero, List.set_cons_succ]
            refine takeH8 1 (.bool false) (some 138) rfl (by kernel_rfl) (by kernel_rfl) (by kernel_rfl) (fun _ _ _ h => h) (fun oi h => by obtain rfl := Option.some.inj h; rfl) (fun oi h W hS => by obtain rfl := Option.some.inj h; obtain ⟨q1, q2, q3⟩ := hS; go_simp) hHeld ?_
            simp only [Act.put, List.setIfInBounds_toArray, List.set_cons_zero, List.set_cons_succ]
            refine takeH8 2 (.bool false) (some 139) rfl (by kernel_rfl) (by kernel_rfl) (by kernel_rfl) (fun _ _ _ h => h) (fun oi h => by obtain rfl := Option.some.inj h; rfl) (fun oi h W hS => by obtain rfl := Option.some.inj h; obtain ⟨q1, q2, q3⟩ := hS; go_simp) hHeld ?_
            simp only [Act.put, List.setIfInBounds_toArray, List.set_cons_zero, List.set_cons_succ]
            refine takeH8 3 (.int .i64 (r' : Int)) (some 140) rfl (by kernel_rfl) (by kernel_rfl) (by kernel_rfl) (fun _ _ _ h => h) (fun oi h => by obtain rfl := Option.some.inj h; rfl) (fun oi h W hS => by obtain rfl := Option.some.inj h; obtain ⟨q1, q2, q3⟩ := hS; go_simp) hHeld ?_
            simp only [Act.put, List.setIfInBounds_toArray, List.set_cons_zero, List.set_cons_succ]
            refine takeH8 4 (.pointer (some ⟨q, 0, none⟩)) (some 141) rfl (by kernel_rfl) (by kernel_rfl) (by kernel_rfl) (fun _ _ _ h => h) (fun oi h => by obtain rfl := Option.some.inj h; rfl) (fun oi h W hS => by obtain rfl := Option.some.inj h; obtain ⟨q1, q2, q3⟩ := hS; go_simp) hHeld ?_
            simp only [Act.put, List.setIfInBounds_toArray, List.set_cons_zero, List.set_cons_succ]
            refine takeH8 5 (.pointer (some ⟨q, 0, none⟩)) (some 142) rfl (by kernel_rfl) (by kernel_rfl) (by kernel_rfl) (fun _ _ _ h => h) (fun oi h => by obtain rfl := Option.some.inj h; rfl) (fun oi h W hS => by obtain rfl := Option.some.inj h; obtain ⟨q1, q2, q3⟩ := hS; go_simp) hHeld ?_
            simp only [Act.put, List.setIfInBounds_toArray, List.set_cons_zero, List.set_cons_succ]
            refine takeH8 6 (.pointer (some ⟨q, 1, none⟩)) (some 143) rfl (by kernel_rfl) (by kernel_rfl) (by kernel_rfl) (fun _ _ _ h => h) (fun oi h => by obtain rfl := Option.some.inj h; rfl) (fun oi h W hS => by obtain rfl := Option.some.inj h; obtain ⟨q1, q2, q3⟩ := hS; go_simp) hHeld ?_
            simp only [Act.put, List.setIfInBounds_toArray, List.set_cons_zero, List.set_cons_succ]
            refine takeH8 7 (.int .i64 (r' : Int)) (some 144) rfl (by kernel_rfl) (by kernel_rfl) (by kernel_rfl) (fun _ _ _ h => h) (fun oi h => by obtain rfl := Option.some.inj h; rfl) (fun oi h W hS => by obtain rfl := Option.some.inj h; obtain ⟨q1, q2, q3⟩ := hS; go_simp) hHeld ?_
            simp only [Act.put, List.setIfInBounds_toArray, List.set_cons_zero, List.set_cons_succ]
            refine takeH8 8 (.bool false) (some 145) rfl (by kernel_rfl) (by kernel_rfl) (by kernel_rfl) (fun _ _ _ h => h) (fun oi h => by obtain rfl := Option.some.inj h; rfl) (fun oi h W hS => by obtain rfl := Option.some.inj h; obtain ⟨q1, q2, q3⟩ := hS; go_simp) hHeld ?_
            simp only [Act.put, List.setIfInBounds_toArray, List.set_cons_zero, List.set_cons_succ]
            refine takeH8 9 (.bool false) (some 146) rfl (by kernel_rfl) (by kernel_rfl) (by kernel_rfl) (fun _ _ _ h => h) (fun oi h => by obtain rfl := Option.some.inj h; rfl) (fun oi h W hS => by obtain rfl := Option.some.inj h; obtain ⟨q1, q2, q3⟩ := hS; go_simp) hHeld ?_
            simp only [Act.put, List.setIfInBounds_toArray, List.set_cons_zero, List.set_cons_succ]
            refine takeH8 10 (.bool false) (some 147) rfl (by kernel_rfl) (by kernel_rfl) (by kernel_rfl) (fun _ _ _ h => h) (fun oi h => by obtain rfl := Option.some.inj h; rfl) (fun oi h W hS => by obtain rfl := Option.some.inj h; obtain ⟨q1, q2, q3⟩ := hS; go_simp) hHeld ?_
            simp only [Act.put, List.setIfInBounds_toArray, List.set_cons_zero, List.set_cons_succ]
            refine takeH8 11 (.int .i64 (v' : Int)) (some 148) rfl (by kernel_rfl) (by kernel_rfl) (by kernel_rfl) (fun _ _ _ h => h) (fun oi h => by obtain rfl := Option.some.inj h; rfl) (fun oi h W hS => by obtain rfl := Option.some.inj h; obtain ⟨q1, q2, q3⟩ := hS; go_simp) hHeld ?_
            simp only [Act.put, List.setIfInBounds_toArray, List.set_cons_zero, List.set_cons_succ]
            refine takeH8 12 (.pointer (some ⟨q, 0, none⟩)) (some 149) rfl (by kernel_rfl) (by kernel_rfl) (by kernel_rfl) (fun _ _ _ h => h) (fun oi h => by obtain rfl := Option.some.inj h; rfl) (fun oi h W hS => by obtain rfl := Option.some.inj h; obtain ⟨q1, q2, q3⟩ := hS; go_simp) hHeld ?_
            simp only [Act.put, List.setIfInBounds_toArray, List.set_cons_zero, List.set_cons_succ]
            refine takeH8 13 (.pointer (some ⟨q, 0, none⟩)) (some 150) rfl (by kernel_rfl) (by kernel_rfl) (by kernel_rfl) (fun _ _ _ h => h) (fun oi h => by obtain rfl := Option.some.inj h; rfl) (fun oi h W hS => by obtain rfl := Option.some.inj h; obtain ⟨q1, q2, q3⟩ := hS; go_simp) hHeld ?_
            simp only [Act.put, List.setIfInBounds_toArray, List.set_cons_zero, List.set_cons_succ]
            refine takeH8 14 (.pointer (some ⟨q, 2, none⟩)) (some 151) rfl (by kernel_rfl) (by kernel_rfl) (by kernel_rfl) (fun _ _ _ h => h) (fun oi h => by obtain rfl := Option.some.inj h; rfl) (fun oi h W hS => by obtain rfl := Option.some.inj h; obtain ⟨q1, q2, q3⟩ := hS; go_simp) hHeld ?_
            simp only [Act.put, List.setIfInBounds_toArray, List.set_cons_zero, List.set_cons_succ]
            refine takeH8 15 (.int .i64 (v' : Int)) (some 152) rfl (by kernel_rfl) (by kernel_rfl) (by kernel_rfl) (fun _ _ _ h => h) (fun oi h => by obtain rfl := Option.some.inj h; rfl) (fun oi h W hS => by obtain rfl := Option.some.inj h; obtain ⟨q1, q2, q3⟩ := hS; go_simp) hHeld ?_
            simp only [Act.put, List.setIfInBounds_toArray, List.set_cons_zero, List.set_cons_succ]
            refine takeH8 16 (.bool false) (some 153) rfl (by kernel_rfl) (by kernel_rfl) (by kernel_rfl) (fun _ _ _ h => h) (fun oi h => by obtain rfl := Option.some.inj h; rfl) (fun oi h W hS => by obtain rfl := Option.some.inj h; obtain ⟨q1, q2, q3⟩ := hS; go_simp) hHeld ?_
            simp only [Act.put, List.setIfInBounds_toArray, List.set_cons_zero, List.set_cons_succ]
            refine takeH8 17 (.bool false) (some 154) rfl (by kernel_rfl) (by kernel_rfl) (by kernel_rfl) (fun _ _ _ h => h) (fun oi h => by obtain rfl := Option.some.inj h; rfl) (fun oi h W hS => by obtain rfl := Option.some.inj h; obtain ⟨q1, q2, q3⟩ := hS; go_simp) hHeld ?_
            simp only [Act.put, List.setIfInBounds_toArray, List.set_cons_zero, List.set_cons_succ]
            refine takeH8 18 (.bool false) (some 155) rfl (by kernel_rfl) (by kernel_rfl) (by kernel_rfl) (fun _ _ _ h => h) (fun oi h => by obtain rfl := Option.some.inj h; rfl) (fun oi h W hS => by obtain rfl := Option.some.inj h; obtain ⟨q1, q2, q3⟩ := hS; go_simp) hHeld ?_
            simp only [Act.put, List.setIfInBounds_toArray, List.set_cons_zero, List.set_cons_succ]
            refine takeH8 19 (.pointer (some ⟨p, 0, none⟩)) (some 156) rfl (by kernel_rfl) (by kernel_rfl) (by kernel_rfl) (fun _ _ _ h => h) (fun oi h => by obtain rfl := Option.some.inj h; rfl) (fun oi h W hS => by obtain rfl := Option.some.inj h; obtain ⟨q1, q2, q3⟩ := hS; go_simp) hHeld ?_
            simp only [Act.put, List.setIfInBounds_toArray, List.set_cons_zero, List.set_cons_succ]
            refine takeH8 21 (.pointer (some ⟨q, 0, none⟩)) (some 158) rfl (by kernel_rfl) (by kernel_rfl) (by kernel_rfl) (fun _ _ _ h => h) (fun oi h => by obtain rfl := Option.some.inj h; rfl) (fun oi h W hS => by obtain rfl := Option.some.inj h; obtain ⟨q1, q2, q3⟩ := hS; go_simp) hHeld ?_
            simp only [Act.put, List.setIfInBounds_toArray, List.set_cons_zero, List.set_cons_succ]
            refine takeH8 22 (.pointer (some ⟨q, 0, none⟩)) (some 159) rfl (by kernel_rfl) (by kernel_rfl) (by kernel_rfl) (fun _ _ _ h => h) (fun oi h => by obtain rfl := Option.some.inj h; rfl) (fun oi h W hS => by obtain rfl := Option.some.inj h; obtain ⟨q1, q2, q3⟩ := hS; go_simp) hHeld ?_
            simp only [Act.put, List.setIfInBounds_toArray, List.set_cons_zero, List.set_cons_succ]
            refine takeH8 23 (.pointer (some ⟨q, 0, none⟩)) (some 160) rfl (by kernel_rfl) (by kernel_rfl) (by kernel_rfl) (fun _ _ _ h => h) (fun oi h => by obtain rfl := Option.some.inj h; rfl) (fun oi h W hS => by obtain rfl := Option.some.inj h; obtain ⟨q1, q2, q3⟩ := hS; go_simp) hHeld ?_
            simp only [Act.put, List.setIfInBounds_toArray, List.set_cons_zero, List.set_cons_succ]
            refine takeH8 24 (.string Z) (some 161) rfl (by kernel_rfl) (by kernel_rfl) (by kernel_rfl) (fun _ _ _ h => h) (fun oi h => by obtain rfl := Option.some.inj h; rfl) (fun oi h W hS => by obtain rfl := Option.some.inj h; obtain ⟨q1, q2, q3⟩ := hS; go_simp) hHeld ?_
            simp only [Act.put, List.setIfInBounds_toArray, List.set_cons_zero, List.set_cons_succ]
            refine takeH8 25 (.int .i64 (c : Int)) (some 162) rfl (by kernel_rfl) (by kernel_rfl) (by kernel_rfl) (fun _ _ _ h => h) (fun oi h => by obtain rfl := Option.some.inj h; rfl) (fun oi h W hS => by obtain rfl := Option.some.inj h; obtain ⟨q1, q2, q3⟩ := hS; go_simp) hHeld ?_
            simp only [Act.put, List.setIfInBounds_toArray, List.set_cons_zero, List.set_cons_succ]
            refine wpAnyH_ready (rs := [20]) (by kernel_rfl) (by simp) ?_
            refine AllReadyH.cons (i := 20) rfl (fun K hK => ?_) AllReadyH.nil
            go_simp
            go_at_call 22
            refine (HKL.out _ H6.out).mono ?_
            rintro e w7 ⟨rfl, h7⟩
            have Z7 := Lib.hid (HKP.out _ h7)
            have H7 := Lib.hid h7
            clear h7
            refine hK.out _ _ Z7.out (fun hHeld => ?_)
            clear hK K
            try simp only [Act.put, List.setIfInBounds_toArray, List.set_cons_zero, List.set_cons_succ]
            refine takeH8 26 (.bool false) (some 163) rfl (by kernel_rfl) (by kernel_rfl) (by kernel_rfl) (fun _ _ _ h => h) (fun oi h => by obtain rfl := Option.some.inj h; rfl) (fun oi h W hS => by obtain rfl := Option.some.inj h; obtain ⟨q1, q2, q3⟩ := hS; go_simp) hHeld ?_
            simp only [Act.put, List.setIfInBounds_toArray, List.set_cons_zero, List.set_cons_succ]
            refine takeH8 27 (.bool false) (some 164) rfl (by kernel_rfl) (by kernel_rfl) (by kernel_rfl) (fun _ _ _ h => h) (fun oi h => by obtain rfl := Option.some.inj h; rfl) (fun oi h W hS => by obtain rfl := Option.some.inj h; obtain ⟨q1, q2, q3⟩ := hS; go_simp) hHeld ?_
            simp only [Act.put, List.setIfInBounds_toArray, List.set_cons_zero, List.set_cons_succ]
            refine takeH8 28 (.bool false) (some 165) rfl (by kernel_rfl) (by kernel_rfl) (by kernel_rfl) (fun _ _ _ h => h) (fun oi h => by obtain rfl := Option.some.inj h; rfl) (fun oi h W hS => by obtain rfl := Option.some.inj h; obtain ⟨q1, q2, q3⟩ := hS; go_simp) hHeld ?_
            simp only [Act.put, List.setIfInBounds_toArray, List.set_cons_zero, List.set_cons_succ]
            refine takeH8 29 (.pointer (some ⟨p, 0, none⟩)) (some 166) rfl (by kernel_rfl) (by kernel_rfl) (by kernel_rfl) (fun _ _ _ h => h) (fun oi h => by obtain rfl := Option.some.inj h; rfl) (fun oi h W hS => by obtain rfl := Option.some.inj h; obtain ⟨q1, q2, q3⟩ := hS; go_simp) hHeld ?_
            simp only [Act.put, List.setIfInBounds_toArray, List.set_cons_zero, List.set_cons_succ]
            refine takeH8 31 (.pointer (some ⟨q, 0, none⟩)) (some 168) rfl (by kernel_rfl) (by kernel_rfl) (by kernel_rfl) (fun _ _ _ h => h) (fun oi h => by obtain rfl := Option.some.inj h; rfl) (fun oi h W hS => by obtain rfl := Option.some.inj h; obtain ⟨q1, q2, q3⟩ := hS; go_simp) hHeld ?_
            simp only [Act.put, List.setIfInBounds_toArray, List.set_cons_zero, List.set_cons_succ]
            refine takeH8 32 (.pointer (some ⟨q, 0, none⟩)) (some 169) rfl (by kernel_rfl) (by kernel_rfl) (by kernel_rfl) (fun _ _ _ h => h) (fun oi h => by obtain rfl := Option.some.inj h; rfl) (fun oi h W hS => by obtain rfl := Option.some.inj h; obtain ⟨q1, q2, q3⟩ := hS; go_simp) hHeld ?_
            simp only [Act.put, List.setIfInBounds_toArray, List.set_cons_zero, List.set_cons_succ]
            refine takeH8 33 (.pointer (some ⟨q, 0, none⟩)) (some 170) rfl (by kernel_rfl) (by kernel_rfl) (by kernel_rfl) (fun _ _ _ h => h) (fun oi h => by obtain rfl := Option.some.inj h; rfl) (fun oi h W hS => by obtain rfl := Option.some.inj h; obtain ⟨q1, q2, q3⟩ := hS; go_simp) hHeld ?_
            simp only [Act.put, List.setIfInBounds_toArray, List.set_cons_zero, List.set_cons_succ]
            refine takeH8 34 (.string Z) (some 171) rfl (by kernel_rfl) (by kernel_rfl) (by kernel_rfl) (fun _ _ _ h => h) (fun oi h => by obtain rfl := Option.some.inj h; rfl) (fun oi h W hS => by obtain rfl := Option.some.inj h; obtain ⟨q1, q2, q3⟩ := hS; go_simp) hHeld ?_
            simp only [Act.put, List.setIfInBounds_toArray, List.set_cons_zero, List.set_cons_succ]
            refine takeH8 35 (.int .i64 (c : Int)) (some 172) rfl (by kernel_rfl) (by kernel_rfl) (by kernel_rfl) (fun _ _ _ h => h) (fun oi h => by obtain rfl := Option.some.inj h; rfl) (fun oi h W hS => by obtain rfl := Option.some.inj h; obtain ⟨q1, q2, q3⟩ := hS; go_simp) hHeld ?_
            simp only [Act.put, List.setIfInBounds_toArray, List.set_cons_zero, List.set_cons_succ]
            refine takeH8 36 (.bool true) (some 173) rfl (by kernel_rfl) (by kernel_rfl) (by kernel_rfl) (fun _ _ _ h => h) (fun oi h => by obtain rfl := Option.some.inj h; rfl) (fun oi h W hS => by obtain rfl := Option.some.inj h; obtain ⟨q1, q2, q3⟩ := hS; go_simp) hHeld ?_
            simp only [Act.put, List.setIfInBounds_toArray, List.set_cons_zero, List.set_cons_succ]
            refine wpAnyH_ready (rs := [30]) (by kernel_rfl) (by simp) ?_
            refine AllReadyH.cons (i := 30) rfl (fun K hK => ?_) AllReadyH.nil
            go_simp
            go_at_call 23
            refine (HKR.out _ H7.out).mono ?_
            rintro e w8 ⟨rfl, h8⟩
            have Z8 := Lib.hid (HKP.out _ h8)
            have H8 := Lib.hid h8
            clear h8
            refine hK.out _ _ Z8.out (fun hHeld => ?_)
            clear hK K
            try simp only [Act.put, List.setIfInBounds_toArray, List.set_cons_zero, List.set_cons_succ]
            refine takeH8 37 (.bool true) (some 174) rfl (by kernel_rfl) (by kernel_rfl) (by kernel_rfl) (fun _ _ _ h => h) (fun oi h => by obtain rfl := Option.some.inj h; rfl) (fun oi h W hS => by obtain rfl := Option.some.inj h; obtain ⟨q1, q2, q3⟩ := hS; go_simp) hHeld ?_
            simp only [Act.put, List.setIfInBounds_toArray, List.set_cons_zero, List.set_cons_succ]
            refine takeU10 38 (some 175) rfl (by kernel_rfl) (by kernel_rfl) (by kernel_rfl) (fun _ _ _ h => h) (fun oi h => by obtain rfl := Option.some.inj h; rfl) hHeld ?_
            simp only [Act.put, List.setIfInBounds_toArray, List.set_cons_zero, List.set_cons_succ]
            refine takeU10 39 (some 176) rfl (by kernel_rfl) (by kernel_rfl) (by kernel_rfl) (fun _ _ _ h => h) (fun oi h => by obtain rfl := Option.some.inj h; rfl) hHeld ?_
            simp only [Act.put, List.setIfInBounds_toArray, List.set_cons_zero, List.set_cons_succ]
            refine takeU10 40 (some 177) rfl (by kernel_rfl) (by kernel_rfl) (by kernel_rfl) (fun _ _ _ h => h) (fun oi h => by obtain rfl := Option.some.inj h; rfl) hHeld ?_
            simp only [Act.put, List.setIfInBounds_toArray, List.set_cons_zero, List.set_cons_succ]
            refine takeU10 41 (some 178) rfl (by kernel_rfl) (by kernel_rfl) (by kernel_rfl) (fun _ _ _ h => h) (fun oi h => by obtain rfl := Option.some.inj h; rfl) hHeld ?_
            simp only [Act.put, List.setIfInBounds_toArray, List.set_cons_zero, List.set_cons_succ]
            refine takeU10 42 (some 179) rfl (by kernel_rfl) (by kernel_rfl) (by kernel_rfl) (fun _ _ _ h => h) (fun oi h => by obtain rfl := Option.some.inj h; rfl) hHeld ?_
            simp only [Act.put, List.setIfInBounds_toArray, List.set_cons_zero, List.set_cons_succ]
            refine takeH8 43 (.bool true) (some 180) rfl (by kernel_rfl) (by kernel_rfl) (by kernel_rfl) (fun _ _ _ h => h) (fun oi h => by obtain rfl := Option.some.inj h; rfl) (fun oi h W hS => by obtain rfl := Option.some.inj h; obtain ⟨q1, q2, q3⟩ := hS; go_simp) hHeld ?_
            simp only [Act.put, List.setIfInBounds_toArray, List.set_cons_zero, List.set_cons_succ]
            refine takeH8 44 (.bool false) (some 181) rfl (by kernel_rfl) (by kernel_rfl) (by kernel_rfl) (fun _ _ _ h => h) (fun oi h => by obtain rfl := Option.some.inj h; rfl) (fun oi h W hS => by obtain rfl := Option.some.inj h; obtain ⟨q1, q2, q3⟩ := hS; go_simp) hHeld ?_
            simp only [Act.put, List.setIfInBounds_toArray, List.set_cons_zero, List.set_cons_succ]
            refine takeH8 45 (.bool false) (some 182) rfl (by kernel_rfl) (by kernel_rfl) (by kernel_rfl) (fun _ _ _ h => h) (fun oi h => by obtain rfl := Option.some.inj h; rfl) (fun oi h W hS => by obtain rfl := Option.some.inj h; obtain ⟨q1, q2, q3⟩ := hS; go_simp) hHeld ?_
            simp only [Act.put, List.setIfInBounds_toArray, List.set_cons_zero, List.set_cons_succ]
            refine takeH8 46 (.bool false) (some 183) rfl (by kernel_rfl) (by kernel_rfl) (by kernel_rfl) (fun _ _ _ h => h) (fun oi h => by obtain rfl := Option.some.inj h; rfl) (fun oi h W hS => by obtain rfl := Option.some.inj h; obtain ⟨q1, q2, q3⟩ := hS; go_simp) hHeld ?_
            simp only [Act.put, List.setIfInBounds_toArray, List.set_cons_zero, List.set_cons_succ]
            refine takeH8 47 (.pointer (some ⟨p, 0, none⟩)) (some 184) rfl (by kernel_rfl) (by kernel_rfl) (by kernel_rfl) (fun _ _ _ h => h) (fun oi h => by obtain rfl := Option.some.inj h; rfl) (fun oi h W hS => by obtain rfl := Option.some.inj h; obtain ⟨q1, q2, q3⟩ := hS; go_simp) hHeld ?_
            simp only [Act.put, List.setIfInBounds_toArray, List.set_cons_zero, List.set_cons_succ]
            refine takeH8 49 (.pointer (some ⟨q, 0, none⟩)) (some 186) rfl (by kernel_rfl) (by kernel_rfl) (by kernel_rfl) (fun _ _ _ h => h) (fun oi h => by obtain rfl := Option.some.inj h; rfl) (fun oi h W hS => by obtain rfl := Option.some.inj h; obtain ⟨q1, q2, q3⟩ := hS; go_simp) hHeld ?_
            simp only [Act.put, List.setIfInBounds_toArray, List.set_cons_zero, List.set_cons_succ]
            refine takeH8 50 (.pointer (some ⟨q, 0, none⟩)) (some 187) rfl (by kernel_rfl) (by kernel_rfl) (by kernel_rfl) (fun _ _ _ h => h) (fun oi h => by obtain rfl := Option.some.inj h; rfl) (fun oi h W hS => by obtain rfl := Option.some.inj h; obtain ⟨q1, q2, q3⟩ := hS; go_simp) hHeld ?_
            simp only [Act.put, List.setIfInBounds_toArray, List.set_cons_zero, List.set_cons_succ]
            refine takeH8 51 (.pointer (some ⟨q, 1, none⟩)) (some 188) rfl (by kernel_rfl) (by kernel_rfl) (by kernel_rfl) (fun _ _ _ h => h) (fun oi h => by obtain rfl := Option.some.inj h; rfl) (fun oi h W hS => by obtain rfl := Option.some.inj h; obtain ⟨q1, q2, q3⟩ := hS; go_simp) hHeld ?_
            simp only [Act.put, List.setIfInBounds_toArray, List.set_cons_zero, List.set_cons_succ]
            refine takeH8 52 (.int .i64 (r' : Int)) (some 189) rfl (by kernel_rfl) (by kernel_rfl) (by kernel_rfl) (fun _ _ _ h => h) (fun oi h => by obtain rfl := Option.some.inj h; rfl) (fun oi h W hS => by obtain rfl := Option.some.inj h; obtain ⟨q1, q2, q3⟩ := hS; go_simp) hHeld ?_
            simp only [Act.put, List.setIfInBounds_toArray, List.set_cons_zero, List.set_cons_succ]
            refine takeH8 53 (.bool true) (some 190) rfl (by kernel_rfl) (by kernel_rfl) (by kernel_rfl) (fun _ _ _ h => h) (fun oi h => by obtain rfl := Option.some.inj h; rfl) (fun oi h W hS => by obtain rfl := Option.some.inj h; obtain ⟨q1, q2, q3⟩ := hS; go_simp) hHeld ?_
            simp only [Act.put, List.setIfInBounds_toArray, List.set_cons_zero, List.set_cons_succ]
            refine wpAnyH_ready (rs := [48]) (by kernel_rfl) (by simp) ?_
            refine AllReadyH.cons (i := 48) rfl (fun K hK => ?_) AllReadyH.nil
            go_simp
            go_at_call 24
            refine (HKW.out _ H8.out).mono ?_
            rintro e w9 ⟨rfl, h9⟩
            have Z9 := Lib.hid (HKP.out _ h9)
            have H9 := Lib.hid h9
            clear h9
            refine hK.out _ _ Z9.out (fun hHeld => ?_)
            clear hK K
            try simp only [Act.put, List.setIfInBounds_toArray, List.set_cons_zero, List.set_cons_succ]
            refine takeH8 54 (.bool true) (some 191) rfl (by kernel_rfl) (by kernel_rfl) (by kernel_rfl) (fun _ _ _ h => h) (fun oi h => by obtain rfl := Option.some.inj h; rfl) (fun oi h W hS => by obtain rfl := Option.some.inj h; obtain ⟨q1, q2, q3⟩ := hS; go_simp) hHeld ?_
            simp only [Act.put, List.setIfInBounds_toArray, List.set_cons_zero, List.set_cons_succ]
            refine takeU10 55 (some 192) rfl (by kernel_rfl) (by kernel_rfl) (by kernel_rfl) (fun _ _ _ h => h) (fun oi h => by obtain rfl := Option.some.inj h; rfl) hHeld ?_
            simp only [Act.put, List.setIfInBounds_toArray, List.set_cons_zero, List.set_cons_succ]
            refine takeU10 56 (some 193) rfl (by kernel_rfl) (by kernel_rfl) (by kernel_rfl) (fun _ _ _ h => h) (fun oi h => by obtain rfl := Option.some.inj h; rfl) hHeld ?_
            simp only [Act.put, List.setIfInBounds_toArray, List.set_cons_zero, List.set_cons_succ]
            refine takeU10 57 (some 194) rfl (by kernel_rfl) (by kernel_rfl) (by kernel_rfl) (fun _ _ _ h => h) (fun oi h => by obtain rfl := Option.some.inj h; rfl) hHeld ?_
            simp only [Act.put, List.setIfInBounds_toArray, List.set_cons_zero, List.set_cons_succ]
            refine takeU10 58 (some 195) rfl (by kernel_rfl) (by kernel_rfl) (by kernel_rfl) (fun _ _ _ h => h) (fun oi h => by obtain rfl := Option.some.inj h; rfl) hHeld ?_
            simp only [Act.put, List.setIfInBounds_toArray, List.set_cons_zero, List.set_cons_succ]
            refine takeU10 59 (some 196) rfl (by kernel_rfl) (by kernel_rfl) (by kernel_rfl) (fun _ _ _ h => h) (fun oi h => by obtain rfl := Option.some.inj h; rfl) hHeld ?_
            simp only [Act.put, List.setIfInBounds_toArray, List.set_cons_zero, List.set_cons_succ]
            refine takeU10 60 (some 197) rfl (by kernel_rfl) (by kernel_rfl) (by kernel_rfl) (fun _ _ _ h => h) (fun oi h => by obtain rfl := Option.some.inj h; rfl) hHeld ?_
            simp only [Act.put, List.setIfInBounds_toArray, List.set_cons_zero, List.set_cons_succ]
            refine takeH8 61 (.bool true) (some 198) rfl (by kernel_rfl) (by kernel_rfl) (by kernel_rfl) (fun _ _ _ h => h) (fun oi h => by obtain rfl := Option.some.inj h; rfl) (fun oi h W hS => by obtain rfl := Option.some.inj h; obtain ⟨q1, q2, q3⟩ := hS; go_simp) hHeld ?_
            simp only [Act.put, List.setIfInBounds_toArray, List.set_cons_zero, List.set_cons_succ]
            refine takeH8 62 (.bool false) (some 199) rfl (by kernel_rfl) (by kernel_rfl) (by kernel_rfl) (fun _ _ _ h => h) (fun oi h => by obtain rfl := Option.some.inj h; rfl) (fun oi h W hS => by obtain rfl := Option.some.inj h; obtain ⟨q1, q2, q3⟩ := hS; go_simp) hHeld ?_
            simp only [Act.put, List.setIfInBounds_toArray, List.set_cons_zero, List.set_cons_succ]
            refine takeH8 63 (.bool false) (some 200) rfl (by kernel_rfl) (by kernel_rfl) (by kernel_rfl) (fun _ _ _ h => h) (fun oi h => by obtain rfl := Option.some.inj h; rfl) (fun oi h W hS => by obtain rfl := Option.some.inj h; obtain ⟨q1, q2, q3⟩ := hS; go_simp) hHeld ?_
            simp only [Act.put, List.setIfInBounds_toArray, List.set_cons_zero, List.set_cons_succ]
            refine wpAnyH_done (by kernel_rfl) ?_ _
            go_wp2
            go_roundw
            case rel => exact ⟨j + 1, by omega, by omega, by go_num, L', r', v', H9.out.un⟩
            case measure => simp [intOf]; omega
        · as_aux_lemma =>
            have dc : decide (0 < c) = true := by simp; omega
            have dc2 : decide ((0 : Int) < (c : Int)) = true := by simp; omega
            refine wp_region_held_drew (S := (fun w' => w'.cell? ⟨q, 0, none⟩ = some (.string Z) ∧ w'.cell? ⟨q, 1, none⟩ = some (.int .i64 (r' : Int)) ∧ w'.cell? ⟨q, 2, none⟩ = some (.int .i64 (v' : Int)))) (by kernel_rfl) Z6.out (fun hHeld => ?_)
            change wpAnyH _ _ _ _ _ 64 (Array.replicate 64 false) _ _
            refine takeH8 0 (.bool true) (some 137) rfl (by kernel_rfl) (by kernel_rfl) (by kernel_rfl) (fun _ _ _ h => h) (fun oi h => by obtain rfl := Option.some.inj h; rfl) (fun oi h W hS => by obtain rfl := Option.some.inj h; obtain ⟨q1, q2, q3⟩ := hS; go_simp) hHeld ?_
            simp only [Act.put, List.setIfInBounds_toArray, List.set_cons_zero, List.set_cons_succ]
            refine takeH8 1 (.bool false) (some 138) rfl (by kernel_rfl) (by kernel_rfl) (by kernel_rfl) (fun _ _ _ h => h) (fun oi h => by obtain rfl := Option.some.inj h; rfl) (fun oi h W hS => by obtain rfl := Option.some.inj h; obtain ⟨q1, q2, q3⟩ := hS; go_simp) hHeld ?_
            simp only [Act.put, List.setIfInBounds_toArray, List.set_cons_zero, List.set_cons_succ]
            refine takeH8 2 (.bool false) (some 139) rfl (by kernel_rfl) (by kernel_rfl) (by kernel_rfl) (fun _ _ _ h => h) (fun oi h => by obtain rfl := Option.some.inj h; rfl) (fun oi h W hS => by obtain rfl := Option.some.inj h; obtain ⟨q1, q2, q3⟩ := hS; go_simp) hHeld ?_
            simp only [Act.put, List.setIfInBounds_toArray, List.set_cons_zero, List.set_cons_succ]
            refine takeH8 3 (.int .i64 (r' : Int)) (some 140) rfl (by kernel_rfl) (by kernel_rfl) (by kernel_rfl) (fun _ _ _ h => h) (fun oi h => by obtain rfl := Option.some.inj h; rfl) (fun oi h W hS => by obtain rfl := Option.some.inj h; obtain ⟨q1, q2, q3⟩ := hS; go_simp) hHeld ?_
            simp only [Act.put, List.setIfInBounds_toArray, List.set_cons_zero, List.set_cons_succ]
            refine takeH8 4 (.pointer (some ⟨q, 0, none⟩)) (some 141) rfl (by kernel_rfl) (by kernel_rfl) (by kernel_rfl) (fun _ _ _ h => h) (fun oi h => by obtain rfl := Option.some.inj h; rfl) (fun oi h W hS => by obtain rfl := Option.some.inj h; obtain ⟨q1, q2, q3⟩ := hS; go_simp) hHeld ?_
            simp only [Act.put, List.setIfInBounds_toArray, List.set_cons_zero, List.set_cons_succ]
            refine takeH8 5 (.pointer (some ⟨q, 0, none⟩)) (some 142) rfl (by kernel_rfl) (by kernel_rfl) (by kernel_rfl) (fun _ _ _ h => h) (fun oi h => by obtain rfl := Option.some.inj h; rfl) (fun oi h W hS => by obtain rfl := Option.some.inj h; obtain ⟨q1, q2, q3⟩ := hS; go_simp) hHeld ?_
            simp only [Act.put, List.setIfInBounds_toArray, List.set_cons_zero, List.set_cons_succ]
            refine takeH8 6 (.pointer (some ⟨q, 1, none⟩)) (some 143) rfl (by kernel_rfl) (by kernel_rfl) (by kernel_rfl) (fun _ _ _ h => h) (fun oi h => by obtain rfl := Option.some.inj h; rfl) (fun oi h W hS => by obtain rfl := Option.some.inj h; obtain ⟨q1, q2, q3⟩ := hS; go_simp) hHeld ?_
            simp only [Act.put, List.setIfInBounds_toArray, List.set_cons_zero, List.set_cons_succ]
            refine takeH8 7 (.int .i64 (r' : Int)) (some 144) rfl (by kernel_rfl) (by kernel_rfl) (by kernel_rfl) (fun _ _ _ h => h) (fun oi h => by obtain rfl := Option.some.inj h; rfl) (fun oi h W hS => by obtain rfl := Option.some.inj h; obtain ⟨q1, q2, q3⟩ := hS; go_simp) hHeld ?_
            simp only [Act.put, List.setIfInBounds_toArray, List.set_cons_zero, List.set_cons_succ]
            refine takeH8 8 (.bool false) (some 145) rfl (by kernel_rfl) (by kernel_rfl) (by kernel_rfl) (fun _ _ _ h => h) (fun oi h => by obtain rfl := Option.some.inj h; rfl) (fun oi h W hS => by obtain rfl := Option.some.inj h; obtain ⟨q1, q2, q3⟩ := hS; go_simp) hHeld ?_
            simp only [Act.put, List.setIfInBounds_toArray, List.set_cons_zero, List.set_cons_succ]
            refine takeH8 9 (.bool false) (some 146) rfl (by kernel_rfl) (by kernel_rfl) (by kernel_rfl) (fun _ _ _ h => h) (fun oi h => by obtain rfl := Option.some.inj h; rfl) (fun oi h W hS => by obtain rfl := Option.some.inj h; obtain ⟨q1, q2, q3⟩ := hS; go_simp) hHeld ?_
            simp only [Act.put, List.setIfInBounds_toArray, List.set_cons_zero, List.set_cons_succ]
            refine takeH8 10 (.bool false) (some 147) rfl (by kernel_rfl) (by kernel_rfl) (by kernel_rfl) (fun _ _ _ h => h) (fun oi h => by obtain rfl := Option.some.inj h; rfl) (fun oi h W hS => by obtain rfl := Option.some.inj h; obtain ⟨q1, q2, q3⟩ := hS; go_simp) hHeld ?_
            simp only [Act.put, List.setIfInBounds_toArray, List.set_cons_zero, List.set_cons_succ]
            refine takeH8 11 (.int .i64 (v' : Int)) (some 148) rfl (by kernel_rfl) (by kernel_rfl) (by kernel_rfl) (fun _ _ _ h => h) (fun oi h => by obtain rfl := Option.some.inj h; rfl) (fun oi h W hS => by obtain rfl := Option.some.inj h; obtain ⟨q1, q2, q3⟩ := hS; go_simp) hHeld ?_
            simp only [Act.put, List.setIfInBounds_toArray, List.set_cons_zero, List.set_cons_succ]
            refine takeH8 12 (.pointer (some ⟨q, 0, none⟩)) (some 149) rfl (by kernel_rfl) (by kernel_rfl) (by kernel_rfl) (fun _ _ _ h => h) (fun oi h => by obtain rfl := Option.some.inj h; rfl) (fun oi h W hS => by obtain rfl := Option.some.inj h; obtain ⟨q1, q2, q3⟩ := hS; go_simp) hHeld ?_
            simp only [Act.put, List.setIfInBounds_toArray, List.set_cons_zero, List.set_cons_succ]
            refine takeH8 13 (.pointer (some ⟨q, 0, none⟩)) (some 150) rfl (by kernel_rfl) (by kernel_rfl) (by kernel_rfl) (fun _ _ _ h => h) (fun oi h => by obtain rfl := Option.some.inj h; rfl) (fun oi h W hS => by obtain rfl := Option.some.inj h; obtain ⟨q1, q2, q3⟩ := hS; go_simp) hHeld ?_
            simp only [Act.put, List.setIfInBounds_toArray, List.set_cons_zero, List.set_cons_succ]
            refine takeH8 14 (.pointer (some ⟨q, 2, none⟩)) (some 151) rfl (by kernel_rfl) (by kernel_rfl) (by kernel_rfl) (fun _ _ _ h => h) (fun oi h => by obtain rfl := Option.some.inj h; rfl) (fun oi h W hS => by obtain rfl := Option.some.inj h; obtain ⟨q1, q2, q3⟩ := hS; go_simp) hHeld ?_
            simp only [Act.put, List.setIfInBounds_toArray, List.set_cons_zero, List.set_cons_succ]
            refine takeH8 15 (.int .i64 (v' : Int)) (some 152) rfl (by kernel_rfl) (by kernel_rfl) (by kernel_rfl) (fun _ _ _ h => h) (fun oi h => by obtain rfl := Option.some.inj h; rfl) (fun oi h W hS => by obtain rfl := Option.some.inj h; obtain ⟨q1, q2, q3⟩ := hS; go_simp) hHeld ?_
            simp only [Act.put, List.setIfInBounds_toArray, List.set_cons_zero, List.set_cons_succ]
            refine takeH8 16 (.bool false) (some 153) rfl (by kernel_rfl) (by kernel_rfl) (by kernel_rfl) (fun _ _ _ h => h) (fun oi h => by obtain rfl := Option.some.inj h; rfl) (fun oi h W hS => by obtain rfl := Option.some.inj h; obtain ⟨q1, q2, q3⟩ := hS; go_simp) hHeld ?_
            simp only [Act.put, List.setIfInBounds_toArray, List.set_cons_zero, List.set_cons_succ]
            refine takeH8 17 (.bool false) (some 154) rfl (by kernel_rfl) (by kernel_rfl) (by kernel_rfl) (fun _ _ _ h => h) (fun oi h => by obtain rfl := Option.some.inj h; rfl) (fun oi h W hS => by obtain rfl := Option.some.inj h; obtain ⟨q1, q2, q3⟩ := hS; go_simp) hHeld ?_
            simp only [Act.put, List.setIfInBounds_toArray, List.set_cons_zero, List.set_cons_succ]
            refine takeH8 18 (.bool false) (some 155) rfl (by kernel_rfl) (by kernel_rfl) (by kernel_rfl) (fun _ _ _ h => h) (fun oi h => by obtain rfl := Option.some.inj h; rfl) (fun oi h W hS => by obtain rfl := Option.some.inj h; obtain ⟨q1, q2, q3⟩ := hS; go_simp) hHeld ?_
            simp only [Act.put, List.setIfInBounds_toArray, List.set_cons_zero, List.set_cons_succ]
            refine takeH8 19 (.pointer (some ⟨p, 0, none⟩)) (some 156) rfl (by kernel_rfl) (by kernel_rfl) (by kernel_rfl) (fun _ _ _ h => h) (fun oi h => by obtain rfl := Option.some.inj h; rfl) (fun oi h W hS => by obtain rfl := Option.some.inj h; obtain ⟨q1, q2, q3⟩ := hS; go_simp) hHeld ?_
            simp only [Act.put, List.setIfInBounds_toArray, List.set_cons_zero, List.set_cons_succ]
            refine takeH8 21 (.pointer (some ⟨q, 0, none⟩)) (some 158) rfl (by kernel_rfl) (by kernel_rfl) (by kernel_rfl) (fun _ _ _ h => h) (fun oi h => by obtain rfl := Option.some.inj h; rfl) (fun oi h W hS => by obtain rfl := Option.some.inj h; obtain ⟨q1, q2, q3⟩ := hS; go_simp) hHeld ?_
            simp only [Act.put, List.setIfInBounds_toArray, List.set_cons_zero, List.set_cons_succ]
            refine takeH8 22 (.pointer (some ⟨q, 0, none⟩)) (some 159) rfl (by kernel_rfl) (by kernel_rfl) (by kernel_rfl) (fun _ _ _ h => h) (fun oi h => by obtain rfl := Option.some.inj h; rfl) (fun oi h W hS => by obtain rfl := Option.some.inj h; obtain ⟨q1, q2, q3⟩ := hS; go_simp) hHeld ?_
            simp only [Act.put, List.setIfInBounds_toArray, List.set_cons_zero, List.set_cons_succ]
            refine takeH8 23 (.pointer (some ⟨q, 0, none⟩)) (some 160) rfl (by kernel_rfl) (by kernel_rfl) (by kernel_rfl) (fun _ _ _ h => h) (fun oi h => by obtain rfl := Option.some.inj h; rfl) (fun oi h W hS => by obtain rfl := Option.some.inj h; obtain ⟨q1, q2, q3⟩ := hS; go_simp) hHeld ?_
            simp only [Act.put, List.setIfInBounds_toArray, List.set_cons_zero, List.set_cons_succ]
            refine takeH8 24 (.string Z) (some 161) rfl (by kernel_rfl) (by kernel_rfl) (by kernel_rfl) (fun _ _ _ h => h) (fun oi h => by obtain rfl := Option.some.inj h; rfl) (fun oi h W hS => by obtain rfl := Option.some.inj h; obtain ⟨q1, q2, q3⟩ := hS; go_simp) hHeld ?_
            simp only [Act.put, List.setIfInBounds_toArray, List.set_cons_zero, List.set_cons_succ]
            refine takeH8 25 (.int .i64 (c : Int)) (some 162) rfl (by kernel_rfl) (by kernel_rfl) (by kernel_rfl) (fun _ _ _ h => h) (fun oi h => by obtain rfl := Option.some.inj h; rfl) (fun oi h W hS => by obtain rfl := Option.some.inj h; obtain ⟨q1, q2, q3⟩ := hS; go_simp) hHeld ?_
            simp only [Act.put, List.setIfInBounds_toArray, List.set_cons_zero, List.set_cons_succ]
            refine wpAnyH_ready (rs := [20]) (by kernel_rfl) (by simp) ?_
            refine AllReadyH.cons (i := 20) rfl (fun K hK => ?_) AllReadyH.nil
            go_simp
            go_at_call 22
            refine (HKL.out _ H6.out).mono ?_
            rintro e w7 ⟨rfl, h7⟩
            have Z7 := Lib.hid (HKP.out _ h7)
            have H7 := Lib.hid h7
            clear h7
            refine hK.out _ _ Z7.out (fun hHeld => ?_)
            clear hK K
            try simp only [Act.put, List.setIfInBounds_toArray, List.set_cons_zero, List.set_cons_succ]
            refine takeH8 26 (.bool false) (some 163) rfl (by kernel_rfl) (by kernel_rfl) (by kernel_rfl) (fun _ _ _ h => h) (fun oi h => by obtain rfl := Option.some.inj h; rfl) (fun oi h W hS => by obtain rfl := Option.some.inj h; obtain ⟨q1, q2, q3⟩ := hS; go_simp) hHeld ?_
            simp only [Act.put, List.setIfInBounds_toArray, List.set_cons_zero, List.set_cons_succ]
            refine takeH8 27 (.bool false) (some 164) rfl (by kernel_rfl) (by kernel_rfl) (by kernel_rfl) (fun _ _ _ h => h) (fun oi h => by obtain rfl := Option.some.inj h; rfl) (fun oi h W hS => by obtain rfl := Option.some.inj h; obtain ⟨q1, q2, q3⟩ := hS; go_simp) hHeld ?_
            simp only [Act.put, List.setIfInBounds_toArray, List.set_cons_zero, List.set_cons_succ]
            refine takeH8 28 (.bool false) (some 165) rfl (by kernel_rfl) (by kernel_rfl) (by kernel_rfl) (fun _ _ _ h => h) (fun oi h => by obtain rfl := Option.some.inj h; rfl) (fun oi h W hS => by obtain rfl := Option.some.inj h; obtain ⟨q1, q2, q3⟩ := hS; go_simp) hHeld ?_
            simp only [Act.put, List.setIfInBounds_toArray, List.set_cons_zero, List.set_cons_succ]
            refine takeH8 29 (.pointer (some ⟨p, 0, none⟩)) (some 166) rfl (by kernel_rfl) (by kernel_rfl) (by kernel_rfl) (fun _ _ _ h => h) (fun oi h => by obtain rfl := Option.some.inj h; rfl) (fun oi h W hS => by obtain rfl := Option.some.inj h; obtain ⟨q1, q2, q3⟩ := hS; go_simp) hHeld ?_
            simp only [Act.put, List.setIfInBounds_toArray, List.set_cons_zero, List.set_cons_succ]
            refine takeH8 31 (.pointer (some ⟨q, 0, none⟩)) (some 168) rfl (by kernel_rfl) (by kernel_rfl) (by kernel_rfl) (fun _ _ _ h => h) (fun oi h => by obtain rfl := Option.some.inj h; rfl) (fun oi h W hS => by obtain rfl := Option.some.inj h; obtain ⟨q1, q2, q3⟩ := hS; go_simp) hHeld ?_
            simp only [Act.put, List.setIfInBounds_toArray, List.set_cons_zero, List.set_cons_succ]
            refine takeH8 32 (.pointer (some ⟨q, 0, none⟩)) (some 169) rfl (by kernel_rfl) (by kernel_rfl) (by kernel_rfl) (fun _ _ _ h => h) (fun oi h => by obtain rfl := Option.some.inj h; rfl) (fun oi h W hS => by obtain rfl := Option.some.inj h; obtain ⟨q1, q2, q3⟩ := hS; go_simp) hHeld ?_
            simp only [Act.put, List.setIfInBounds_toArray, List.set_cons_zero, List.set_cons_succ]
            refine takeH8 33 (.pointer (some ⟨q, 0, none⟩)) (some 170) rfl (by kernel_rfl) (by kernel_rfl) (by kernel_rfl) (fun _ _ _ h => h) (fun oi h => by obtain rfl := Option.some.inj h; rfl) (fun oi h W hS => by obtain rfl := Option.some.inj h; obtain ⟨q1, q2, q3⟩ := hS; go_simp) hHeld ?_
            simp only [Act.put, List.setIfInBounds_toArray, List.set_cons_zero, List.set_cons_succ]
            refine takeH8 34 (.string Z) (some 171) rfl (by kernel_rfl) (by kernel_rfl) (by kernel_rfl) (fun _ _ _ h => h) (fun oi h => by obtain rfl := Option.some.inj h; rfl) (fun oi h W hS => by obtain rfl := Option.some.inj h; obtain ⟨q1, q2, q3⟩ := hS; go_simp) hHeld ?_
            simp only [Act.put, List.setIfInBounds_toArray, List.set_cons_zero, List.set_cons_succ]
            refine takeH8 35 (.int .i64 (c : Int)) (some 172) rfl (by kernel_rfl) (by kernel_rfl) (by kernel_rfl) (fun _ _ _ h => h) (fun oi h => by obtain rfl := Option.some.inj h; rfl) (fun oi h W hS => by obtain rfl := Option.some.inj h; obtain ⟨q1, q2, q3⟩ := hS; go_simp) hHeld ?_
            simp only [Act.put, List.setIfInBounds_toArray, List.set_cons_zero, List.set_cons_succ]
            refine takeH8 36 (.bool true) (some 173) rfl (by kernel_rfl) (by kernel_rfl) (by kernel_rfl) (fun _ _ _ h => h) (fun oi h => by obtain rfl := Option.some.inj h; rfl) (fun oi h W hS => by obtain rfl := Option.some.inj h; obtain ⟨q1, q2, q3⟩ := hS; go_simp) hHeld ?_
            simp only [Act.put, List.setIfInBounds_toArray, List.set_cons_zero, List.set_cons_succ]
            refine wpAnyH_ready (rs := [30]) (by kernel_rfl) (by simp) ?_
            refine AllReadyH.cons (i := 30) rfl (fun K hK => ?_) AllReadyH.nil
            go_simp
            go_at_call 23
            refine (HKR.out _ H7.out).mono ?_
            rintro e w8 ⟨rfl, h8⟩
            have Z8 := Lib.hid (HKP.out _ h8)
            have H8 := Lib.hid h8
            clear h8
            refine hK.out _ _ Z8.out (fun hHeld => ?_)
            clear hK K
            try simp only [Act.put, List.setIfInBounds_toArray, List.set_cons_zero, List.set_cons_succ]
            refine takeH8 37 (.bool true) (some 174) rfl (by kernel_rfl) (by kernel_rfl) (by kernel_rfl) (fun _ _ _ h => h) (fun oi h => by obtain rfl := Option.some.inj h; rfl) (fun oi h W hS => by obtain rfl := Option.some.inj h; obtain ⟨q1, q2, q3⟩ := hS; go_simp) hHeld ?_
            simp only [Act.put, List.setIfInBounds_toArray, List.set_cons_zero, List.set_cons_succ]
            refine takeU10 38 (some 175) rfl (by kernel_rfl) (by kernel_rfl) (by kernel_rfl) (fun _ _ _ h => h) (fun oi h => by obtain rfl := Option.some.inj h; rfl) hHeld ?_
            simp only [Act.put, List.setIfInBounds_toArray, List.set_cons_zero, List.set_cons_succ]
            refine takeU10 39 (some 176) rfl (by kernel_rfl) (by kernel_rfl) (by kernel_rfl) (fun _ _ _ h => h) (fun oi h => by obtain rfl := Option.some.inj h; rfl) hHeld ?_
            simp only [Act.put, List.setIfInBounds_toArray, List.set_cons_zero, List.set_cons_succ]
            refine takeU10 40 (some 177) rfl (by kernel_rfl) (by kernel_rfl) (by kernel_rfl) (fun _ _ _ h => h) (fun oi h => by obtain rfl := Option.some.inj h; rfl) hHeld ?_
            simp only [Act.put, List.setIfInBounds_toArray, List.set_cons_zero, List.set_cons_succ]
            refine takeU10 41 (some 178) rfl (by kernel_rfl) (by kernel_rfl) (by kernel_rfl) (fun _ _ _ h => h) (fun oi h => by obtain rfl := Option.some.inj h; rfl) hHeld ?_
            simp only [Act.put, List.setIfInBounds_toArray, List.set_cons_zero, List.set_cons_succ]
            refine takeU10 42 (some 179) rfl (by kernel_rfl) (by kernel_rfl) (by kernel_rfl) (fun _ _ _ h => h) (fun oi h => by obtain rfl := Option.some.inj h; rfl) hHeld ?_
            simp only [Act.put, List.setIfInBounds_toArray, List.set_cons_zero, List.set_cons_succ]
            refine takeH8 43 (.bool true) (some 180) rfl (by kernel_rfl) (by kernel_rfl) (by kernel_rfl) (fun _ _ _ h => h) (fun oi h => by obtain rfl := Option.some.inj h; rfl) (fun oi h W hS => by obtain rfl := Option.some.inj h; obtain ⟨q1, q2, q3⟩ := hS; go_simp) hHeld ?_
            simp only [Act.put, List.setIfInBounds_toArray, List.set_cons_zero, List.set_cons_succ]
            refine takeH8 44 (.bool false) (some 181) rfl (by kernel_rfl) (by kernel_rfl) (by kernel_rfl) (fun _ _ _ h => h) (fun oi h => by obtain rfl := Option.some.inj h; rfl) (fun oi h W hS => by obtain rfl := Option.some.inj h; obtain ⟨q1, q2, q3⟩ := hS; go_simp) hHeld ?_
            simp only [Act.put, List.setIfInBounds_toArray, List.set_cons_zero, List.set_cons_succ]
            refine takeH8 45 (.bool false) (some 182) rfl (by kernel_rfl) (by kernel_rfl) (by kernel_rfl) (fun _ _ _ h => h) (fun oi h => by obtain rfl := Option.some.inj h; rfl) (fun oi h W hS => by obtain rfl := Option.some.inj h; obtain ⟨q1, q2, q3⟩ := hS; go_simp) hHeld ?_
            simp only [Act.put, List.setIfInBounds_toArray, List.set_cons_zero, List.set_cons_succ]
            refine takeH8 46 (.bool false) (some 183) rfl (by kernel_rfl) (by kernel_rfl) (by kernel_rfl) (fun _ _ _ h => h) (fun oi h => by obtain rfl := Option.some.inj h; rfl) (fun oi h W hS => by obtain rfl := Option.some.inj h; obtain ⟨q1, q2, q3⟩ := hS; go_simp) hHeld ?_
            simp only [Act.put, List.setIfInBounds_toArray, List.set_cons_zero, List.set_cons_succ]
            refine takeH8 47 (.pointer (some ⟨p, 0, none⟩)) (some 184) rfl (by kernel_rfl) (by kernel_rfl) (by kernel_rfl) (fun _ _ _ h => h) (fun oi h => by obtain rfl := Option.some.inj h; rfl) (fun oi h W hS => by obtain rfl := Option.some.inj h; obtain ⟨q1, q2, q3⟩ := hS; go_simp) hHeld ?_
            simp only [Act.put, List.setIfInBounds_toArray, List.set_cons_zero, List.set_cons_succ]
            refine takeH8 49 (.pointer (some ⟨q, 0, none⟩)) (some 186) rfl (by kernel_rfl) (by kernel_rfl) (by kernel_rfl) (fun _ _ _ h => h) (fun oi h => by obtain rfl := Option.some.inj h; rfl) (fun oi h W hS => by obtain rfl := Option.some.inj h; obtain ⟨q1, q2, q3⟩ := hS; go_simp) hHeld ?_
            simp only [Act.put, List.setIfInBounds_toArray, List.set_cons_zero, List.set_cons_succ]
            refine takeH8 50 (.pointer (some ⟨q, 0, none⟩)) (some 187) rfl (by kernel_rfl) (by kernel_rfl) (by kernel_rfl) (fun _ _ _ h => h) (fun oi h => by obtain rfl := Option.some.inj h; rfl) (fun oi h W hS => by obtain rfl := Option.some.inj h; obtain ⟨q1, q2, q3⟩ := hS; go_simp) hHeld ?_
            simp only [Act.put, List.setIfInBounds_toArray, List.set_cons_zero, List.set_cons_succ]
            refine takeH8 51 (.pointer (some ⟨q, 1, none⟩)) (some 188) rfl (by kernel_rfl) (by kernel_rfl) (by kernel_rfl) (fun _ _ _ h => h) (fun oi h => by obtain rfl := Option.some.inj h; rfl) (fun oi h W hS => by obtain rfl := Option.some.inj h; obtain ⟨q1, q2, q3⟩ := hS; go_simp) hHeld ?_
            simp only [Act.put, List.setIfInBounds_toArray, List.set_cons_zero, List.set_cons_succ]
            refine takeH8 52 (.int .i64 (r' : Int)) (some 189) rfl (by kernel_rfl) (by kernel_rfl) (by kernel_rfl) (fun _ _ _ h => h) (fun oi h => by obtain rfl := Option.some.inj h; rfl) (fun oi h W hS => by obtain rfl := Option.some.inj h; obtain ⟨q1, q2, q3⟩ := hS; go_simp) hHeld ?_
            simp only [Act.put, List.setIfInBounds_toArray, List.set_cons_zero, List.set_cons_succ]
            refine takeH8 53 (.bool false) (some 190) rfl (by kernel_rfl) (by kernel_rfl) (by kernel_rfl) (fun _ _ _ h => h) (fun oi h => by obtain rfl := Option.some.inj h; rfl) (fun oi h W hS => by obtain rfl := Option.some.inj h; obtain ⟨q1, q2, q3⟩ := hS; go_simp) hHeld ?_
            simp only [Act.put, List.setIfInBounds_toArray, List.set_cons_zero, List.set_cons_succ]
            refine wpAnyH_ready (rs := [48]) (by kernel_rfl) (by simp) ?_
            refine AllReadyH.cons (i := 48) rfl (fun K hK => ?_) AllReadyH.nil
            go_simp
            go_at_call 24
            refine (HKW.out _ H8.out).mono ?_
            rintro e w9 ⟨rfl, h9⟩
            have Z9 := Lib.hid (HKP.out _ h9)
            have H9 := Lib.hid h9
            clear h9
            refine hK.out _ _ Z9.out (fun hHeld => ?_)
            clear hK K
            try simp only [Act.put, List.setIfInBounds_toArray, List.set_cons_zero, List.set_cons_succ]
            refine takeH8 54 (.bool false) (some 191) rfl (by kernel_rfl) (by kernel_rfl) (by kernel_rfl) (fun _ _ _ h => h) (fun oi h => by obtain rfl := Option.some.inj h; rfl) (fun oi h W hS => by obtain rfl := Option.some.inj h; obtain ⟨q1, q2, q3⟩ := hS; go_simp) hHeld ?_
            simp only [Act.put, List.setIfInBounds_toArray, List.set_cons_zero, List.set_cons_succ]
            refine takeH8 55 (.pointer (some ⟨q, 0, none⟩)) (some 192) rfl (by kernel_rfl) (by kernel_rfl) (by kernel_rfl) (fun _ _ _ h => h) (fun oi h => by obtain rfl := Option.some.inj h; rfl) (fun oi h W hS => by obtain rfl := Option.some.inj h; obtain ⟨q1, q2, q3⟩ := hS; go_simp) hHeld ?_
            simp only [Act.put, List.setIfInBounds_toArray, List.set_cons_zero, List.set_cons_succ]
            refine takeH8 56 (.pointer (some ⟨q, 0, none⟩)) (some 193) rfl (by kernel_rfl) (by kernel_rfl) (by kernel_rfl) (fun _ _ _ h => h) (fun oi h => by obtain rfl := Option.some.inj h; rfl) (fun oi h W hS => by obtain rfl := Option.some.inj h; obtain ⟨q1, q2, q3⟩ := hS; go_simp) hHeld ?_
            simp only [Act.put, List.setIfInBounds_toArray, List.set_cons_zero, List.set_cons_succ]
            refine takeH8 57 (.pointer (some ⟨q, 0, none⟩)) (some 194) rfl (by kernel_rfl) (by kernel_rfl) (by kernel_rfl) (fun _ _ _ h => h) (fun oi h => by obtain rfl := Option.some.inj h; rfl) (fun oi h W hS => by obtain rfl := Option.some.inj h; obtain ⟨q1, q2, q3⟩ := hS; go_simp) hHeld ?_
            simp only [Act.put, List.setIfInBounds_toArray, List.set_cons_zero, List.set_cons_succ]
            refine takeH8 58 (.string Z) (some 195) rfl (by kernel_rfl) (by kernel_rfl) (by kernel_rfl) (fun _ _ _ h => h) (fun oi h => by obtain rfl := Option.some.inj h; rfl) (fun oi h W hS => by obtain rfl := Option.some.inj h; obtain ⟨q1, q2, q3⟩ := hS; go_simp) hHeld ?_
            simp only [Act.put, List.setIfInBounds_toArray, List.set_cons_zero, List.set_cons_succ]
            refine takeH8 59 (.int .i64 (c : Int)) (some 196) rfl (by kernel_rfl) (by kernel_rfl) (by kernel_rfl) (fun _ _ _ h => h) (fun oi h => by obtain rfl := Option.some.inj h; rfl) (fun oi h W hS => by obtain rfl := Option.some.inj h; obtain ⟨q1, q2, q3⟩ := hS; go_simp) hHeld ?_
            simp only [Act.put, List.setIfInBounds_toArray, List.set_cons_zero, List.set_cons_succ]
            refine takeH8 60 (.bool (decide ((c : Int) < 32))) (some 197) rfl (by kernel_rfl) (by kernel_rfl) (by kernel_rfl) (fun _ _ _ h => h) (fun oi h => by obtain rfl := Option.some.inj h; rfl) (fun oi h W hS => by obtain rfl := Option.some.inj h; obtain ⟨q1, q2, q3⟩ := hS; go_simp) hHeld ?_
            simp only [Act.put, List.setIfInBounds_toArray, List.set_cons_zero, List.set_cons_succ]
            refine takeH8 61 (.bool (decide ((c : Int) < 32))) (some 198) rfl (by kernel_rfl) (by kernel_rfl) (by kernel_rfl) (fun _ _ _ h => h) (fun oi h => by obtain rfl := Option.some.inj h; rfl) (fun oi h W hS => by obtain rfl := Option.some.inj h; obtain ⟨q1, q2, q3⟩ := hS; go_simp) hHeld ?_
            simp only [Act.put, List.setIfInBounds_toArray, List.set_cons_zero, List.set_cons_succ]
            refine takeH8 62 (.bool false) (some 199) rfl (by kernel_rfl) (by kernel_rfl) (by kernel_rfl) (fun _ _ _ h => h) (fun oi h => by obtain rfl := Option.some.inj h; rfl) (fun oi h W hS => by obtain rfl := Option.some.inj h; obtain ⟨q1, q2, q3⟩ := hS; go_simp) hHeld ?_
            simp only [Act.put, List.setIfInBounds_toArray, List.set_cons_zero, List.set_cons_succ]
            refine takeH8 63 (.bool false) (some 200) rfl (by kernel_rfl) (by kernel_rfl) (by kernel_rfl) (fun _ _ _ h => h) (fun oi h => by obtain rfl := Option.some.inj h; rfl) (fun oi h W hS => by obtain rfl := Option.some.inj h; obtain ⟨q1, q2, q3⟩ := hS; go_simp) hHeld ?_
            simp only [Act.put, List.setIfInBounds_toArray, List.set_cons_zero, List.set_cons_succ]
            refine wpAnyH_done (by kernel_rfl) ?_ _
            go_wp2
            go_roundw
            case rel => exact ⟨j + 1, by omega, by omega, by go_num, L', r', v', H9.out.un⟩
            case measure => simp [intOf]; omega
        · as_aux_lemma =>
            refine wp_region_held_drew (S := (fun w' => w'.cell? ⟨q, 0, none⟩ = some (.string Z) ∧ w'.cell? ⟨q, 1, none⟩ = some (.int .i64 (r' : Int)) ∧ w'.cell? ⟨q, 2, none⟩ = some (.int .i64 (v' : Int)))) (by kernel_rfl) Z6.out (fun hHeld => ?_)
            change wpAnyH _ _ _ _ _ 64 (Array.replicate 64 false) _ _
            refine takeH8 0 (.bool true) (some 137) rfl (by kernel_rfl) (by kernel_rfl) (by kernel_rfl) (fun _ _ _ h => h) (fun oi h => by obtain rfl := Option.some.inj h; rfl) (fun oi h W hS => by obtain rfl := Option.some.inj h; obtain ⟨q1, q2, q3⟩ := hS; go_simp) hHeld ?_
            simp only [Act.put, List.setIfInBounds_toArray, List.set_cons_zero, List.set_cons_succ]
            refine takeH8 1 (.bool false) (some 138) rfl (by kernel_rfl) (by kernel_rfl) (by kernel_rfl) (fun _ _ _ h => h) (fun oi h => by obtain rfl := Option.some.inj h; rfl) (fun oi h W hS => by obtain rfl := Option.some.inj h; obtain ⟨q1, q2, q3⟩ := hS; go_simp) hHeld ?_
            simp only [Act.put, List.setIfInBounds_toArray, List.set_cons_zero, List.set_cons_succ]
            refine takeH8 2 (.bool false) (some 139) rfl (by kernel_rfl) (by kernel_rfl) (by kernel_rfl) (fun _ _ _ h => h) (fun oi h => by obtain rfl := Option.some.inj h; rfl) (fun oi h W hS => by obtain rfl := Option.some.inj h; obtain ⟨q1, q2, q3⟩ := hS; go_simp) hHeld ?_
            simp only [Act.put, List.setIfInBounds_toArray, List.set_cons_zero, List.set_cons_succ]
            refine takeH8 3 (.int .i64 (r' : Int)) (some 140) rfl (by kernel_rfl) (by kernel_rfl) (by kernel_rfl) (fun _ _ _ h => h) (fun oi h => by obtain rfl := Option.some.inj h; rfl) (fun oi h W hS => by obtain rfl := Option.some.inj h; obtain ⟨q1, q2, q3⟩ := hS; go_simp) hHeld ?_
            simp only [Act.put, List.setIfInBounds_toArray, List.set_cons_zero, List.set_cons_succ]
            refine takeH8 4 (.pointer (some ⟨q, 0, none⟩)) (some 141) rfl (by kernel_rfl) (by kernel_rfl) (by kernel_rfl) (fun _ _ _ h => h) (fun oi h => by obtain rfl := Option.some.inj h; rfl) (fun oi h W hS => by obtain rfl := Option.some.inj h; obtain ⟨q1, q2, q3⟩ := hS; go_simp) hHeld ?_
            simp only [Act.put, List.setIfInBounds_toArray, List.set_cons_zero, List.set_cons_succ]
            refine takeH8 5 (.pointer (some ⟨q, 0, none⟩)) (some 142) rfl (by kernel_rfl) (by kernel_rfl) (by kernel_rfl) (fun _ _ _ h => h) (fun oi h => by obtain rfl := Option.some.inj h; rfl) (fun oi h W hS => by obtain rfl := Option.some.inj h; obtain ⟨q1, q2, q3⟩ := hS; go_simp) hHeld ?_
            simp only [Act.put, List.setIfInBounds_toArray, List.set_cons_zero, List.set_cons_succ]
            refine takeH8 6 (.pointer (some ⟨q, 1, none⟩)) (some 143) rfl (by kernel_rfl) (by kernel_rfl) (by kernel_rfl) (fun _ _ _ h => h) (fun oi h => by obtain rfl := Option.some.inj h; rfl) (fun oi h W hS => by obtain rfl := Option.some.inj h; obtain ⟨q1, q2, q3⟩ := hS; go_simp) hHeld ?_
            simp only [Act.put, List.setIfInBounds_toArray, List.set_cons_zero, List.set_cons_succ]
            refine takeH8 7 (.int .i64 (r' : Int)) (some 144) rfl (by kernel_rfl) (by kernel_rfl) (by kernel_rfl) (fun _ _ _ h => h) (fun oi h => by obtain rfl := Option.some.inj h; rfl) (fun oi h W hS => by obtain rfl := Option.some.inj h; obtain ⟨q1, q2, q3⟩ := hS; go_simp) hHeld ?_
            simp only [Act.put, List.setIfInBounds_toArray, List.set_cons_zero, List.set_cons_succ]
            refine takeH8 8 (.bool false) (some 145) rfl (by kernel_rfl) (by kernel_rfl) (by kernel_rfl) (fun _ _ _ h => h) (fun oi h => by obtain rfl := Option.some.inj h; rfl) (fun oi h W hS => by obtain rfl := Option.some.inj h; obtain ⟨q1, q2, q3⟩ := hS; go_simp) hHeld ?_
            simp only [Act.put, List.setIfInBounds_toArray, List.set_cons_zero, List.set_cons_succ]
            refine takeH8 9 (.bool false) (some 146) rfl (by kernel_rfl) (by kernel_rfl) (by kernel_rfl) (fun _ _ _ h => h) (fun oi h => by obtain rfl := Option.some.inj h; rfl) (fun oi h W hS => by obtain rfl := Option.some.inj h; obtain ⟨q1, q2, q3⟩ := hS; go_simp) hHeld ?_
            simp only [Act.put, List.setIfInBounds_toArray, List.set_cons_zero, List.set_cons_succ]
            refine takeH8 10 (.bool false) (some 147) rfl (by kernel_rfl) (by kernel_rfl) (by kernel_rfl) (fun _ _ _ h => h) (fun oi h => by obtain rfl := Option.some.inj h; rfl) (fun oi h W hS => by obtain rfl := Option.some.inj h; obtain ⟨q1, q2, q3⟩ := hS; go_simp) hHeld ?_
            simp only [Act.put, List.setIfInBounds_toArray, List.set_cons_zero, List.set_cons_succ]
            refine takeH8 11 (.int .i64 (v' : Int)) (some 148) rfl (by kernel_rfl) (by kernel_rfl) (by kernel_rfl) (fun _ _ _ h => h) (fun oi h => by obtain rfl := Option.some.inj h; rfl) (fun oi h W hS => by obtain rfl := Option.some.inj h; obtain ⟨q1, q2, q3⟩ := hS; go_simp) hHeld ?_
            simp only [Act.put, List.setIfInBounds_toArray, List.set_cons_zero, List.set_cons_succ]
            refine takeH8 12 (.pointer (some ⟨q, 0, none⟩)) (some 149) rfl (by kernel_rfl) (by kernel_rfl) (by kernel_rfl) (fun _ _ _ h => h) (fun oi h => by obtain rfl := Option.some.inj h; rfl) (fun oi h W hS => by obtain rfl := Option.some.inj h; obtain ⟨q1, q2, q3⟩ := hS; go_simp) hHeld ?_
            simp only [Act.put, List.setIfInBounds_toArray, List.set_cons_zero, List.set_cons_succ]
            refine takeH8 13 (.pointer (some ⟨q, 0, none⟩)) (some 150) rfl (by kernel_rfl) (by kernel_rfl) (by kernel_rfl) (fun _ _ _ h => h) (fun oi h => by obtain rfl := Option.some.inj h; rfl) (fun oi h W hS => by obtain rfl := Option.some.inj h; obtain ⟨q1, q2, q3⟩ := hS; go_simp) hHeld ?_
            simp only [Act.put, List.setIfInBounds_toArray, List.set_cons_zero, List.set_cons_succ]
            refine takeH8 14 (.pointer (some ⟨q, 2, none⟩)) (some 151) rfl (by kernel_rfl) (by kernel_rfl) (by kernel_rfl) (fun _ _ _ h => h) (fun oi h => by obtain rfl := Option.some.inj h; rfl) (fun oi h W hS => by obtain rfl := Option.some.inj h; obtain ⟨q1, q2, q3⟩ := hS; go_simp) hHeld ?_
            simp only [Act.put, List.setIfInBounds_toArray, List.set_cons_zero, List.set_cons_succ]
            refine takeH8 15 (.int .i64 (v' : Int)) (some 152) rfl (by kernel_rfl) (by kernel_rfl) (by kernel_rfl) (fun _ _ _ h => h) (fun oi h => by obtain rfl := Option.some.inj h; rfl) (fun oi h W hS => by obtain rfl := Option.some.inj h; obtain ⟨q1, q2, q3⟩ := hS; go_simp) hHeld ?_
            simp only [Act.put, List.setIfInBounds_toArray, List.set_cons_zero, List.set_cons_succ]
            refine takeH8 16 (.bool false) (some 153) rfl (by kernel_rfl) (by kernel_rfl) (by kernel_rfl) (fun _ _ _ h => h) (fun oi h => by obtain rfl := Option.some.inj h; rfl) (fun oi h W hS => by obtain rfl := Option.some.inj h; obtain ⟨q1, q2, q3⟩ := hS; go_simp) hHeld ?_
            simp only [Act.put, List.setIfInBounds_toArray, List.set_cons_zero, List.set_cons_succ]
            refine takeH8 17 (.bool false) (some 154) rfl (by kernel_rfl) (by kernel_rfl) (by kernel_rfl) (fun _ _ _ h => h) (fun oi h => by obtain rfl := Option.some.inj h; rfl) (fun oi h W hS => by obtain rfl := Option.some.inj h; obtain ⟨q1, q2, q3⟩ := hS; go_simp) hHeld ?_
            simp only [Act.put, List.setIfInBounds_toArray, List.set_cons_zero, List.set_cons_succ]
            refine takeH8 18 (.bool false) (some 155) rfl (by kernel_rfl) (by kernel_rfl) (by kernel_rfl) (fun _ _ _ h => h) (fun oi h => by obtain rfl := Option.some.inj h; rfl) (fun oi h W hS => by obtain rfl := Option.some.inj h; obtain ⟨q1, q2, q3⟩ := hS; go_simp) hHeld ?_
            simp only [Act.put, List.setIfInBounds_toArray, List.set_cons_zero, List.set_cons_succ]
            refine takeH8 19 (.pointer (some ⟨p, 0, none⟩)) (some 156) rfl (by kernel_rfl) (by kernel_rfl) (by kernel_rfl) (fun _ _ _ h => h) (fun oi h => by obtain rfl := Option.some.inj h; rfl) (fun oi h W hS => by obtain rfl := Option.some.inj h; obtain ⟨q1, q2, q3⟩ := hS; go_simp) hHeld ?_
            simp only [Act.put, List.setIfInBounds_toArray, List.set_cons_zero, List.set_cons_succ]
            refine takeH8 21 (.pointer (some ⟨q, 0, none⟩)) (some 158) rfl (by kernel_rfl) (by kernel_rfl) (by kernel_rfl) (fun _ _ _ h => h) (fun oi h => by obtain rfl := Option.some.inj h; rfl) (fun oi h W hS => by obtain rfl := Option.some.inj h; obtain ⟨q1, q2, q3⟩ := hS; go_simp) hHeld ?_
            simp only [Act.put, List.setIfInBounds_toArray, List.set_cons_zero, List.set_cons_succ]
            refine takeH8 22 (.pointer (some ⟨q, 0, none⟩)) (some 159) rfl (by kernel_rfl) (by kernel_rfl) (by kernel_rfl) (fun _ _ _ h => h) (fun oi h => by obtain rfl := Option.some.inj h; rfl) (fun oi h W hS => by obtain rfl := Option.some.inj h; obtain ⟨q1, q2, q3⟩ := hS; go_simp) hHeld ?_
            simp only [Act.put, List.setIfInBounds_toArray, List.set_cons_zero, List.set_cons_succ]
            refine takeH8 23 (.pointer (some ⟨q, 0, none⟩)) (some 160) rfl (by kernel_rfl) (by kernel_rfl) (by kernel_rfl) (fun _ _ _ h => h) (fun oi h => by obtain rfl := Option.some.inj h; rfl) (fun oi h W hS => by obtain rfl := Option.some.inj h; obtain ⟨q1, q2, q3⟩ := hS; go_simp) hHeld ?_
            simp only [Act.put, List.setIfInBounds_toArray, List.set_cons_zero, List.set_cons_succ]
            refine takeH8 24 (.string Z) (some 161) rfl (by kernel_rfl) (by kernel_rfl) (by kernel_rfl) (fun _ _ _ h => h) (fun oi h => by obtain rfl := Option.some.inj h; rfl) (fun oi h W hS => by obtain rfl := Option.some.inj h; obtain ⟨q1, q2, q3⟩ := hS; go_simp) hHeld ?_
            simp only [Act.put, List.setIfInBounds_toArray, List.set_cons_zero, List.set_cons_succ]
            refine takeH8 25 (.int .i64 0) (some 162) rfl (by kernel_rfl) (by kernel_rfl) (by kernel_rfl) (fun _ _ _ h => h) (fun oi h => by obtain rfl := Option.some.inj h; rfl) (fun oi h W hS => by obtain rfl := Option.some.inj h; obtain ⟨q1, q2, q3⟩ := hS; go_simp) hHeld ?_
            simp only [Act.put, List.setIfInBounds_toArray, List.set_cons_zero, List.set_cons_succ]
            refine wpAnyH_ready (rs := [20]) (by kernel_rfl) (by simp) ?_
            refine AllReadyH.cons (i := 20) rfl (fun K hK => ?_) AllReadyH.nil
            go_simp
            go_at_call 22
            refine (HKL.out _ H6.out).mono ?_
            rintro e w7 ⟨rfl, h7⟩
            have Z7 := Lib.hid (HKP.out _ h7)
            have H7 := Lib.hid h7
            clear h7
            refine hK.out _ _ Z7.out (fun hHeld => ?_)
            clear hK K
            try simp only [Act.put, List.setIfInBounds_toArray, List.set_cons_zero, List.set_cons_succ]
            refine takeH8 26 (.bool false) (some 163) rfl (by kernel_rfl) (by kernel_rfl) (by kernel_rfl) (fun _ _ _ h => h) (fun oi h => by obtain rfl := Option.some.inj h; rfl) (fun oi h W hS => by obtain rfl := Option.some.inj h; obtain ⟨q1, q2, q3⟩ := hS; go_simp) hHeld ?_
            simp only [Act.put, List.setIfInBounds_toArray, List.set_cons_zero, List.set_cons_succ]
            refine takeH8 27 (.bool false) (some 164) rfl (by kernel_rfl) (by kernel_rfl) (by kernel_rfl) (fun _ _ _ h => h) (fun oi h => by obtain rfl := Option.some.inj h; rfl) (fun oi h W hS => by obtain rfl := Option.some.inj h; obtain ⟨q1, q2, q3⟩ := hS; go_simp) hHeld ?_
            simp only [Act.put, List.setIfInBounds_toArray, List.set_cons_zero, List.set_cons_succ]
            refine takeH8 28 (.bool false) (some 165) rfl (by kernel_rfl) (by kernel_rfl) (by kernel_rfl) (fun _ _ _ h => h) (fun oi h => by obtain rfl := Option.some.inj h; rfl) (fun oi h W hS => by obtain rfl := Option.some.inj h; obtain ⟨q1, q2, q3⟩ := hS; go_simp) hHeld ?_
            simp only [Act.put, List.setIfInBounds_toArray, List.set_cons_zero, List.set_cons_succ]
            refine takeH8 29 (.pointer (some ⟨p, 0, none⟩)) (some 166) rfl (by kernel_rfl) (by kernel_rfl) (by kernel_rfl) (fun _ _ _ h => h) (fun oi h => by obtain rfl := Option.some.inj h; rfl) (fun oi h W hS => by obtain rfl := Option.some.inj h; obtain ⟨q1, q2, q3⟩ := hS; go_simp) hHeld ?_
            simp only [Act.put, List.setIfInBounds_toArray, List.set_cons_zero, List.set_cons_succ]
            refine takeH8 31 (.pointer (some ⟨q, 0, none⟩)) (some 168) rfl (by kernel_rfl) (by kernel_rfl) (by kernel_rfl) (fun _ _ _ h => h) (fun oi h => by obtain rfl := Option.some.inj h; rfl) (fun oi h W hS => by obtain rfl := Option.some.inj h; obtain ⟨q1, q2, q3⟩ := hS; go_simp) hHeld ?_
            simp only [Act.put, List.setIfInBounds_toArray, List.set_cons_zero, List.set_cons_succ]
            refine takeH8 32 (.pointer (some ⟨q, 0, none⟩)) (some 169) rfl (by kernel_rfl) (by kernel_rfl) (by kernel_rfl) (fun _ _ _ h => h) (fun oi h => by obtain rfl := Option.some.inj h; rfl) (fun oi h W hS => by obtain rfl := Option.some.inj h; obtain ⟨q1, q2, q3⟩ := hS; go_simp) hHeld ?_
            simp only [Act.put, List.setIfInBounds_toArray, List.set_cons_zero, List.set_cons_succ]
            refine takeH8 33 (.pointer (some ⟨q, 0, none⟩)) (some 170) rfl (by kernel_rfl) (by kernel_rfl) (by kernel_rfl) (fun _ _ _ h => h) (fun oi h => by obtain rfl := Option.some.inj h; rfl) (fun oi h W hS => by obtain rfl := Option.some.inj h; obtain ⟨q1, q2, q3⟩ := hS; go_simp) hHeld ?_
            simp only [Act.put, List.setIfInBounds_toArray, List.set_cons_zero, List.set_cons_succ]
            refine takeH8 34 (.string Z) (some 171) rfl (by kernel_rfl) (by kernel_rfl) (by kernel_rfl) (fun _ _ _ h => h) (fun oi h => by obtain rfl := Option.some.inj h; rfl) (fun oi h W hS => by obtain rfl := Option.some.inj h; obtain ⟨q1, q2, q3⟩ := hS; go_simp) hHeld ?_
            simp only [Act.put, List.setIfInBounds_toArray, List.set_cons_zero, List.set_cons_succ]
            refine takeH8 35 (.int .i64 0) (some 172) rfl (by kernel_rfl) (by kernel_rfl) (by kernel_rfl) (fun _ _ _ h => h) (fun oi h => by obtain rfl := Option.some.inj h; rfl) (fun oi h W hS => by obtain rfl := Option.some.inj h; obtain ⟨q1, q2, q3⟩ := hS; go_simp) hHeld ?_
            simp only [Act.put, List.setIfInBounds_toArray, List.set_cons_zero, List.set_cons_succ]
            refine takeH8 36 (.bool false) (some 173) rfl (by kernel_rfl) (by kernel_rfl) (by kernel_rfl) (fun _ _ _ h => h) (fun oi h => by obtain rfl := Option.some.inj h; rfl) (fun oi h W hS => by obtain rfl := Option.some.inj h; obtain ⟨q1, q2, q3⟩ := hS; go_simp) hHeld ?_
            simp only [Act.put, List.setIfInBounds_toArray, List.set_cons_zero, List.set_cons_succ]
            refine wpAnyH_ready (rs := [30]) (by kernel_rfl) (by simp) ?_
            refine AllReadyH.cons (i := 30) rfl (fun K hK => ?_) AllReadyH.nil
            go_simp
            go_at_call 23
            refine (HKR.out _ H7.out).mono ?_
            rintro e w8 ⟨rfl, h8⟩
            have Z8 := Lib.hid (HKP.out _ h8)
            have H8 := Lib.hid h8
            clear h8
            refine hK.out _ _ Z8.out (fun hHeld => ?_)
            clear hK K
            try simp only [Act.put, List.setIfInBounds_toArray, List.set_cons_zero, List.set_cons_succ]
            refine takeH8 37 (.bool false) (some 174) rfl (by kernel_rfl) (by kernel_rfl) (by kernel_rfl) (fun _ _ _ h => h) (fun oi h => by obtain rfl := Option.some.inj h; rfl) (fun oi h W hS => by obtain rfl := Option.some.inj h; obtain ⟨q1, q2, q3⟩ := hS; go_simp) hHeld ?_
            simp only [Act.put, List.setIfInBounds_toArray, List.set_cons_zero, List.set_cons_succ]
            refine takeH8 38 (.pointer (some ⟨q, 0, none⟩)) (some 175) rfl (by kernel_rfl) (by kernel_rfl) (by kernel_rfl) (fun _ _ _ h => h) (fun oi h => by obtain rfl := Option.some.inj h; rfl) (fun oi h W hS => by obtain rfl := Option.some.inj h; obtain ⟨q1, q2, q3⟩ := hS; go_simp) hHeld ?_
            simp only [Act.put, List.setIfInBounds_toArray, List.set_cons_zero, List.set_cons_succ]
            refine takeH8 39 (.pointer (some ⟨q, 0, none⟩)) (some 176) rfl (by kernel_rfl) (by kernel_rfl) (by kernel_rfl) (fun _ _ _ h => h) (fun oi h => by obtain rfl := Option.some.inj h; rfl) (fun oi h W hS => by obtain rfl := Option.some.inj h; obtain ⟨q1, q2, q3⟩ := hS; go_simp) hHeld ?_
            simp only [Act.put, List.setIfInBounds_toArray, List.set_cons_zero, List.set_cons_succ]
            refine takeH8 40 (.pointer (some ⟨q, 2, none⟩)) (some 177) rfl (by kernel_rfl) (by kernel_rfl) (by kernel_rfl) (fun _ _ _ h => h) (fun oi h => by obtain rfl := Option.some.inj h; rfl) (fun oi h W hS => by obtain rfl := Option.some.inj h; obtain ⟨q1, q2, q3⟩ := hS; go_simp) hHeld ?_
            simp only [Act.put, List.setIfInBounds_toArray, List.set_cons_zero, List.set_cons_succ]
            refine takeH8 41 (.int .i64 (v' : Int)) (some 178) rfl (by kernel_rfl) (by kernel_rfl) (by kernel_rfl) (fun _ _ _ h => h) (fun oi h => by obtain rfl := Option.some.inj h; rfl) (fun oi h W hS => by obtain rfl := Option.some.inj h; obtain ⟨q1, q2, q3⟩ := hS; go_simp) hHeld ?_
            simp only [Act.put, List.setIfInBounds_toArray, List.set_cons_zero, List.set_cons_succ]
            refine takeH8 42 (.bool ((v' : Int) == 0)) (some 179) rfl (by kernel_rfl) (by kernel_rfl) (by kernel_rfl) (fun _ _ _ h => h) (fun oi h => by obtain rfl := Option.some.inj h; rfl) (fun oi h W hS => by obtain rfl := Option.some.inj h; obtain ⟨q1, q2, q3⟩ := hS; go_simp) hHeld ?_
            simp only [Act.put, List.setIfInBounds_toArray, List.set_cons_zero, List.set_cons_succ]
            refine takeH8 43 (.bool ((v' : Int) == 0)) (some 180) rfl (by kernel_rfl) (by kernel_rfl) (by kernel_rfl) (fun _ _ _ h => h) (fun oi h => by obtain rfl := Option.some.inj h; rfl) (fun oi h W hS => by obtain rfl := Option.some.inj h; obtain ⟨q1, q2, q3⟩ := hS; go_simp) hHeld ?_
            simp only [Act.put, List.setIfInBounds_toArray, List.set_cons_zero, List.set_cons_succ]
            refine takeH8 44 (.bool false) (some 181) rfl (by kernel_rfl) (by kernel_rfl) (by kernel_rfl) (fun _ _ _ h => h) (fun oi h => by obtain rfl := Option.some.inj h; rfl) (fun oi h W hS => by obtain rfl := Option.some.inj h; obtain ⟨q1, q2, q3⟩ := hS; go_simp) hHeld ?_
            simp only [Act.put, List.setIfInBounds_toArray, List.set_cons_zero, List.set_cons_succ]
            refine takeH8 45 (.bool false) (some 182) rfl (by kernel_rfl) (by kernel_rfl) (by kernel_rfl) (fun _ _ _ h => h) (fun oi h => by obtain rfl := Option.some.inj h; rfl) (fun oi h W hS => by obtain rfl := Option.some.inj h; obtain ⟨q1, q2, q3⟩ := hS; go_simp) hHeld ?_
            simp only [Act.put, List.setIfInBounds_toArray, List.set_cons_zero, List.set_cons_succ]
            refine takeH8 46 (.bool false) (some 183) rfl (by kernel_rfl) (by kernel_rfl) (by kernel_rfl) (fun _ _ _ h => h) (fun oi h => by obtain rfl := Option.some.inj h; rfl) (fun oi h W hS => by obtain rfl := Option.some.inj h; obtain ⟨q1, q2, q3⟩ := hS; go_simp) hHeld ?_
            simp only [Act.put, List.setIfInBounds_toArray, List.set_cons_zero, List.set_cons_succ]
            refine takeH8 47 (.pointer (some ⟨p, 0, none⟩)) (some 184) rfl (by kernel_rfl) (by kernel_rfl) (by kernel_rfl) (fun _ _ _ h => h) (fun oi h => by obtain rfl := Option.some.inj h; rfl) (fun oi h W hS => by obtain rfl := Option.some.inj h; obtain ⟨q1, q2, q3⟩ := hS; go_simp) hHeld ?_
            simp only [Act.put, List.setIfInBounds_toArray, List.set_cons_zero, List.set_cons_succ]
            refine takeH8 49 (.pointer (some ⟨q, 0, none⟩)) (some 186) rfl (by kernel_rfl) (by kernel_rfl) (by kernel_rfl) (fun _ _ _ h => h) (fun oi h => by obtain rfl := Option.some.inj h; rfl) (fun oi h W hS => by obtain rfl := Option.some.inj h; obtain ⟨q1, q2, q3⟩ := hS; go_simp) hHeld ?_
            simp only [Act.put, List.setIfInBounds_toArray, List.set_cons_zero, List.set_cons_succ]
            refine takeH8 50 (.pointer (some ⟨q, 0, none⟩)) (some 187) rfl (by kernel_rfl) (by kernel_rfl) (by kernel_rfl) (fun _ _ _ h => h) (fun oi h => by obtain rfl := Option.some.inj h; rfl) (fun oi h W hS => by obtain rfl := Option.some.inj h; obtain ⟨q1, q2, q3⟩ := hS; go_simp) hHeld ?_
            simp only [Act.put, List.setIfInBounds_toArray, List.set_cons_zero, List.set_cons_succ]
            refine takeH8 51 (.pointer (some ⟨q, 1, none⟩)) (some 188) rfl (by kernel_rfl) (by kernel_rfl) (by kernel_rfl) (fun _ _ _ h => h) (fun oi h => by obtain rfl := Option.some.inj h; rfl) (fun oi h W hS => by obtain rfl := Option.some.inj h; obtain ⟨q1, q2, q3⟩ := hS; go_simp) hHeld ?_
            simp only [Act.put, List.setIfInBounds_toArray, List.set_cons_zero, List.set_cons_succ]
            refine takeH8 52 (.int .i64 (r' : Int)) (some 189) rfl (by kernel_rfl) (by kernel_rfl) (by kernel_rfl) (fun _ _ _ h => h) (fun oi h => by obtain rfl := Option.some.inj h; rfl) (fun oi h W hS => by obtain rfl := Option.some.inj h; obtain ⟨q1, q2, q3⟩ := hS; go_simp) hHeld ?_
            simp only [Act.put, List.setIfInBounds_toArray, List.set_cons_zero, List.set_cons_succ]
            refine takeH8 53 (.bool true) (some 190) rfl (by kernel_rfl) (by kernel_rfl) (by kernel_rfl) (fun _ _ _ h => h) (fun oi h => by obtain rfl := Option.some.inj h; rfl) (fun oi h W hS => by obtain rfl := Option.some.inj h; obtain ⟨q1, q2, q3⟩ := hS; go_simp) hHeld ?_
            simp only [Act.put, List.setIfInBounds_toArray, List.set_cons_zero, List.set_cons_succ]
            refine wpAnyH_ready (rs := [48]) (by kernel_rfl) (by simp) ?_
            refine AllReadyH.cons (i := 48) rfl (fun K hK => ?_) AllReadyH.nil
            go_simp
            go_at_call 24
            refine (HKW.out _ H8.out).mono ?_
            rintro e w9 ⟨rfl, h9⟩
            have Z9 := Lib.hid (HKP.out _ h9)
            have H9 := Lib.hid h9
            clear h9
            refine hK.out _ _ Z9.out (fun hHeld => ?_)
            clear hK K
            try simp only [Act.put, List.setIfInBounds_toArray, List.set_cons_zero, List.set_cons_succ]
            refine takeH8 54 (.bool true) (some 191) rfl (by kernel_rfl) (by kernel_rfl) (by kernel_rfl) (fun _ _ _ h => h) (fun oi h => by obtain rfl := Option.some.inj h; rfl) (fun oi h W hS => by obtain rfl := Option.some.inj h; obtain ⟨q1, q2, q3⟩ := hS; go_simp) hHeld ?_
            simp only [Act.put, List.setIfInBounds_toArray, List.set_cons_zero, List.set_cons_succ]
            refine takeU10 55 (some 192) rfl (by kernel_rfl) (by kernel_rfl) (by kernel_rfl) (fun _ _ _ h => h) (fun oi h => by obtain rfl := Option.some.inj h; rfl) hHeld ?_
            simp only [Act.put, List.setIfInBounds_toArray, List.set_cons_zero, List.set_cons_succ]
            refine takeU10 56 (some 193) rfl (by kernel_rfl) (by kernel_rfl) (by kernel_rfl) (fun _ _ _ h => h) (fun oi h => by obtain rfl := Option.some.inj h; rfl) hHeld ?_
            simp only [Act.put, List.setIfInBounds_toArray, List.set_cons_zero, List.set_cons_succ]
            refine takeU10 57 (some 194) rfl (by kernel_rfl) (by kernel_rfl) (by kernel_rfl) (fun _ _ _ h => h) (fun oi h => by obtain rfl := Option.some.inj h; rfl) hHeld ?_
            simp only [Act.put, List.setIfInBounds_toArray, List.set_cons_zero, List.set_cons_succ]
            refine takeU10 58 (some 195) rfl (by kernel_rfl) (by kernel_rfl) (by kernel_rfl) (fun _ _ _ h => h) (fun oi h => by obtain rfl := Option.some.inj h; rfl) hHeld ?_
            simp only [Act.put, List.setIfInBounds_toArray, List.set_cons_zero, List.set_cons_succ]
            refine takeU10 59 (some 196) rfl (by kernel_rfl) (by kernel_rfl) (by kernel_rfl) (fun _ _ _ h => h) (fun oi h => by obtain rfl := Option.some.inj h; rfl) hHeld ?_
            simp only [Act.put, List.setIfInBounds_toArray, List.set_cons_zero, List.set_cons_succ]
            refine takeU10 60 (some 197) rfl (by kernel_rfl) (by kernel_rfl) (by kernel_rfl) (fun _ _ _ h => h) (fun oi h => by obtain rfl := Option.some.inj h; rfl) hHeld ?_
            simp only [Act.put, List.setIfInBounds_toArray, List.set_cons_zero, List.set_cons_succ]
            refine takeH8 61 (.bool true) (some 198) rfl (by kernel_rfl) (by kernel_rfl) (by kernel_rfl) (fun _ _ _ h => h) (fun oi h => by obtain rfl := Option.some.inj h; rfl) (fun oi h W hS => by obtain rfl := Option.some.inj h; obtain ⟨q1, q2, q3⟩ := hS; go_simp) hHeld ?_
            simp only [Act.put, List.setIfInBounds_toArray, List.set_cons_zero, List.set_cons_succ]
            refine takeH8 62 (.bool false) (some 199) rfl (by kernel_rfl) (by kernel_rfl) (by kernel_rfl) (fun _ _ _ h => h) (fun oi h => by obtain rfl := Option.some.inj h; rfl) (fun oi h W hS => by obtain rfl := Option.some.inj h; obtain ⟨q1, q2, q3⟩ := hS; go_simp) hHeld ?_
            simp only [Act.put, List.setIfInBounds_toArray, List.set_cons_zero, List.set_cons_succ]
            refine takeH8 63 (.bool false) (some 200) rfl (by kernel_rfl) (by kernel_rfl) (by kernel_rfl) (fun _ _ _ h => h) (fun oi h => by obtain rfl := Option.some.inj h; rfl) (fun oi h W hS => by obtain rfl := Option.some.inj h; obtain ⟨q1, q2, q3⟩ := hS; go_simp) hHeld ?_
            simp only [Act.put, List.setIfInBounds_toArray, List.set_cons_zero, List.set_cons_succ]
            refine wpAnyH_done (by kernel_rfl) ?_ _
            go_wp2
            go_roundw
            case rel => exact ⟨j + 1, by omega, by omega, by go_num, L', r', v', H9.out.un⟩
            case measure => simp [intOf]; omega
        · as_aux_lemma =>
            refine wp_region_held_drew (S := (fun w' => w'.cell? ⟨q, 0, none⟩ = some (.string Z) ∧ w'.cell? ⟨q, 1, none⟩ = some (.int .i64 (r' : Int)) ∧ w'.cell? ⟨q, 2, none⟩ = some (.int .i64 (v' : Int)))) (by kernel_rfl) Z6.out (fun hHeld => ?_)
            change wpAnyH _ _ _ _ _ 64 (Array.replicate 64 false) _ _
            refine takeH8 0 (.bool true) (some 137) rfl (by kernel_rfl) (by kernel_rfl) (by kernel_rfl) (fun _ _ _ h => h) (fun oi h => by obtain rfl := Option.some.inj h; rfl) (fun oi h W hS => by obtain rfl := Option.some.inj h; obtain ⟨q1, q2, q3⟩ := hS; go_simp) hHeld ?_
            simp only [Act.put, List.setIfInBounds_toArray, List.set_cons_zero, List.set_cons_succ]
            refine takeH8 1 (.bool false) (some 138) rfl (by kernel_rfl) (by kernel_rfl) (by kernel_rfl) (fun _ _ _ h => h) (fun oi h => by obtain rfl := Option.some.inj h; rfl) (fun oi h W hS => by obtain rfl := Option.some.inj h; obtain ⟨q1, q2, q3⟩ := hS; go_simp) hHeld ?_
            simp only [Act.put, List.setIfInBounds_toArray, List.set_cons_zero, List.set_cons_succ]
            refine takeH8 2 (.bool false) (some 139) rfl (by kernel_rfl) (by kernel_rfl) (by kernel_rfl) (fun _ _ _ h => h) (fun oi h => by obtain rfl := Option.some.inj h; rfl) (fun oi h W hS => by obtain rfl := Option.some.inj h; obtain ⟨q1, q2, q3⟩ := hS; go_simp) hHeld ?_
            simp only [Act.put, List.setIfInBounds_toArray, List.set_cons_zero, List.set_cons_succ]
            refine takeH8 3 (.int .i64 (r' : Int)) (some 140) rfl (by kernel_rfl) (by kernel_rfl) (by kernel_rfl) (fun _ _ _ h => h) (fun oi h => by obtain rfl := Option.some.inj h; rfl) (fun oi h W hS => by obtain rfl := Option.some.inj h; obtain ⟨q1, q2, q3⟩ := hS; go_simp) hHeld ?_
            simp only [Act.put, List.setIfInBounds_toArray, List.set_cons_zero, List.set_cons_succ]
            refine takeH8 4 (.pointer (some ⟨q, 0, none⟩)) (some 141) rfl (by kernel_rfl) (by kernel_rfl) (by kernel_rfl) (fun _ _ _ h => h) (fun oi h => by obtain rfl := Option.some.inj h; rfl) (fun oi h W hS => by obtain rfl := Option.some.inj h; obtain ⟨q1, q2, q3⟩ := hS; go_simp) hHeld ?_
            simp only [Act.put, List.setIfInBounds_toArray, List.set_cons_zero, List.set_cons_succ]
            refine takeH8 5 (.pointer (some ⟨q, 0, none⟩)) (some 142) rfl (by kernel_rfl) (by kernel_rfl) (by kernel_rfl) (fun _ _ _ h => h) (fun oi h => by obtain rfl := Option.some.inj h; rfl) (fun oi h W hS => by obtain rfl := Option.some.inj h; obtain ⟨q1, q2, q3⟩ := hS; go_simp) hHeld ?_
            simp only [Act.put, List.setIfInBounds_toArray, List.set_cons_zero, List.set_cons_succ]
            refine takeH8 6 (.pointer (some ⟨q, 1, none⟩)) (some 143) rfl (by kernel_rfl) (by kernel_rfl) (by kernel_rfl) (fun _ _ _ h => h) (fun oi h => by obtain rfl := Option.some.inj h; rfl) (fun oi h W hS => by obtain rfl := Option.some.inj h; obtain ⟨q1, q2, q3⟩ := hS; go_simp) hHeld ?_
            simp only [Act.put, List.setIfInBounds_toArray, List.set_cons_zero, List.set_cons_succ]
            refine takeH8 7 (.int .i64 (r' : Int)) (some 144) rfl (by kernel_rfl) (by kernel_rfl) (by kernel_rfl) (fun _ _ _ h => h) (fun oi h => by obtain rfl := Option.some.inj h; rfl) (fun oi h W hS => by obtain rfl := Option.some.inj h; obtain ⟨q1, q2, q3⟩ := hS; go_simp) hHeld ?_
            simp only [Act.put, List.setIfInBounds_toArray, List.set_cons_zero, List.set_cons_succ]
            refine takeH8 8 (.bool false) (some 145) rfl (by kernel_rfl) (by kernel_rfl) (by kernel_rfl) (fun _ _ _ h => h) (fun oi h => by obtain rfl := Option.some.inj h; rfl) (fun oi h W hS => by obtain rfl := Option.some.inj h; obtain ⟨q1, q2, q3⟩ := hS; go_simp) hHeld ?_
            simp only [Act.put, List.setIfInBounds_toArray, List.set_cons_zero, List.set_cons_succ]
            refine takeH8 9 (.bool false) (some 146) rfl (by kernel_rfl) (by kernel_rfl) (by kernel_rfl) (fun _ _ _ h => h) (fun oi h => by obtain rfl := Option.some.inj h; rfl) (fun oi h W hS => by obtain rfl := Option.some.inj h; obtain ⟨q1, q2, q3⟩ := hS; go_simp) hHeld ?_
            simp only [Act.put, List.setIfInBounds_toArray, List.set_cons_zero, List.set_cons_succ]
            refine takeH8 10 (.bool false) (some 147) rfl (by kernel_rfl) (by kernel_rfl) (by kernel_rfl) (fun _ _ _ h => h) (fun oi h => by obtain rfl := Option.some.inj h; rfl) (fun oi h W hS => by obtain rfl := Option.some.inj h; obtain ⟨q1, q2, q3⟩ := hS; go_simp) hHeld ?_
            simp only [Act.put, List.setIfInBounds_toArray, List.set_cons_zero, List.set_cons_succ]
            refine takeH8 11 (.int .i64 (v' : Int)) (some 148) rfl (by kernel_rfl) (by kernel_rfl) (by kernel_rfl) (fun _ _ _ h => h) (fun oi h => by obtain rfl := Option.some.inj h; rfl) (fun oi h W hS => by obtain rfl := Option.some.inj h; obtain ⟨q1, q2, q3⟩ := hS; go_simp) hHeld ?_
            simp only [Act.put, List.setIfInBounds_toArray, List.set_cons_zero, List.set_cons_succ]
            refine takeH8 12 (.pointer (some ⟨q, 0, none⟩)) (some 149) rfl (by kernel_rfl) (by kernel_rfl) (by kernel_rfl) (fun _ _ _ h => h) (fun oi h => by obtain rfl := Option.some.inj h; rfl) (fun oi h W hS => by obtain rfl := Option.some.inj h; obtain ⟨q1, q2, q3⟩ := hS; go_simp) hHeld ?_
            simp only [Act.put, List.setIfInBounds_toArray, List.set_cons_zero, List.set_cons_succ]
            refine takeH8 13 (.pointer (some ⟨q, 0, none⟩)) (some 150) rfl (by kernel_rfl) (by kernel_rfl) (by kernel_rfl) (fun _ _ _ h => h) (fun oi h => by obtain rfl := Option.some.inj h; rfl) (fun oi h W hS => by obtain rfl := Option.some.inj h; obtain ⟨q1, q2, q3⟩ := hS; go_simp) hHeld ?_
            simp only [Act.put, List.setIfInBounds_toArray, List.set_cons_zero, List.set_cons_succ]
            refine takeH8 14 (.pointer (some ⟨q, 2, none⟩)) (some 151) rfl (by kernel_rfl) (by kernel_rfl) (by kernel_rfl) (fun _ _ _ h => h) (fun oi h => by obtain rfl := Option.some.inj h; rfl) (fun oi h W hS => by obtain rfl := Option.some.inj h; obtain ⟨q1, q2, q3⟩ := hS; go_simp) hHeld ?_
            simp only [Act.put, List.setIfInBounds_toArray, List.set_cons_zero, List.set_cons_succ]
            refine takeH8 15 (.int .i64 (v' : Int)) (some 152) rfl (by kernel_rfl) (by kernel_rfl) (by kernel_rfl) (fun _ _ _ h => h) (fun oi h => by obtain rfl := Option.some.inj h; rfl) (fun oi h W hS => by obtain rfl := Option.some.inj h; obtain ⟨q1, q2, q3⟩ := hS; go_simp) hHeld ?_
            simp only [Act.put, List.setIfInBounds_toArray, List.set_cons_zero, List.set_cons_succ]
            refine takeH8 16 (.bool false) (some 153) rfl (by kernel_rfl) (by kernel_rfl) (by kernel_rfl) (fun _ _ _ h => h) (fun oi h => by obtain rfl := Option.some.inj h; rfl) (fun oi h W hS => by obtain rfl := Option.some.inj h; obtain ⟨q1, q2, q3⟩ := hS; go_simp) hHeld ?_
            simp only [Act.put, List.setIfInBounds_toArray, List.set_cons_zero, List.set_cons_succ]
            refine takeH8 17 (.bool false) (some 154) rfl (by kernel_rfl) (by kernel_rfl) (by kernel_rfl) (fun _ _ _ h => h) (fun oi h => by obtain rfl := Option.some.inj h; rfl) (fun oi h W hS => by obtain rfl := Option.some.inj h; obtain ⟨q1, q2, q3⟩ := hS; go_simp) hHeld ?_
            simp only [Act.put, List.setIfInBounds_toArray, List.set_cons_zero, List.set_cons_succ]
            refine takeH8 18 (.bool false) (some 155) rfl (by kernel_rfl) (by kernel_rfl) (by kernel_rfl) (fun _ _ _ h => h) (fun oi h => by obtain rfl := Option.some.inj h; rfl) (fun oi h W hS => by obtain rfl := Option.some.inj h; obtain ⟨q1, q2, q3⟩ := hS; go_simp) hHeld ?_
            simp only [Act.put, List.setIfInBounds_toArray, List.set_cons_zero, List.set_cons_succ]
            refine takeH8 19 (.pointer (some ⟨p, 0, none⟩)) (some 156) rfl (by kernel_rfl) (by kernel_rfl) (by kernel_rfl) (fun _ _ _ h => h) (fun oi h => by obtain rfl := Option.some.inj h; rfl) (fun oi h W hS => by obtain rfl := Option.some.inj h; obtain ⟨q1, q2, q3⟩ := hS; go_simp) hHeld ?_
            simp only [Act.put, List.setIfInBounds_toArray, List.set_cons_zero, List.set_cons_succ]
            refine takeH8 21 (.pointer (some ⟨q, 0, none⟩)) (some 158) rfl (by kernel_rfl) (by kernel_rfl) (by kernel_rfl) (fun _ _ _ h => h) (fun oi h => by obtain rfl := Option.some.inj h; rfl) (fun oi h W hS => by obtain rfl := Option.some.inj h; obtain ⟨q1, q2, q3⟩ := hS; go_simp) hHeld ?_
            simp only [Act.put, List.setIfInBounds_toArray, List.set_cons_zero, List.set_cons_succ]
            refine takeH8 22 (.pointer (some ⟨q, 0, none⟩)) (some 159) rfl (by kernel_rfl) (by kernel_rfl) (by kernel_rfl) (fun _ _ _ h => h) (fun oi h => by obtain rfl := Option.some.inj h; rfl) (fun oi h W hS => by obtain rfl := Option.some.inj h; obtain ⟨q1, q2, q3⟩ := hS; go_simp) hHeld ?_
            simp only [Act.put, List.setIfInBounds_toArray, List.set_cons_zero, List.set_cons_succ]
            refine takeH8 23 (.pointer (some ⟨q, 0, none⟩)) (some 160) rfl (by kernel_rfl) (by kernel_rfl) (by kernel_rfl) (fun _ _ _ h => h) (fun oi h => by obtain rfl := Option.some.inj h; rfl) (fun oi h W hS => by obtain rfl := Option.some.inj h; obtain ⟨q1, q2, q3⟩ := hS; go_simp) hHeld ?_
            simp only [Act.put, List.setIfInBounds_toArray, List.set_cons_zero, List.set_cons_succ]
            refine takeH8 24 (.string Z) (some 161) rfl (by kernel_rfl) (by kernel_rfl) (by kernel_rfl) (fun _ _ _ h => h) (fun oi h => by obtain rfl := Option.some.inj h; rfl) (fun oi h W hS => by obtain rfl := Option.some.inj h; obtain ⟨q1, q2, q3⟩ := hS; go_simp) hHeld ?_
            simp only [Act.put, List.setIfInBounds_toArray, List.set_cons_zero, List.set_cons_succ]
            refine takeH8 25 (.int .i64 0) (some 162) rfl (by kernel_rfl) (by kernel_rfl) (by kernel_rfl) (fun _ _ _ h => h) (fun oi h => by obtain rfl := Option.some.inj h; rfl) (fun oi h W hS => by obtain rfl := Option.some.inj h; obtain ⟨q1, q2, q3⟩ := hS; go_simp) hHeld ?_
            simp only [Act.put, List.setIfInBounds_toArray, List.set_cons_zero, List.set_cons_succ]
            refine wpAnyH_ready (rs := [20]) (by kernel_rfl) (by simp) ?_
            refine AllReadyH.cons (i := 20) rfl (fun K hK => ?_) AllReadyH.nil
            go_simp
            go_at_call 22
            refine (HKL.out _ H6.out).mono ?_
            rintro e w7 ⟨rfl, h7⟩
            have Z7 := Lib.hid (HKP.out _ h7)
            have H7 := Lib.hid h7
            clear h7
            refine hK.out _ _ Z7.out (fun hHeld => ?_)
            clear hK K
            try simp only [Act.put, List.setIfInBounds_toArray, List.set_cons_zero, List.set_cons_succ]
            refine takeH8 26 (.bool false) (some 163) rfl (by kernel_rfl) (by kernel_rfl) (by kernel_rfl) (fun _ _ _ h => h) (fun oi h => by obtain rfl := Option.some.inj h; rfl) (fun oi h W hS => by obtain rfl := Option.some.inj h; obtain ⟨q1, q2, q3⟩ := hS; go_simp) hHeld ?_
            simp only [Act.put, List.setIfInBounds_toArray, List.set_cons_zero, List.set_cons_succ]
            refine takeH8 27 (.bool false) (some 164) rfl (by kernel_rfl) (by kernel_rfl) (by kernel_rfl) (fun _ _ _ h => h) (fun oi h => by obtain rfl := Option.some.inj h; rfl) (fun oi h W hS => by obtain rfl := Option.some.inj h; obtain ⟨q1, q2, q3⟩ := hS; go_simp) hHeld ?_
            simp only [Act.put, List.setIfInBounds_toArray, List.set_cons_zero, List.set_cons_succ]
            refine takeH8 28 (.bool false) (some 165) rfl (by kernel_rfl) (by kernel_rfl) (by kernel_rfl) (fun _ _ _ h => h) (fun oi h => by obtain rfl := Option.some.inj h; rfl) (fun oi h W hS => by obtain rfl := Option.some.inj h; obtain ⟨q1, q2, q3⟩ := hS; go_simp) hHeld ?_
            simp only [Act.put, List.setIfInBounds_toArray, List.set_cons_zero, List.set_cons_succ]
            refine takeH8 29 (.pointer (some ⟨p, 0, none⟩)) (some 166) rfl (by kernel_rfl) (by kernel_rfl) (by kernel_rfl) (fun _ _ _ h => h) (fun oi h => by obtain rfl := Option.some.inj h; rfl) (fun oi h W hS => by obtain rfl := Option.some.inj h; obtain ⟨q1, q2, q3⟩ := hS; go_simp) hHeld ?_
            simp only [Act.put, List.setIfInBounds_toArray, List.set_cons_zero, List.set_cons_succ]
            refine takeH8 31 (.pointer (some ⟨q, 0, none⟩)) (some 168) rfl (by kernel_rfl) (by kernel_rfl) (by kernel_rfl) (fun _ _ _ h => h) (fun oi h => by obtain rfl := Option.some.inj h; rfl) (fun oi h W hS => by obtain rfl := Option.some.inj h; obtain ⟨q1, q2, q3⟩ := hS; go_simp) hHeld ?_
            simp only [Act.put, List.setIfInBounds_toArray, List.set_cons_zero, List.set_cons_succ]
            refine takeH8 32 (.pointer (some ⟨q, 0, none⟩)) (some 169) rfl (by kernel_rfl) (by kernel_rfl) (by kernel_rfl) (fun _ _ _ h => h) (fun oi h => by obtain rfl := Option.some.inj h; rfl) (fun oi h W hS => by obtain rfl := Option.some.inj h; obtain ⟨q1, q2, q3⟩ := hS; go_simp) hHeld ?_
            simp only [Act.put, List.setIfInBounds_toArray, List.set_cons_zero, List.set_cons_succ]
            refine takeH8 33 (.pointer (some ⟨q, 0, none⟩)) (some 170) rfl (by kernel_rfl) (by kernel_rfl) (by kernel_rfl) (fun _ _ _ h => h) (fun oi h => by obtain rfl := Option.some.inj h; rfl) (fun oi h W hS => by obtain rfl := Option.some.inj h; obtain ⟨q1, q2, q3⟩ := hS; go_simp) hHeld ?_
            simp only [Act.put, List.setIfInBounds_toArray, List.set_cons_zero, List.set_cons_succ]
            refine takeH8 34 (.string Z) (some 171) rfl (by kernel_rfl) (by kernel_rfl) (by kernel_rfl) (fun _ _ _ h => h) (fun oi h => by obtain rfl := Option.some.inj h; rfl) (fun oi h W hS => by obtain rfl := Option.some.inj h; obtain ⟨q1, q2, q3⟩ := hS; go_simp) hHeld ?_
            simp only [Act.put, List.setIfInBounds_toArray, List.set_cons_zero, List.set_cons_succ]
            refine takeH8 35 (.int .i64 0) (some 172) rfl (by kernel_rfl) (by kernel_rfl) (by kernel_rfl) (fun _ _ _ h => h) (fun oi h => by obtain rfl := Option.some.inj h; rfl) (fun oi h W hS => by obtain rfl := Option.some.inj h; obtain ⟨q1, q2, q3⟩ := hS; go_simp) hHeld ?_
            simp only [Act.put, List.setIfInBounds_toArray, List.set_cons_zero, List.set_cons_succ]
            refine takeH8 36 (.bool false) (some 173) rfl (by kernel_rfl) (by kernel_rfl) (by kernel_rfl) (fun _ _ _ h => h) (fun oi h => by obtain rfl := Option.some.inj h; rfl) (fun oi h W hS => by obtain rfl := Option.some.inj h; obtain ⟨q1, q2, q3⟩ := hS; go_simp) hHeld ?_
            simp only [Act.put, List.setIfInBounds_toArray, List.set_cons_zero, List.set_cons_succ]
            refine wpAnyH_ready (rs := [30]) (by kernel_rfl) (by simp) ?_
            refine AllReadyH.cons (i := 30) rfl (fun K hK => ?_) AllReadyH.nil
            go_simp
            go_at_call 23
            refine (HKR.out _ H7.out).mono ?_
            rintro e w8 ⟨rfl, h8⟩
            have Z8 := Lib.hid (HKP.out _ h8)
            have H8 := Lib.hid h8
            clear h8
            refine hK.out _ _ Z8.out (fun hHeld => ?_)
            clear hK K
            try simp only [Act.put, List.setIfInBounds_toArray, List.set_cons_zero, List.set_cons_succ]
            refine takeH8 37 (.bool false) (some 174) rfl (by kernel_rfl) (by kernel_rfl) (by kernel_rfl) (fun _ _ _ h => h) (fun oi h => by obtain rfl := Option.some.inj h; rfl) (fun oi h W hS => by obtain rfl := Option.some.inj h; obtain ⟨q1, q2, q3⟩ := hS; go_simp) hHeld ?_
            simp only [Act.put, List.setIfInBounds_toArray, List.set_cons_zero, List.set_cons_succ]
            refine takeH8 38 (.pointer (some ⟨q, 0, none⟩)) (some 175) rfl (by kernel_rfl) (by kernel_rfl) (by kernel_rfl) (fun _ _ _ h => h) (fun oi h => by obtain rfl := Option.some.inj h; rfl) (fun oi h W hS => by obtain rfl := Option.some.inj h; obtain ⟨q1, q2, q3⟩ := hS; go_simp) hHeld ?_
            simp only [Act.put, List.setIfInBounds_toArray, List.set_cons_zero, List.set_cons_succ]
            refine takeH8 39 (.pointer (some ⟨q, 0, none⟩)) (some 176) rfl (by kernel_rfl) (by kernel_rfl) (by kernel_rfl) (fun _ _ _ h => h) (fun oi h => by obtain rfl := Option.some.inj h; rfl) (fun oi h W hS => by obtain rfl := Option.some.inj h; obtain ⟨q1, q2, q3⟩ := hS; go_simp) hHeld ?_
            simp only [Act.put, List.setIfInBounds_toArray, List.set_cons_zero, List.set_cons_succ]
            refine takeH8 40 (.pointer (some ⟨q, 2, none⟩)) (some 177) rfl (by kernel_rfl) (by kernel_rfl) (by kernel_rfl) (fun _ _ _ h => h) (fun oi h => by obtain rfl := Option.some.inj h; rfl) (fun oi h W hS => by obtain rfl := Option.some.inj h; obtain ⟨q1, q2, q3⟩ := hS; go_simp) hHeld ?_
            simp only [Act.put, List.setIfInBounds_toArray, List.set_cons_zero, List.set_cons_succ]
            refine takeH8 41 (.int .i64 (v' : Int)) (some 178) rfl (by kernel_rfl) (by kernel_rfl) (by kernel_rfl) (fun _ _ _ h => h) (fun oi h => by obtain rfl := Option.some.inj h; rfl) (fun oi h W hS => by obtain rfl := Option.some.inj h; obtain ⟨q1, q2, q3⟩ := hS; go_simp) hHeld ?_
            simp only [Act.put, List.setIfInBounds_toArray, List.set_cons_zero, List.set_cons_succ]
            refine takeH8 42 (.bool ((v' : Int) == 0)) (some 179) rfl (by kernel_rfl) (by kernel_rfl) (by kernel_rfl) (fun _ _ _ h => h) (fun oi h => by obtain rfl := Option.some.inj h; rfl) (fun oi h W hS => by obtain rfl := Option.some.inj h; obtain ⟨q1, q2, q3⟩ := hS; go_simp) hHeld ?_
            simp only [Act.put, List.setIfInBounds_toArray, List.set_cons_zero, List.set_cons_succ]
            refine takeH8 43 (.bool ((v' : Int) == 0)) (some 180) rfl (by kernel_rfl) (by kernel_rfl) (by kernel_rfl) (fun _ _ _ h => h) (fun oi h => by obtain rfl := Option.some.inj h; rfl) (fun oi h W hS => by obtain rfl := Option.some.inj h; obtain ⟨q1, q2, q3⟩ := hS; go_simp) hHeld ?_
            simp only [Act.put, List.setIfInBounds_toArray, List.set_cons_zero, List.set_cons_succ]
            refine takeH8 44 (.bool false) (some 181) rfl (by kernel_rfl) (by kernel_rfl) (by kernel_rfl) (fun _ _ _ h => h) (fun oi h => by obtain rfl := Option.some.inj h; rfl) (fun oi h W hS => by obtain rfl := Option.some.inj h; obtain ⟨q1, q2, q3⟩ := hS; go_simp) hHeld ?_
            simp only [Act.put, List.setIfInBounds_toArray, List.set_cons_zero, List.set_cons_succ]
            refine takeH8 45 (.bool false) (some 182) rfl (by kernel_rfl) (by kernel_rfl) (by kernel_rfl) (fun _ _ _ h => h) (fun oi h => by obtain rfl := Option.some.inj h; rfl) (fun oi h W hS => by obtain rfl := Option.some.inj h; obtain ⟨q1, q2, q3⟩ := hS; go_simp) hHeld ?_
            simp only [Act.put, List.setIfInBounds_toArray, List.set_cons_zero, List.set_cons_succ]
            refine takeH8 46 (.bool false) (some 183) rfl (by kernel_rfl) (by kernel_rfl) (by kernel_rfl) (fun _ _ _ h => h) (fun oi h => by obtain rfl := Option.some.inj h; rfl) (fun oi h W hS => by obtain rfl := Option.some.inj h; obtain ⟨q1, q2, q3⟩ := hS; go_simp) hHeld ?_
            simp only [Act.put, List.setIfInBounds_toArray, List.set_cons_zero, List.set_cons_succ]
            refine takeH8 47 (.pointer (some ⟨p, 0, none⟩)) (some 184) rfl (by kernel_rfl) (by kernel_rfl) (by kernel_rfl) (fun _ _ _ h => h) (fun oi h => by obtain rfl := Option.some.inj h; rfl) (fun oi h W hS => by obtain rfl := Option.some.inj h; obtain ⟨q1, q2, q3⟩ := hS; go_simp) hHeld ?_
            simp only [Act.put, List.setIfInBounds_toArray, List.set_cons_zero, List.set_cons_succ]
            refine takeH8 49 (.pointer (some ⟨q, 0, none⟩)) (some 186) rfl (by kernel_rfl) (by kernel_rfl) (by kernel_rfl) (fun _ _ _ h => h) (fun oi h => by obtain rfl := Option.some.inj h; rfl) (fun oi h W hS => by obtain rfl := Option.some.inj h; obtain ⟨q1, q2, q3⟩ := hS; go_simp) hHeld ?_
            simp only [Act.put, List.setIfInBounds_toArray, List.set_cons_zero, List.set_cons_succ]
            refine takeH8 50 (.pointer (some ⟨q, 0, none⟩)) (some 187) rfl (by kernel_rfl) (by kernel_rfl) (by kernel_rfl) (fun _ _ _ h => h) (fun oi h => by obtain rfl := Option.some.inj h; rfl) (fun oi h W hS => by obtain rfl := Option.some.inj h; obtain ⟨q1, q2, q3⟩ := hS; go_simp) hHeld ?_
            simp only [Act.put, List.setIfInBounds_toArray, List.set_cons_zero, List.set_cons_succ]
            refine takeH8 51 (.pointer (some ⟨q, 1, none⟩)) (some 188) rfl (by kernel_rfl) (by kernel_rfl) (by kernel_rfl) (fun _ _ _ h => h) (fun oi h => by obtain rfl := Option.some.inj h; rfl) (fun oi h W hS => by obtain rfl := Option.some.inj h; obtain ⟨q1, q2, q3⟩ := hS; go_simp) hHeld ?_
            simp only [Act.put, List.setIfInBounds_toArray, List.set_cons_zero, List.set_cons_succ]
            refine takeH8 52 (.int .i64 (r' : Int)) (some 189) rfl (by kernel_rfl) (by kernel_rfl) (by kernel_rfl) (fun _ _ _ h => h) (fun oi h => by obtain rfl := Option.some.inj h; rfl) (fun oi h W hS => by obtain rfl := Option.some.inj h; obtain ⟨q1, q2, q3⟩ := hS; go_simp) hHeld ?_
            simp only [Act.put, List.setIfInBounds_toArray, List.set_cons_zero, List.set_cons_succ]
            refine takeH8 53 (.bool false) (some 190) rfl (by kernel_rfl) (by kernel_rfl) (by kernel_rfl) (fun _ _ _ h => h) (fun oi h => by obtain rfl := Option.some.inj h; rfl) (fun oi h W hS => by obtain rfl := Option.some.inj h; obtain ⟨q1, q2, q3⟩ := hS; go_simp) hHeld ?_
            simp only [Act.put, List.setIfInBounds_toArray, List.set_cons_zero, List.set_cons_succ]
            refine wpAnyH_ready (rs := [48]) (by kernel_rfl) (by simp) ?_
            refine AllReadyH.cons (i := 48) rfl (fun K hK => ?_) AllReadyH.nil
            go_simp
            go_at_call 24
            refine (HKW.out _ H8.out).mono ?_
            rintro e w9 ⟨rfl, h9⟩
            have Z9 := Lib.hid (HKP.out _ h9)
            have H9 := Lib.hid h9
            clear h9
            refine hK.out _ _ Z9.out (fun hHeld => ?_)
            clear hK K
            try simp only [Act.put, List.setIfInBounds_toArray, List.set_cons_zero, List.set_cons_succ]
            refine takeH8 54 (.bool false) (some 191) rfl (by kernel_rfl) (by kernel_rfl) (by kernel_rfl) (fun _ _ _ h => h) (fun oi h => by obtain rfl := Option.some.inj h; rfl) (fun oi h W hS => by obtain rfl := Option.some.inj h; obtain ⟨q1, q2, q3⟩ := hS; go_simp) hHeld ?_
            simp only [Act.put, List.setIfInBounds_toArray, List.set_cons_zero, List.set_cons_succ]
            refine takeH8 55 (.pointer (some ⟨q, 0, none⟩)) (some 192) rfl (by kernel_rfl) (by kernel_rfl) (by kernel_rfl) (fun _ _ _ h => h) (fun oi h => by obtain rfl := Option.some.inj h; rfl) (fun oi h W hS => by obtain rfl := Option.some.inj h; obtain ⟨q1, q2, q3⟩ := hS; go_simp) hHeld ?_
            simp only [Act.put, List.setIfInBounds_toArray, List.set_cons_zero, List.set_cons_succ]
            refine takeH8 56 (.pointer (some ⟨q, 0, none⟩)) (some 193) rfl (by kernel_rfl) (by kernel_rfl) (by kernel_rfl) (fun _ _ _ h => h) (fun oi h => by obtain rfl := Option.some.inj h; rfl) (fun oi h W hS => by obtain rfl := Option.some.inj h; obtain ⟨q1, q2, q3⟩ := hS; go_simp) hHeld ?_
            simp only [Act.put, List.setIfInBounds_toArray, List.set_cons_zero, List.set_cons_succ]
            refine takeH8 57 (.pointer (some ⟨q, 0, none⟩)) (some 194) rfl (by kernel_rfl) (by kernel_rfl) (by kernel_rfl) (fun _ _ _ h => h) (fun oi h => by obtain rfl := Option.some.inj h; rfl) (fun oi h W hS => by obtain rfl := Option.some.inj h; obtain ⟨q1, q2, q3⟩ := hS; go_simp) hHeld ?_
            simp only [Act.put, List.setIfInBounds_toArray, List.set_cons_zero, List.set_cons_succ]
            refine takeH8 58 (.string Z) (some 195) rfl (by kernel_rfl) (by kernel_rfl) (by kernel_rfl) (fun _ _ _ h => h) (fun oi h => by obtain rfl := Option.some.inj h; rfl) (fun oi h W hS => by obtain rfl := Option.some.inj h; obtain ⟨q1, q2, q3⟩ := hS; go_simp) hHeld ?_
            simp only [Act.put, List.setIfInBounds_toArray, List.set_cons_zero, List.set_cons_succ]
            refine takeH8 59 (.int .i64 0) (some 196) rfl (by kernel_rfl) (by kernel_rfl) (by kernel_rfl) (fun _ _ _ h => h) (fun oi h => by obtain rfl := Option.some.inj h; rfl) (fun oi h W hS => by obtain rfl := Option.some.inj h; obtain ⟨q1, q2, q3⟩ := hS; go_simp) hHeld ?_
            simp only [Act.put, List.setIfInBounds_toArray, List.set_cons_zero, List.set_cons_succ]
            refine takeH8 60 (.bool true) (some 197) rfl (by kernel_rfl) (by kernel_rfl) (by kernel_rfl) (fun _ _ _ h => h) (fun oi h => by obtain rfl := Option.some.inj h; rfl) (fun oi h W hS => by obtain rfl := Option.some.inj h; obtain ⟨q1, q2, q3⟩ := hS; go_simp) hHeld ?_
            simp only [Act.put, List.setIfInBounds_toArray, List.set_cons_zero, List.set_cons_succ]
            refine takeH8 61 (.bool true) (some 198) rfl (by kernel_rfl) (by kernel_rfl) (by kernel_rfl) (fun _ _ _ h => h) (fun oi h => by obtain rfl := Option.some.inj h; rfl) (fun oi h W hS => by obtain rfl := Option.some.inj h; obtain ⟨q1, q2, q3⟩ := hS; go_simp) hHeld ?_
            simp only [Act.put, List.setIfInBounds_toArray, List.set_cons_zero, List.set_cons_succ]
            refine takeH8 62 (.bool false) (some 199) rfl (by kernel_rfl) (by kernel_rfl) (by kernel_rfl) (fun _ _ _ h => h) (fun oi h => by obtain rfl := Option.some.inj h; rfl) (fun oi h W hS => by obtain rfl := Option.some.inj h; obtain ⟨q1, q2, q3⟩ := hS; go_simp) hHeld ?_
            simp only [Act.put, List.setIfInBounds_toArray, List.set_cons_zero, List.set_cons_succ]
            refine takeH8 63 (.bool false) (some 200) rfl (by kernel_rfl) (by kernel_rfl) (by kernel_rfl) (fun _ _ _ h => h) (fun oi h => by obtain rfl := Option.some.inj h; rfl) (fun oi h W hS => by obtain rfl := Option.some.inj h; obtain ⟨q1, q2, q3⟩ := hS; go_simp) hHeld ?_
            simp only [Act.put, List.setIfInBounds_toArray, List.set_cons_zero, List.set_cons_succ]
            refine wpAnyH_done (by kernel_rfl) ?_ _
            go_wp2
            go_roundw
            case rel => exact ⟨j + 1, by omega, by omega, by go_num, L', r', v', H9.out.un⟩
            case measure => simp [intOf]; omega
    · have hor : ¬ ((j : Int) < (len : Int)) ∨ ((j : Int) < (len : Int) ∧ ¬ ((j : Int) < 150)) := by omega
      clear hlt
      rcases hor with e1 | ⟨e1, e2⟩
      all_goals
        go_wp2
        go_ret
        exact ⟨rfl, HR.out.bel⟩
end Go.Proofs.YtpfldelmbigmbaaDoor
