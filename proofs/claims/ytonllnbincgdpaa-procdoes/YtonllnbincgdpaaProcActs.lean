/- Acts of layer 6 that came in, laid open to cells. -/
import Derived.Test.YtonllnbincgdpaaLaw
import Derived.Test.YtonllnbincgdpaaArgs
namespace Go.Proofs.Ytonllnbincgdpaa
open Go.RowKit Go.ChangeShapes Go.WideShapes Go.ChangeAt

section
variable {H : Type} {enc : TypeId × Value → H} {W : World}

/-- an act's six cells. -/
def actC (d k t u v : Int) (s : ByteArray) : List Value := [.int .i64 d, .int .i64 k, .int .i64 t, .int .i64 u, .int .i64 v, .string s]

theorem six_of {cs : List Value} (h : cs.length = 6) : ∃ a b c d e f, cs = [a, b, c, d, e, f] := by
  match cs, h with
  | [a, b, c, d, e, f], _ => exact ⟨a, b, c, d, e, f, rfl⟩

set_option maxRecDepth 100000 in
theorem act_of {fuel : Nat} {cs : List Value} {x : DataW H × List MemPlace} (h : DataW.trod enc Try.prog W 0 (fun _ => true) true fuel 32 cs = some x) :
    ∃ (d k t u v : Int) (s : ByteArray), cs = actC d k t u v s ∧ s.size ≤ maxLen := by
  obtain ⟨ys, n, _, _, hlen, hyl, hf⟩ := DataW.trod_struct Try.underlying32 h
  have hC : Try.prog.cellsOf 32 = 6 := by kernel_rfl
  have hI : Try.prog.cellsOf 3 = 1 := by kernel_rfl
  have hR : Try.prog.cellsOf 30 = 2 := by kernel_rfl
  have hS : Try.prog.cellsOf 9 = 1 := by kernel_rfl
  rw [hC] at hlen
  obtain ⟨c0, c1, c2, c3, c4, c5, rfl⟩ := six_of hlen
  have hy : ∀ i, i < 5 → ∃ y, ys[i]? = some y := fun i hi => ⟨_, List.getElem?_eq_getElem (by rw [hyl]; exact hi)⟩
  have f0 : DataW.trod enc Try.prog W 0 (fun _ => true) true n 3 ((([c0, c1, c2, c3, c4, c5] : List Value).drop 0).take (Try.prog.cellsOf 3)) = ys[0]? := hf 0 _ rfl
  have f1 : DataW.trod enc Try.prog W 0 (fun _ => true) true n 3 ((([c0, c1, c2, c3, c4, c5] : List Value).drop 1).take (Try.prog.cellsOf 3)) = ys[1]? := hf 1 _ rfl
  have f2 : DataW.trod enc Try.prog W 0 (fun _ => true) true n 3 ((([c0, c1, c2, c3, c4, c5] : List Value).drop 2).take (Try.prog.cellsOf 3)) = ys[2]? := hf 2 _ rfl
  have f3 : DataW.trod enc Try.prog W 0 (fun _ => true) true n 30 ((([c0, c1, c2, c3, c4, c5] : List Value).drop 3).take (Try.prog.cellsOf 30)) = ys[3]? := hf 3 _ rfl
  have f4 : DataW.trod enc Try.prog W 0 (fun _ => true) true n 9 ((([c0, c1, c2, c3, c4, c5] : List Value).drop 5).take (Try.prog.cellsOf 9)) = ys[4]? := hf 4 _ rfl
  obtain ⟨y0, e0⟩ := hy 0 (by decide); obtain ⟨y1, e1⟩ := hy 1 (by decide); obtain ⟨y2, e2⟩ := hy 2 (by decide); obtain ⟨y3, e3⟩ := hy 3 (by decide); obtain ⟨y4, e4⟩ := hy 4 (by decide)
  rw [e0] at f0; rw [e1] at f1; rw [e2] at f2; rw [e3] at f3; rw [e4] at f4
  rw [hI] at f0 f1 f2; rw [hR] at f3; rw [hS] at f4
  simp only [List.drop_succ_cons, List.drop_zero, List.take_succ_cons, List.take_zero] at f0 f1 f2 f3 f4
  obtain ⟨d, q0, _⟩ := DataW.trod_int Try.underlying3 f0
  obtain ⟨k, q1, _⟩ := DataW.trod_int Try.underlying3 f1
  obtain ⟨t, q2, _⟩ := DataW.trod_int Try.underlying3 f2
  obtain ⟨s, q4, _, hs⟩ := DataW.trod_string Try.underlying9 f4
  obtain ⟨zs, n', _, _, hlz, hzl, hg⟩ := DataW.trod_struct Try.underlying30 f3
  have g0 : DataW.trod enc Try.prog W 0 (fun _ => true) true n' 3 ((([c3, c4] : List Value).drop 0).take (Try.prog.cellsOf 3)) = zs[0]? := hg 0 _ rfl
  have g1 : DataW.trod enc Try.prog W 0 (fun _ => true) true n' 3 ((([c3, c4] : List Value).drop 1).take (Try.prog.cellsOf 3)) = zs[1]? := hg 1 _ rfl
  obtain ⟨z0, i0⟩ : ∃ y, zs[0]? = some y := ⟨_, List.getElem?_eq_getElem (by rw [hzl]; decide)⟩
  obtain ⟨z1, i1⟩ : ∃ y, zs[1]? = some y := ⟨_, List.getElem?_eq_getElem (by rw [hzl]; decide)⟩
  rw [i0] at g0; rw [i1] at g1
  rw [hI] at g0 g1
  simp only [List.drop_succ_cons, List.drop_zero, List.take_succ_cons, List.take_zero] at g0 g1
  obtain ⟨u, q3, _⟩ := DataW.trod_int Try.underlying3 g0
  obtain ⟨v, q5, _⟩ := DataW.trod_int Try.underlying3 g1
  refine ⟨d, k, t, u, v, s, ?_, hs⟩
  simp at q0 q1 q2 q3 q4 q5
  subst q0; subst q1; subst q2; subst q3; subst q4; subst q5
  rfl

set_option maxRecDepth 100000 in
theorem open_act6 {r : Reach} {base : Nat} {v : Value} {d : DataW H} {ps : List MemPlace} (hv : Value.okWide Try.prog W r base 32 v) (h : DataW.Trod enc Try.prog W 0 (fun _ => true) true 32 v d ps) :
    ∃ (d k t u g : Int) (s : ByteArray), v = .agg (actC d k t u g s).toArray ∧ s.size ≤ maxLen := by
  obtain ⟨cs, rfl, _⟩ := okWide_struct Try.underlying32 hv
  obtain ⟨fuel, hf⟩ := h
  obtain ⟨d, k, t, u, g, s, e, hs⟩ := act_of hf
  refine ⟨d, k, t, u, g, s, ?_, hs⟩
  rw [← e]
  simp [Value.cells]

/-- an act lies at b, o. -/
structure ActAt (w : World) (b o : Nat) (d k t u g : Int) (s : ByteArray) : Prop where
  c0 : w.cell? ⟨b, o, none⟩ = some (.int .i64 d)
  c1 : w.cell? ⟨b, o + 1, none⟩ = some (.int .i64 k)
  c2 : w.cell? ⟨b, o + 2, none⟩ = some (.int .i64 t)
  c3 : w.cell? ⟨b, o + 3, none⟩ = some (.int .i64 u)
  c4 : w.cell? ⟨b, o + 4, none⟩ = some (.int .i64 g)
  c5 : w.cell? ⟨b, o + 5, none⟩ = some (.string s)
  hs : s.size ≤ maxLen
theorem ActAt.below {w w' : World} {b o : Nat} {d k t u g : Int} {s : ByteArray} {B : Nat} (h : ActAt w b o d k t u g s) (hb : Below B w w') (hlt : b < B) : ActAt w' b o d k t u g s :=
  ⟨(hb.cell (p := ⟨b, o, none⟩) hlt).trans h.c0, (hb.cell (p := ⟨b, o + 1, none⟩) hlt).trans h.c1, (hb.cell (p := ⟨b, o + 2, none⟩) hlt).trans h.c2, (hb.cell (p := ⟨b, o + 3, none⟩) hlt).trans h.c3, (hb.cell (p := ⟨b, o + 4, none⟩) hlt).trans h.c4, (hb.cell (p := ⟨b, o + 5, none⟩) hlt).trans h.c5, h.hs⟩
/-- acts: none, or they lie in one block that was there. -/
def ActsAt (w : World) (a : Option Addr) (len : Nat) : Prop :=
  len ≤ maxLen ∧ (0 < len → ∃ b off, a = some ⟨b, off, none⟩ ∧ b < w.heap.size ∧ ∀ i, i < len → ∃ (d k t u g : Int) (s : ByteArray), ActAt w b (off + i * 6) d k t u g s)

set_option maxRecDepth 100000 in
theorem open_acts6 {r : Reach} {base : Nat} {v : Value} {d : DataW H} {ps : List MemPlace} (hv : Value.okWide Try.prog W r base 22 v) (h : DataW.Trod enc Try.prog W 0 (fun _ => true) true 22 v d ps) :
    ∃ (a : Option Addr) (len cap : Nat), v = .slice a len cap ∧ ActsAt W a len := by
  obtain ⟨a, len, cap, rfl⟩ := okWide_slice Try.underlying22 hv
  refine ⟨a, len, cap, rfl, ?_⟩
  have hC : Try.prog.cellsOf 32 = 6 := by kernel_rfl
  obtain ⟨fuel, hf⟩ := h
  rcases Deep.open_slice Try.underlying22 hf with ⟨h0, _⟩ | ⟨a', len', cap', m, n, D, Pl, hcs, _, hl, hm, hmm, _, hi⟩
  · simp [Value.cells] at h0
    obtain ⟨_, rfl, _⟩ := h0
    exact ⟨Nat.zero_le _, fun h => absurd h (by omega)⟩
  · simp [Value.cells] at hcs
    obtain ⟨rfl, rfl, rfl⟩ := hcs
    refine ⟨by omega, fun hlen => ?_⟩
    simp only [if_true] at hmm
    subst hmm
    have key : ∀ i, i < len → ∃ (d k t u g : Int) (s : ByteArray), s.size ≤ maxLen ∧ ∀ j, j < 6 → W.cell? (a'.add (i * 6 + j)) = (actC d k t u g s)[j]? := by
      intro i hil
      obtain ⟨cs', hc, ht'⟩ := hi i (by omega)
      rw [hC] at hc
      obtain ⟨_, hcl, hat⟩ := World.cells?_some hc
      obtain ⟨d, k, t, u, g, s, rfl, hs⟩ := act_of ht'
      exact ⟨d, k, t, u, g, s, hs, fun j hj => by rw [← Deep.add_add, hat j hj]⟩
    obtain ⟨d, k, t, u, g, s, _, hk0⟩ := key 0 hlen
    obtain ⟨b, off, spot⟩ := a'
    have hu0 := hk0 0 (by omega)
    have hsp : spot = none := by simpa [Addr.add] using World.cell?_spot hu0
    subst hsp
    have hadd : ∀ n, (Addr.mk b off none).add n = ⟨b, off + n, none⟩ := fun n => by unfold Addr.add; simp
    refine ⟨b, off, rfl, ?_, fun i hil => ?_⟩
    · have := World.block_lt_of_cell? W _ hu0
      simpa [Addr.add] using this
    · obtain ⟨d, k, t, u, g, s, hs, hk⟩ := key i hil
      simp only [hadd] at hk
      exact ⟨d, k, t, u, g, s, hk 0 (by omega), hk 1 (by omega), hk 2 (by omega), hk 3 (by omega), hk 4 (by omega), hk 5 (by omega), hs⟩
end
end Go.Proofs.Ytonllnbincgdpaa
