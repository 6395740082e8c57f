/- Acts of layer 9 that came in, and what was opened, laid open to cells. -/
import Derived.Test.YtfgigofmmapbmaaLaw
import Derived.Test.YtfgigofmmapbmaaArgs
namespace Go.Proofs.Ytfgigofmmapbmaa
open Go.RowKit Go.ChangeShapes Go.WideShapes Go.ChangeAt

section
variable {H : Type} {enc : TypeId × Value → H} {W : World}

/-- an act's five cells. -/
def actC (d P F k t : Int) : List Value := [.int .i64 d, .int .i64 P, .int .i64 F, .int .i64 k, .int .i64 t]

theorem five_of {cs : List Value} (h : cs.length = 5) : ∃ a b c d e, cs = [a, b, c, d, e] := by
  match cs, h with
  | [a, b, c, d, e], _ => exact ⟨a, b, c, d, e, rfl⟩

set_option maxRecDepth 100000 in
theorem act_of {fuel : Nat} {cs : List Value} {x : DataW H × List MemPlace} (h : DataW.trod enc Try.prog W 0 (fun _ => true) true fuel 34 cs = some x) :
    ∃ d P F k t : Int, cs = actC d P F k t := by
  obtain ⟨ys, n, _, _, hlen, hyl, hf⟩ := DataW.trod_struct Try.underlying34 h
  have hC : Try.prog.cellsOf 34 = 5 := by kernel_rfl
  have hI : Try.prog.cellsOf 3 = 1 := by kernel_rfl
  have hR : Try.prog.cellsOf 32 = 2 := by kernel_rfl
  rw [hC] at hlen
  obtain ⟨c0, c1, c2, c3, c4, rfl⟩ := five_of hlen
  have hy : ∀ i, i < 4 → ∃ y, ys[i]? = some y := fun i hi => ⟨_, List.getElem?_eq_getElem (by rw [hyl]; exact hi)⟩
  have f0 : DataW.trod enc Try.prog W 0 (fun _ => true) true n 3 ((([c0, c1, c2, c3, c4] : List Value).drop 0).take (Try.prog.cellsOf 3)) = ys[0]? := hf 0 _ rfl
  have f1 : DataW.trod enc Try.prog W 0 (fun _ => true) true n 3 ((([c0, c1, c2, c3, c4] : List Value).drop 1).take (Try.prog.cellsOf 3)) = ys[1]? := hf 1 _ rfl
  have f2 : DataW.trod enc Try.prog W 0 (fun _ => true) true n 3 ((([c0, c1, c2, c3, c4] : List Value).drop 2).take (Try.prog.cellsOf 3)) = ys[2]? := hf 2 _ rfl
  have f3 : DataW.trod enc Try.prog W 0 (fun _ => true) true n 32 ((([c0, c1, c2, c3, c4] : List Value).drop 3).take (Try.prog.cellsOf 32)) = ys[3]? := hf 3 _ rfl
  obtain ⟨y0, e0⟩ := hy 0 (by decide); obtain ⟨y1, e1⟩ := hy 1 (by decide); obtain ⟨y2, e2⟩ := hy 2 (by decide); obtain ⟨y3, e3⟩ := hy 3 (by decide)
  rw [e0] at f0; rw [e1] at f1; rw [e2] at f2; rw [e3] at f3
  rw [hI] at f0 f1 f2; rw [hR] at f3
  simp only [List.drop_succ_cons, List.drop_zero, List.take_succ_cons, List.take_zero] at f0 f1 f2 f3
  obtain ⟨d, q0, _⟩ := DataW.trod_int Try.underlying3 f0
  obtain ⟨k, q1, _⟩ := DataW.trod_int Try.underlying3 f1
  obtain ⟨t, q2, _⟩ := DataW.trod_int Try.underlying3 f2
  obtain ⟨zs, n', _, _, hlz, hzl, hg⟩ := DataW.trod_struct Try.underlying32 f3
  have g0 : DataW.trod enc Try.prog W 0 (fun _ => true) true n' 3 ((([c3, c4] : List Value).drop 0).take (Try.prog.cellsOf 3)) = zs[0]? := hg 0 _ rfl
  have g1 : DataW.trod enc Try.prog W 0 (fun _ => true) true n' 3 ((([c3, c4] : List Value).drop 1).take (Try.prog.cellsOf 3)) = zs[1]? := hg 1 _ rfl
  obtain ⟨z0, i0⟩ : ∃ y, zs[0]? = some y := ⟨_, List.getElem?_eq_getElem (by rw [hzl]; decide)⟩
  obtain ⟨z1, i1⟩ : ∃ y, zs[1]? = some y := ⟨_, List.getElem?_eq_getElem (by rw [hzl]; decide)⟩
  rw [i0] at g0; rw [i1] at g1
  rw [hI] at g0 g1
  simp only [List.drop_succ_cons, List.drop_zero, List.take_succ_cons, List.take_zero] at g0 g1
  obtain ⟨u, q3, _⟩ := DataW.trod_int Try.underlying3 g0
  obtain ⟨v, q5, _⟩ := DataW.trod_int Try.underlying3 g1
  refine ⟨d, k, t, u, v, ?_⟩
  simp at q0 q1 q2 q3 q5
  subst q0; subst q1; subst q2; subst q3; subst q5
  rfl

set_option maxRecDepth 100000 in
theorem open_act {r : Reach} {base : Nat} {v : Value} {d : DataW H} {ps : List MemPlace} (hv : Value.okWide Try.prog W r base 34 v) (h : DataW.Trod enc Try.prog W 0 (fun _ => true) true 34 v d ps) :
    ∃ d P F k t : Int, v = .agg #[.int .i64 d, .int .i64 P, .int .i64 F, .int .i64 k, .int .i64 t] := by
  obtain ⟨cs, rfl, _⟩ := okWide_struct Try.underlying34 hv
  obtain ⟨fuel, hf⟩ := h
  obtain ⟨d, P, F, k, t, e⟩ := act_of hf
  refine ⟨d, P, F, k, t, ?_⟩
  have : cs = (actC d P F k t).toArray := by
    rw [← e]
    simp [Value.cells]
  rw [this]
  rfl

/-- an act lies at b, o. -/
structure ActAt (w : World) (b o : Nat) (d P F k t : Int) : Prop where
  c0 : w.cell? ⟨b, o, none⟩ = some (.int .i64 d)
  c1 : w.cell? ⟨b, o + 1, none⟩ = some (.int .i64 P)
  c2 : w.cell? ⟨b, o + 2, none⟩ = some (.int .i64 F)
  c3 : w.cell? ⟨b, o + 3, none⟩ = some (.int .i64 k)
  c4 : w.cell? ⟨b, o + 4, none⟩ = some (.int .i64 t)
theorem ActAt.below {w w' : World} {b o : Nat} {d P F k t : Int} {B : Nat} (h : ActAt w b o d P F k t) (hb : Below B w w') (hlt : b < B) : ActAt w' b o d P F k t :=
  ⟨(hb.cell (p := ⟨b, o, none⟩) hlt).trans h.c0, (hb.cell (p := ⟨b, o + 1, none⟩) hlt).trans h.c1, (hb.cell (p := ⟨b, o + 2, none⟩) hlt).trans h.c2, (hb.cell (p := ⟨b, o + 3, none⟩) hlt).trans h.c3, (hb.cell (p := ⟨b, o + 4, none⟩) hlt).trans h.c4⟩
/-- acts: none, or they lie in one block that was there. -/
def ActsAt (w : World) (a : Option Addr) (len : Nat) : Prop :=
  len ≤ maxLen ∧ (0 < len → ∃ b off, a = some ⟨b, off, none⟩ ∧ b < w.heap.size ∧ ∀ i, i < len → ∃ d P F k t : Int, ActAt w b (off + i * 5) d P F k t)

set_option maxRecDepth 100000 in
theorem open_acts {r : Reach} {base : Nat} {v : Value} {d : DataW H} {ps : List MemPlace} (hv : Value.okWide Try.prog W r base 22 v) (h : DataW.Trod enc Try.prog W 0 (fun _ => true) true 22 v d ps) :
    ∃ (a : Option Addr) (len cap : Nat), v = .slice a len cap ∧ ActsAt W a len := by
  obtain ⟨a, len, cap, rfl⟩ := okWide_slice Try.underlying22 hv
  refine ⟨a, len, cap, rfl, ?_⟩
  have hC : Try.prog.cellsOf 34 = 5 := by kernel_rfl
  obtain ⟨fuel, hf⟩ := h
  rcases Deep.open_slice Try.underlying22 hf with ⟨h0, _⟩ | ⟨a', len', cap', m, n, D, Pl, hcs, _, hl, hm, hmm, _, hi⟩
  · simp [Value.cells] at h0
    obtain ⟨_, rfl, _⟩ := h0
    exact ⟨Nat.zero_le _, fun h => absurd h (by omega)⟩
  · simp [Value.cells] at hcs
    obtain ⟨rfl, rfl, rfl⟩ := hcs
    refine ⟨by omega, fun hlen => ?_⟩
    simp only [if_true] at hmm
    subst hmm
    have key : ∀ i, i < len → ∃ d P F k t : Int, ∀ j, j < 5 → W.cell? (a'.add (i * 5 + j)) = (actC d P F k t)[j]? := by
      intro i hil
      obtain ⟨cs', hc, ht'⟩ := hi i (by omega)
      rw [hC] at hc
      obtain ⟨_, hcl, hat⟩ := World.cells?_some hc
      obtain ⟨d, P, F, k, t, rfl⟩ := act_of ht'
      exact ⟨d, P, F, k, t, fun j hj => by rw [← Deep.add_add, hat j hj]⟩
    obtain ⟨d, P, F, k, t, hk0⟩ := key 0 hlen
    obtain ⟨b, off, spot⟩ := a'
    have hu0 := hk0 0 (by omega)
    have hsp : spot = none := by simpa [Addr.add] using World.cell?_spot hu0
    subst hsp
    have hadd : ∀ n, (Addr.mk b off none).add n = ⟨b, off + n, none⟩ := fun n => by unfold Addr.add; simp
    refine ⟨b, off, rfl, ?_, fun i hil => ?_⟩
    · have := World.block_lt_of_cell? W _ hu0
      simpa [Addr.add] using this
    · obtain ⟨d, P, F, k, t, hk⟩ := key i hil
      simp only [hadd] at hk
      exact ⟨d, P, F, k, t, hk 0 (by omega), hk 1 (by omega), hk 2 (by omega), hk 3 (by omega), hk 4 (by omega)⟩

/-- something that may be opened. -/
theorem open_opened {r : Reach} {base : Nat} {v : Value} {d : DataW H} {ps : List MemPlace} (hv : Value.okWide Try.prog W r base 32 v) (h : DataW.Trod enc Try.prog W 0 (fun _ => true) true 32 v d ps) :
    ∃ k t : Int, v = .agg #[.int .i64 k, .int .i64 t] := by
  have hI : Try.prog.cellsOf 3 = 1 := by kernel_rfl
  have hR : Try.prog.cellsOf 32 = 2 := by kernel_rfl
  obtain ⟨cs, rfl, _⟩ := okWide_struct Try.underlying32 hv
  obtain ⟨fuel, hf⟩ := h
  obtain ⟨zs, n', _, _, hlz, hzl, hg⟩ := DataW.trod_struct Try.underlying32 hf
  rw [hR] at hlz
  obtain ⟨c3, c4, hcs⟩ : ∃ a b, cs.toList = [a, b] := by
    have : cs.toList.length = 2 := by simpa [Value.cells] using hlz
    match cs.toList, this with
    | [a, b], _ => exact ⟨a, b, rfl⟩
  have hcs' : (Value.agg cs).cells.toList = [c3, c4] := by simpa [Value.cells] using hcs
  rw [hcs'] at hg
  have g0 : DataW.trod enc Try.prog W 0 (fun _ => true) true n' 3 ((([c3, c4] : List Value).drop 0).take (Try.prog.cellsOf 3)) = zs[0]? := hg 0 _ rfl
  have g1 : DataW.trod enc Try.prog W 0 (fun _ => true) true n' 3 ((([c3, c4] : List Value).drop 1).take (Try.prog.cellsOf 3)) = zs[1]? := hg 1 _ rfl
  obtain ⟨z0, i0⟩ : ∃ y, zs[0]? = some y := ⟨_, List.getElem?_eq_getElem (by rw [hzl]; decide)⟩
  obtain ⟨z1, i1⟩ : ∃ y, zs[1]? = some y := ⟨_, List.getElem?_eq_getElem (by rw [hzl]; decide)⟩
  rw [i0] at g0; rw [i1] at g1
  rw [hI] at g0 g1
  simp only [List.drop_succ_cons, List.drop_zero, List.take_succ_cons, List.take_zero] at g0 g1
  obtain ⟨u, q3, _⟩ := DataW.trod_int Try.underlying3 g0
  obtain ⟨v, q5, _⟩ := DataW.trod_int Try.underlying3 g1
  refine ⟨u, v, ?_⟩
  simp at q3 q5
  subst q3; subst q5
  have : cs = #[.int .i64 u, .int .i64 v] := by
    apply Array.toList_inj.1
    rw [hcs]
  rw [this]

/-- things that may be opened: none, or they lie in one block that was there. -/
def OpensAt (w : World) (a : Option Addr) (len : Nat) : Prop :=
  len ≤ maxLen ∧ (0 < len → ∃ b off, a = some ⟨b, off, none⟩ ∧ b < w.heap.size ∧ ∀ i, i < len → ∃ k t : Int, w.cell? ⟨b, off + i * 2, none⟩ = some (.int .i64 k) ∧ w.cell? ⟨b, off + i * 2 + 1, none⟩ = some (.int .i64 t))
theorem open_opens {r : Reach} {base : Nat} {v : Value} {d : DataW H} {ps : List MemPlace}
    (hv : Value.okWide Try.prog W r base 46 v) (h : DataW.Trod enc Try.prog W 0 (fun _ => true) true 46 v d ps) :
    ∃ (a : Option Addr) (len cap : Nat), v = .slice a len cap ∧ OpensAt W a len := by
  obtain ⟨a, len, cap, rfl, hlen, hh⟩ := open_rows Try.underlying46 Try.underlying32 (by kernel_rfl) (by kernel_rfl) (by decide) hv h
  refine ⟨a, len, cap, rfl, hlen, fun hpos => ?_⟩
  obtain ⟨b, off, rfl, hb, hc⟩ := hh hpos
  refine ⟨b, off, rfl, hb, fun i hi => ?_⟩
  obtain ⟨u0, e0, F0⟩ := hc i hi 0 _ rfl
  obtain ⟨u1, e1, F1⟩ := hc i hi 1 _ rfl
  obtain ⟨a0, rfl, _⟩ := F0.int Try.underlying3
  obtain ⟨a1, rfl, _⟩ := F1.int Try.underlying3
  exact ⟨a0, a1, e0, e1⟩
end
end Go.Proofs.Ytfgigofmmapbmaa
