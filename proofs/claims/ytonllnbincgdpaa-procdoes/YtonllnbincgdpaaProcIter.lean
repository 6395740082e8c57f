/- Package proc: the iterator 'rising' and its closure, walked. -/
import Derived.Test.YtonllnbincgdpaaProcShelf
import Derived.Test.YtonllnbincgdpaaIter
namespace Go.Proofs.Ytonllnbincgdpaa
open Go.RowKit Go.Shelf Go.Maps

attribute [local go_sem] Oper.semAt_some

/-- the block of the slice that lies in the box b. -/
def rowOf (W : World) (b : Nat) : Option Nat := match W.cell? ⟨b, 0, none⟩ with | some v => v.ownBlock | none => none
theorem rowOf_kept {W W' : World} {b : Nat} (h : W'.heap[b]? = W.heap[b]?) : rowOf W' b = rowOf W b := by
  unfold rowOf; rw [World.cell?_of_block (w := W) (a := ⟨b, 0, none⟩) h]
theorem rowOf_box {W : World} {b : Nat} {t : TypeId} {v : Value} (h : BoxA W b t #[v]) : rowOf W b = v.ownBlock := by
  unfold rowOf; rw [h.at 0 (v := v) rfl]

/-- what a round keeps: what lay below n₀; every block of cells, but those named and the row of the slice in the box b. -/
structure KpR (n₀ : Nat) (ex : List Nat) (b : Nat) (W W' : World) : Prop where
  below : Below n₀ W W'
  blk : ∀ k o, W.heap[k]? = some o → o.isCells = true → k ∉ ex → rowOf W b ≠ some k → W'.heap[k]? = W.heap[k]?
  row : rowOf W' b = rowOf W b ∨ ∃ r, rowOf W' b = some r ∧ W.heap.size ≤ r

section
variable {n₀ : Nat} {ex : List Nat} {b : Nat}
theorem KpR.refl (W : World) : KpR n₀ ex b W W := ⟨Below.refl _ _, fun _ _ _ _ _ _ => rfl, .inl rfl⟩
theorem KpR.trans {A B C : World} (h : KpR n₀ ex b A B) (k : KpR n₀ ex b B C) : KpR n₀ ex b A C := by
  refine ⟨h.below.trans k.below, fun j o hj hc hx hr => ?_, ?_⟩
  · have h1 := h.blk j o hj hc hx hr
    have hlt : j < A.heap.size := (Array.getElem?_eq_some_iff.1 hj).1
    refine (k.blk j o (h1.trans hj) hc hx ?_).trans h1
    rcases h.row with e | ⟨r, e, hr'⟩
    · rw [e]; exact hr
    · rw [e]; intro c; cases c; omega
  · rcases k.row with e | ⟨r, e, hr'⟩
    · rcases h.row with e2 | ⟨r, e2, hr'⟩
      · exact .inl (e.trans e2)
      · exact .inr ⟨r, e.trans e2, hr'⟩
    · exact .inr ⟨r, e, Nat.le_trans h.below.size hr'⟩
theorem KpR.put {w : World} (hn : n₀ ≤ w.heap.size) (hb : b < w.heap.size) (W : World) (l : Nat) (o o' : Obj) (hl : w.heap.size ≤ l) (h : W.heap[l]? = some o) (h1 : o.isCells = false) (h2 : o.isWalk = false) : KpR n₀ ex b W (W.putObj l o') :=
  ⟨belowK_b hn W l o o' hl h h1 h2, fun k o2 hk hc _ _ => World.putObj_heap_other (by rintro rfl; rw [h] at hk; cases hk; rw [h1] at hc; cases hc), .inl (rowOf_kept (World.putObj_heap_other (by omega)))⟩
theorem KpR.of_below {W W' : World} (hn : n₀ ≤ W.heap.size) (hb : b < W.heap.size) (h : Below W.heap.size W W') : KpR n₀ ex b W W' :=
  ⟨h.mono hn, fun k _ hk _ _ _ => h.block k (Array.getElem?_eq_some_iff.1 hk).1, .inl (rowOf_kept (h.block b hb))⟩
/-- a cell of a named block written. -/
theorem KpR.set {W W' : World} (h : KpR n₀ ex b W W') {c o : Nat} (v : Value) (hc : c ∈ ex) (hn : n₀ ≤ c) (hne : b ≠ c) : KpR n₀ ex b W (W'.setCell ⟨c, o, none⟩ v) :=
  ⟨h.below.setCell (p := ⟨c, o, none⟩) hn v, fun k o' hk hcl hx hr => (heap_setCell_other _ _ _ _ (by rintro rfl; exact hx hc)).trans (h.blk k o' hk hcl hx hr),
   by rcases h.row with e | ⟨r, e, hr⟩
      · exact .inl ((rowOf_kept (heap_setCell_other _ _ _ _ hne)).trans e)
      · exact .inr ⟨r, (rowOf_kept (heap_setCell_other _ _ _ _ hne)).trans e, hr⟩⟩
theorem KpR.boxA {W W' : World} (h : KpR n₀ ex b W W') {c : Nat} {t : TypeId} {xs : Array Value} (hx : BoxA W c t xs) (h1 : c ∉ ex) (h2 : rowOf W b ≠ some c) : BoxA W' c t xs := hx.keep (h.blk c _ hx.blk rfl h1 h2)
end

theorem grown_of_below6 {w w' : World} (h : Below w.heap.size w w') (row : Option Nat) : w.grownBy w' row := ⟨h.os, h.tape, h.output, h.size, fun k hk _ => h.block k hk⟩

def pvVals (x : PV) : Array Value := #[x.val]

theorem row_cells {W : World} {base : Nat} {e : TypeId} {v : Value} {n : Nat} {xs : List Value} (h : W.ownsRow base e 1 v n xs) (hl : n = xs.length) : ∃ a cap, v = .slice a n cap ∧ (0 < n → ∃ r cur, a = some ⟨r, 0, none⟩ ∧ base ≤ r ∧ W.heap[r]? = some (.cells cur e (0, 0)) ∧ ∀ (j : Nat) (u : Value), xs[j]? = some u → cur[j]? = some u) := by
  rcases h.2 with ⟨rfl, h0⟩ | ⟨r, cap, cur, rfl, hb, hg, h1, h2, h3, h4⟩
  · exact ⟨none, 0, by rw [h0], fun c => by omega⟩
  · refine ⟨_, cap, rfl, fun _ => ⟨r, cur, rfl, hb, hg, fun j u hu => ?_⟩⟩
    have hj : j < xs.length := (List.getElem?_eq_some_iff.1 hu).1
    have := congrArg (fun l => l[j]?) h4
    simp only [Nat.mul_one] at this
    rw [List.getElem?_take_of_lt (by omega), hu] at this
    simpa using this

section
variable {w : World} {p m : Nat} {L : List PV} {g : Int}

set_option maxHeartbeats 400000 in
theorem rising_in (n : Nat) (a : Option Addr) (w : World) :
    CallsIn Fence.wide n Try.prog 49 #[.pointer a] w fun e w' => e = .returned (.func (.func 52) #[] #[.pointer (some ⟨w.heap.size, 0, none⟩)]) ∧ w' = w.alloc (.cells #[.pointer a] 24) := by
  refine callsIn_of_wp Try.func49 rfl trivial ?_ rfl
  simp only [Try.ntmps49, List.size_toArray, List.length_cons, List.length_nil, Nat.reduceAdd, Nat.reduceSub, Array.replicate_succ, Array.replicate_zero, List.push_toArray, List.append_toArray, List.nil_append, List.cons_append]
  gi_wp2
  go_ret
  exact ⟨rfl, rfl⟩

set_option maxRecDepth 100000 in
set_option maxHeartbeats 1000000 in
/-- a nil table has nothing. -/
theorem rising_nil (n : Nat) (l Bt : Nat) (W : World) (ct : W.cell? ⟨Bt, 0, none⟩ = some (.pointer none)) :
    CallsIn Fence.wide n Try.prog 52 #[.func (.yield l) #[] #[], .pointer (some ⟨Bt, 0, none⟩)] W fun e W' => (∃ v, e = .returned v) ∧ W' = W := by
  refine callsIn_of_wp Try.func52 rfl trivial ?_ rfl
  simp only [Try.ntmps52, List.size_toArray, List.length_cons, List.length_nil, Nat.reduceAdd, Nat.reduceSub, Array.replicate_succ, Array.replicate_zero, List.push_toArray, List.append_toArray, List.nil_append, List.cons_append]
  gi_wp2
  refine bodyPost_ret (results_none rfl _ _ _) rfl ?_
  exact ⟨⟨_, rfl⟩, rfl⟩

set_option maxRecDepth 100000 in
set_option maxHeartbeats 2000000 in
theorem rising1_in (n : Nat) (hn : 5 ≤ n) (n₀ b : Nat) (ex : List Nat) (l Bt : Nat) (J Jx : List PV → World → Prop)
    (W : World) (hJ : AbidesFrom W.heap.size J)
    (hY : ∀ pre (x : PV) W, J pre W → pre.length < 16 → YieldAt Fence.wide (n - 1) Try.prog l (pvVals x) W fun e W' =>
      (e = .returned (.bool true) ∧ J (pre ++ [x]) W' ∧ KpR n₀ ex b W W') ∨ (e = .returned (.bool false) ∧ Jx (pre ++ [x]) W'))
    (hW : TabAt W p m L g) (hp : p < n₀) (hm : m < n₀) (hb : b < W.heap.size) (hex : ∀ k ∈ ex, k < W.heap.size) (hBx : Bt ∉ ex) (hrow : rowOf W b = none)
    (ct : BoxA W Bt 24 #[.pointer (some ⟨p, 0, none⟩)]) (h0 : J [] W) :
    CallsIn Fence.wide n Try.prog 52 #[.func (.yield l) #[] #[], .pointer (some ⟨Bt, 0, none⟩)] W fun e W' => (∃ v, e = .returned v) ∧
      ((∃ ys : List PV, ys = L ∧ J ys W') ∨ (∃ pre : List PV, pre <+: L ∧ Jx pre W')) := by
  refine callsIn_of_wp Try.func52 rfl trivial ?_ rfl
  simp only [Try.ntmps52, List.size_toArray, List.length_cons, List.length_nil, Nat.reduceAdd, Nat.reduceSub, Array.replicate_succ, Array.replicate_zero, List.push_toArray, List.append_toArray, List.nil_append, List.cons_append]
  have hct : W.cell? ⟨Bt, 0, none⟩ = some (.pointer (some ⟨p, 0, none⟩)) := ct.at 0 rfl
  have c0 := hW.c0
  have hl16 := hW.ok.len
  have hn1 : 1 ≤ n := by omega
  gi_wp2_with fail
  refine ⟨trivial, (keys_in _ _ _).mono ?_⟩
  rintro e w1 ⟨rfl, rfl⟩
  gi_wp2_with fail
  refine ⟨trivial, (sorted_in _ (by omega) hW.mp hW.ok).mono ?_⟩
  rintro e w2 ⟨v, rfl, hrw, hB2⟩
  obtain ⟨ra, cap, rfl, hcells⟩ := row_cells hrw (by simp)
  gi_wp2_with fail
  have hB1 : Below W.heap.size W w2 := ((Below.refl _ W).alloc (Nat.le_refl _) _).trans (hB2.mono (by omega))
  have HW2 := Lib.hid (hW.below' hB1)
  have HJ2 := Lib.hid (hJ _ _ _ none h0 (grown_of_below6 hB1 none) (fun r e => by cases e))
  have HT2 := Lib.hid (ct.below' hB1)
  have HR2 : Hid (rowOf w2 b = none) := by unfold Hid; rw [rowOf_kept (hB1.block b hb)]; exact hrow
  have HC := Lib.hid hcells
  have HEX := Lib.hid hex
  have hsz := hB1.size
  clear hct c0 hrw hB2 hB1 hcells hex hrow
  gi_loopw [14] (fun i wr => ∃ j : Nat, j ≤ L.length ∧ i = .int .i64 j ∧ J (L.take j) wr ∧ KpR n₀ ex b w2 wr) (fun i _ => L.length - (intOf i).toNat)
  case atStart => exact ⟨0, by omega, rfl, HJ2.out, KpR.refl _⟩
  case round =>
    obtain ⟨j, hj, rfl, hJs, hK⟩ := hrel
    have HK := Lib.hid hK; clear hK
    by_cases hlt : j < L.length
    · have hTr := HW2.out.below HK.out.below hp hm
      have hbt := (HK.out.boxA HT2.out hBx (by rw [HR2.out]; simp)).at 0 (v := .pointer (some ⟨p, 0, none⟩)) rfl
      obtain ⟨r, cur, rfl, hr0, hrb, hrc⟩ := HC.out (by omega)
      have hrr := (HK.out.blk r _ hrb rfl (fun c => by have := HEX.out r c; omega) (by rw [HR2.out]; simp)).trans hrb
      obtain ⟨x, hx⟩ : ∃ x, L[j]? = some x := ⟨_, List.getElem?_eq_getElem hlt⟩
      have hxm : x ∈ L := List.mem_of_getElem? hx
      have hcell : wr.cell? ⟨r, j, none⟩ = some (.int .i64 x.pid) := by
        simp [World.cell?, hrr]
        exact hrc j _ (by simp [hx, encZ])
      have hlk := hTr.mp.lookup x.pid false
      rw [atL_some (getL_of_mem hTr.ok hxm), if_neg (by decide)] at hlk
      have htc := hTr.c0
      obtain ⟨fn, tmps, assign, body, hy, hR⟩ := hY (L.take j) x wr hJs (by rw [List.length_take]; omega)
      have HX : Hid (L.take (j + 1) = L.take j ++ [x]) := by unfold Hid; rw [List.take_succ_eq_append_getElem hlt]; congr 2; rw [List.getElem?_eq_getElem hlt] at hx; exact Option.some.inj hx
      unfold pvVals at hy
      clear hrr hrb hrc hx hTr
      gi_wp2
      refine hR.mono ?_
      rintro e W3 (⟨rfl, hJ3, hk3⟩ | ⟨rfl, hJx3⟩)
      · gi_wp2
        go_roundw
        case rel => exact ⟨j + 1, by omega, by go_num, by rw [HX.out]; exact hJ3, HK.out.trans hk3⟩
        case measure => simp [intOf]; omega
      · gi_wp2
        refine bodyPost_ret (results_none rfl _ _ _) rfl ?_
        exact ⟨⟨_, rfl⟩, .inr ⟨_, by rw [← HX.out]; exact List.take_prefix _ _, hJx3⟩⟩
    · obtain rfl : j = L.length := by omega
      gi_wp2
      go_end0
      exact ⟨⟨_, rfl⟩, .inl ⟨L, rfl, by rw [List.take_length] at hJs; exact hJs⟩⟩

theorem rising_stops (n : Nat) (hn : 5 ≤ n) (n₀ b : Nat) (ex : List Nat) (Bt : Nat) (hW : TabAt w p m L g) (hp : p < n₀) (hm : m < n₀) (hb : b < w.heap.size) (hex : ∀ k ∈ ex, k < w.heap.size) (hBx : Bt ∉ ex) (hrow : rowOf w b = none)
    (ct : BoxA w Bt 24 #[.pointer (some ⟨p, 0, none⟩)]) :
    SeqStopsK Fence.wide n Try.prog 52 #[.pointer (some ⟨Bt, 0, none⟩)] pvVals (KpR n₀ ex b) (fun ys => ys = L) (fun pre => pre <+: L) 16 w := fun l J Jx W hbW hJ _ hY h0 =>
  rising1_in n hn n₀ b ex l Bt J Jx W hJ hY (hW.below' hbW) hp hm (by have := hbW.size; omega) (fun k hk => by have := hbW.size; have := hex k hk; omega) hBx (by rw [rowOf_kept (hbW.block b hb)]; exact hrow) (ct.below' hbW) h0
theorem rising_stopsN (n : Nat) (Bt : Nat) (Kp : World → World → Prop) (ct : BoxA w Bt 24 #[.pointer none]) :
    SeqStopsK Fence.wide n Try.prog 52 #[.pointer (some ⟨Bt, 0, none⟩)] pvVals Kp (fun ys => ys = []) (fun _ => False) 0 w := fun l J Jx W hbW hJ _ hY h0 =>
  (rising_nil n l Bt W ((ct.below' hbW).at 0 rfl)).mono (by rintro e W' ⟨h1, rfl⟩; exact ⟨h1, .inl ⟨[], rfl, h0⟩⟩)
end
end Go.Proofs.Ytonllnbincgdpaa
