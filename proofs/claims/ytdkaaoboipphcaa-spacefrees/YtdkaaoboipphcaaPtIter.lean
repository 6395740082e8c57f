/- Package ptable: the iterator 'entries' and its closure, walked. -/
import Derived.Test.YtdkaaoboipphcaaPtPut
import Derived.Test.YtdkaaoboipphcaaIter
namespace Go.Proofs.Ytdkaaoboipphcaa
open Go.RowKit Go.Shelf

attribute [local go_sem] Oper.semAt_some

/-- the entries of a table that are not empty. -/
abbrev Ent (l : List UInt8) := { i : Nat // i < 16 ∧ entP l i ≠ (0, 0) }
/-- .. as they are yielded: a place, an entry. -/
def entVals (k : Nat) (l : List UInt8) (x : Ent l) : Array Value := #[.agg #[.int .i64 k, .int .i64 x.1], .agg #[.int .i64 (entP l x.1).1, .int .i64 (entP l x.1).2]]
/-- one block stays. -/
def KpOne (b : Nat) (W W' : World) : Prop := W'.heap[b]? = W.heap[b]?
theorem KpOne.refl (b : Nat) (W : World) : KpOne b W W := rfl
theorem KpOne.trans {b : Nat} {A B C : World} (h : KpOne b A B) (k : KpOne b B C) : KpOne b A C := Eq.trans k h
theorem KpOne.put {b : Nat} {w : World} (hb : b < w.heap.size) (W : World) (l : Nat) (o o' : Obj) (hl : w.heap.size ≤ l) (_ : W.heap[l]? = some o) (_ : o.isCells = false) (_ : o.isWalk = false) : KpOne b W (W.putObj l o') :=
  World.putObj_heap_other (by omega)
theorem KpOne.cell {b o : Nat} {W W' : World} (h : KpOne b W W') : W'.cell? ⟨b, o, none⟩ = W.cell? ⟨b, o, none⟩ := World.cell?_of_block (w := W) h
theorem KpOne.alloc {b : Nat} {W : World} (hb : b < W.heap.size) (o : Obj) : KpOne b W (W.alloc o) := Below.heap_alloc W o b hb
theorem KpOne.set {b c o : Nat} {W W' : World} (h : KpOne b W W') (hne : b ≠ c) (v : Value) : KpOne b W (W'.setCell ⟨c, o, none⟩ v) := (heap_setCell_other _ _ _ _ hne).trans h
theorem KpOne.of_below {b m : Nat} {W W' : World} (h : Below m W W') (hb : b < m) : KpOne b W W' := h.block b hb
theorem KpOne.of_grown {b r : Nat} {W W' : World} (h : W.grownBy W' (some r)) (hb : b < W.heap.size) (hne : b ≠ r) : KpOne b W W' := h.block b hb (fun e => hne (Option.some.inj e))

section
variable {w : World} {p g n : Nat} {R : Nat → Int} {B : Nat → List UInt8}

set_option maxHeartbeats 400000 in
theorem entries_in (m : Nat) (a : Option Addr) (k : Int) (w : World) :
    CallsIn Fence.wide m Try.prog 61 #[.pointer a, .int .i64 k] w fun e w' => e = .returned (.func (.func 81) #[] #[.pointer (some ⟨w.heap.size, 0, none⟩), .pointer (some ⟨w.heap.size + 1, 0, none⟩)]) ∧ w' = (w.alloc (.cells #[.pointer a] 24)).alloc (.cells #[.int .i64 k] 3) := by
  refine callsIn_of_wp Try.func61 rfl trivial ?_ rfl
  simp only [Try.ntmps61, List.size_toArray, List.length_cons, List.length_nil, Nat.reduceAdd, Nat.reduceSub, Array.replicate_succ, Array.replicate_zero, List.push_toArray, List.append_toArray, List.nil_append, List.cons_append]
  gi_wp2
  go_ret
  exact ⟨rfl, rfl⟩

/-- reading a table as a whole. -/
theorem read_whole (h : MemAt w p g n R B) (k : Nat) (hk : k < n) (hr : 0 < R k) : Calls Try.prog 82 #[.pointer (some ⟨p, 0, none⟩), .int .i64 k, .int .i64 0, .int .i64 64] w fun e W' =>
      e = .returned (.tuple #[.string ⟨(B k).toArray⟩, .int .i64 0]) ∧ Below w.heap.size w W' := by
  refine (read_in h k hk hr 0 64 (by omega)).mono ?_
  rintro e W' ⟨rfl, rfl⟩
  have hl := h.hB k hk
  rw [List.drop_zero, List.take_of_length_le (by omega)]
  exact ⟨rfl, ((Below.refl _ _).alloc (Nat.le_refl _) _).alloc (by simp) _⟩

/-- what unpacking makes of a table's text, from an entry on. -/
theorem unpack_at (l : List UInt8) (hl : l.length = 64) (i : Nat) (hi : i < 16) (w : World) : Calls Try.prog 83 #[.string ((⟨l.toArray⟩ : ByteArray).extract (i * 4) 64)] w fun e w' =>
      e = .returned (.agg #[.int .i64 (entP l i).1, .int .i64 (entP l i).2]) ∧ Below w.heap.size w w' := by
  have hsz : ((⟨l.toArray⟩ : ByteArray).extract (i * 4) 64).size = 64 - i * 4 := by
    have h64 : (⟨l.toArray⟩ : ByteArray).size = 64 := by show l.toArray.size = 64; simpa using hl
    rw [ByteArray.size_extract, h64]; omega
  have hd : ((⟨l.toArray⟩ : ByteArray).extract (i * 4) 64).data.toList = l.drop (4 * i) := by
    rw [ByteArray.data_extract]
    simp [Nat.mul_comm, List.take_of_length_le, hl]
  have he : entP (l.drop (4 * i)) 0 = entP l i := by
    unfold entP ent entF entT
    simp only [List.getElem?_drop, Nat.mul_zero, Nat.add_zero, Nat.zero_add]
  by_cases c : entF ((⟨l.toArray⟩ : ByteArray).extract (i * 4) 64).data.toList 0 % 2 = 0
  · refine (unpack_no _ (by omega) c w).mono ?_
    rintro e w' ⟨rfl, hb⟩
    rw [hd, he]
    exact ⟨rfl, hb⟩
  · refine (unpack_yes _ (by omega) c w).mono ?_
    rintro e w' ⟨rfl, hb⟩
    rw [hd, he]
    exact ⟨rfl, hb⟩

/-- the entries ahead of place i. -/
def entsTo (l : List UInt8) (i : Nat) : List Nat := (List.range i).filter fun j => decide (entP l j ≠ (0, 0))
theorem entsTo_yes {l : List UInt8} {i : Nat} (h : entP l i ≠ (0, 0)) : entsTo l (i + 1) = entsTo l i ++ [i] := by
  unfold entsTo
  rw [List.range_succ, List.filter_append]
  simp [h]
theorem entsTo_no {l : List UInt8} {i : Nat} (h : entP l i = (0, 0)) : entsTo l (i + 1) = entsTo l i := by
  unfold entsTo
  rw [List.range_succ, List.filter_append]
  simp [h]
theorem entsTo_len (l : List UInt8) (i : Nat) : (entsTo l i).length ≤ i := by
  have := List.length_filter_le (fun j => decide (entP l j ≠ (0, 0))) (List.range i)
  rw [List.length_range] at this
  exact this

theorem entP_pos {l : List UInt8} {i : Nat} (h : entP l i ≠ (0, 0)) : (entP l i).1 ≠ 0 := by
  unfold entP at h ⊢
  split at h
  · exact absurd rfl h
  · rename_i c
    rw [if_neg c]
    intro c2
    apply c
    show (ent l i).1 % 2 = 0
    rw [c2]

set_option maxRecDepth 100000 in
set_option maxHeartbeats 1000000 in
theorem entries1_in (m : Nat) (hm : 1 ≤ m) (l Bm Bt : Nat) (k : Nat) (hk : k < n) (hr : 0 < R k) (J Jx : List (Ent (B k)) → World → Prop)
    (W : World) (hJ : AbidesFrom W.heap.size J)
    (hY : ∀ pre (x : Ent (B k)) W, J pre W → pre.length < 16 → YieldAt Fence.wide (m - 1) Try.prog l (entVals k (B k) x) W fun e W' =>
      (e = .returned (.bool true) ∧ J (pre ++ [x]) W' ∧ KpOne Bt W W') ∨ (e = .returned (.bool false) ∧ Jx (pre ++ [x]) W'))
    (hW : MemAt W p g n R B) (cm : W.cell? ⟨Bm, 0, none⟩ = some (.pointer (some ⟨p, 0, none⟩))) (ct : W.cell? ⟨Bt, 0, none⟩ = some (.int .i64 k)) (h0 : J [] W) :
    CallsIn Fence.wide m Try.prog 81 #[.func (.yield l) #[] #[], .pointer (some ⟨Bm, 0, none⟩), .pointer (some ⟨Bt, 0, none⟩)] W fun e W' => (∃ v, e = .returned v) ∧
      ((∃ ys : List (Ent (B k)), ys.map Subtype.val = entsTo (B k) 16 ∧ J ys W') ∨ (∃ pre : List (Ent (B k)), True ∧ Jx pre W')) := by
  refine callsIn_of_wp Try.func81 rfl trivial ?_ rfl
  simp only [Try.ntmps81, List.size_toArray, List.length_cons, List.length_nil, Nat.reduceAdd, Nat.reduceSub, Array.replicate_succ, Array.replicate_zero, List.push_toArray, List.append_toArray, List.nil_append, List.cons_append]
  have hl := hW.hB k hk
  have hBt : Bt < W.heap.size := World.block_lt_of_cell? W _ ct
  gi_wp2_with (refine ⟨trivial, ?_⟩; gi_at_call 82; refine (callsIn_wide.2 (read_whole hW k hk hr)).mono ?_; rintro e w1 ⟨rfl, hB1⟩)
  have hJ1 := hJ _ _ _ none h0 (grown_of_below hB1 none) (fun r e => by cases e)
  have hc1 := (hB1.cell (p := ⟨Bt, 0, none⟩) hBt).trans ct
  have hsz := hB1.size
  clear hB1
  have HUN := Lib.hid (fun (i : Nat) (hi : i < 16) => unpack_at (B k) hl i hi)
  have hS : (⟨(B k).toArray⟩ : ByteArray).size = 64 := by show (B k).toArray.size = 64; simpa using hl
  clear hl
  generalize (⟨(B k).toArray⟩ : ByteArray) = S at *
  have hJr : Hid (∀ s A A', J s A → Below A.heap.size A A' → J s A') := fun s A A' h1 h2 => hJ s A A' none h1 (grown_of_below h2 none) (fun r e => by cases e)
  gi_loopw [17] (fun i wr => ∃ (j : Nat) (pre : List (Ent (B k))), j ≤ 16 ∧ i = .int .i64 j ∧ pre.map Subtype.val = entsTo (B k) j ∧ J pre wr ∧ wr.cell? ⟨Bt, 0, none⟩ = some (.int .i64 k))
    (fun i _ => 16 - (intOf i).toNat)
  case atStart => exact ⟨0, [], by omega, rfl, rfl, hJ1, hc1⟩
  case round =>
    obtain ⟨j, pre, hj, rfl, hpre, hJs, hct⟩ := hrel
    have HP := Lib.hid hpre; clear hpre
    by_cases hlt : j < 16
    · have hszr : Hid (Bt < wr.heap.size) := World.block_lt_of_cell? wr _ hct
      by_cases hz : entP (B k) j = (0, 0)
      · have HE := Lib.hid (entsTo_no hz)
        have HZ := Lib.hid hz; clear hz
        gi_wp2_with fail
        refine ⟨trivial, callsIn_wide.2 ((HUN.out j hlt wr).mono ?_)⟩
        rintro e w2 ⟨rfl, hB2⟩
        rw [HZ.out]
        have hJ2 := hJr.out _ _ _ hJs hB2
        have hct2 := (hB2.cell (p := ⟨Bt, 0, none⟩) hszr.out).trans hct
        have HB2 := Lib.hid hB2
        clear hB2 hct
        gi_wp2
        refine ⟨fun _ h => (by cases h), ?_⟩
        gi_wp2
        go_roundw
        case rel => exact ⟨j + 1, pre, by omega, by go_num, HP.out.trans HE.out.symm, hJr.out _ _ _ hJ2 ((Below.refl _ w2).alloc (Nat.le_refl _) _), cell_allocL _ hct2⟩
        case measure => simp [intOf]; omega
      · have HE := Lib.hid (entsTo_yes hz)
        have hf := entP_pos hz
        have HZ := Lib.hid hz; clear hz
        have hlen : Hid (pre.length < 16) := by
          have := congrArg List.length HP.out
          have h2 := entsTo_len (B k) j
          rw [List.length_map] at this
          unfold Hid; omega
        gi_wp2_with fail
        refine ⟨trivial, callsIn_wide.2 ((HUN.out j hlt wr).mono ?_)⟩
        rintro e w2 ⟨rfl, hB2⟩
        have hJ2 := hJr.out _ _ _ hJs hB2
        have hct2 := (hB2.cell (p := ⟨Bt, 0, none⟩) hszr.out).trans hct
        have HB2 := Lib.hid hB2
        clear hB2 hct
        have hJ3 := hJr.out _ _ _ hJ2 ((Below.refl _ w2).alloc (Nat.le_refl _) (.cells #[.int .i64 (entP (B k) j).1, .int .i64 (entP (B k) j).2] 100))
        obtain ⟨fn, tmps, assign, body, hy, hR⟩ := hY pre ⟨j, hlt, HZ.out⟩ _ hJ3 hlen.out
        unfold entVals at hy
        dsimp only at hy
        have hf1 : ((((entP (B k) j).1 : Nat) : Int) == 0) = false := by simpa using hf
        have hct3 := cell_allocL (.cells #[.int .i64 (entP (B k) j).1, .int .i64 (entP (B k) j).2] 100) hct2
        generalize (entP (B k) j).1 = F at *
        generalize (entP (B k) j).2 = U at *
        gi_wp2
        refine hR.mono ?_
        rintro e W3 (⟨rfl, hJ3, hk3⟩ | ⟨rfl, hJx3⟩)
        · gi_wp2
          go_roundw
          case rel => exact ⟨j + 1, pre ++ [⟨j, hlt, HZ.out⟩], by omega, by go_num, by rw [List.map_append, HP.out, HE.out]; rfl, hJ3, hk3.cell.trans hct3⟩
          case measure => simp [intOf]; omega
        · gi_wp2
          refine bodyPost_ret (results_none rfl _ _ _) rfl ?_
          exact ⟨⟨_, rfl⟩, .inr ⟨_, trivial, hJx3⟩⟩
    · obtain rfl : j = 16 := by omega
      gi_wp2
      go_end0
      exact ⟨⟨_, rfl⟩, .inl ⟨pre, HP.out, hJs⟩⟩

theorem entries_stops (m : Nat) (hm : 1 ≤ m) (Bm Bt k : Nat) (hk : k < n) (hr : 0 < R k) (w : World) (hW : MemAt w p g n R B) (cm : w.cell? ⟨Bm, 0, none⟩ = some (.pointer (some ⟨p, 0, none⟩))) (ct : w.cell? ⟨Bt, 0, none⟩ = some (.int .i64 k)) :
    SeqStopsK Fence.wide m Try.prog 81 #[.pointer (some ⟨Bm, 0, none⟩), .pointer (some ⟨Bt, 0, none⟩)] (entVals k (B k)) (KpOne Bt) (fun ys => ys.map Subtype.val = entsTo (B k) 16) (fun _ => True) 16 w := fun l J Jx W hb hJ _ hY h0 =>
  entries1_in m hm l Bm Bt k hk hr J Jx W hJ hY (hW.below hb) ((hb.cell (p := ⟨Bm, 0, none⟩) (World.block_lt_of_cell? w _ cm)).trans cm) ((hb.cell (p := ⟨Bt, 0, none⟩) (World.block_lt_of_cell? w _ ct)).trans ct) h0

/-- 'the block holds two values' speaks of cells alone. -/
theorem Boxed2.kept {W W' : World} {row : Option Nat} {b : Nat} {t : TypeId} {u v : Value} (h : Boxed2 W b t u v) (hg : W.grownBy W' row) (hrow : ∀ r, row = some r → ∃ o : Obj, W.heap[r]? = some o ∧ o.isCells = false) : Boxed2 W' b t u v :=
  h.keep (by
    refine hg.block b h.lt (fun e => ?_)
    obtain ⟨o, ho, hc⟩ := hrow b e.symm
    rw [h.blk] at ho; cases ho; cases hc)
theorem MemAt.kept {W W' : World} {row : Option Nat} (h : MemAt W p g n R B) (hg : W.grownBy W' row) (hrow : ∀ r, row = some r → ∃ o : Obj, W.heap[r]? = some o ∧ o.isCells = false) : MemAt W' p g n R B := by
  obtain ⟨C, hC, _⟩ := h.hg
  refine h.keep (hg.block p h.p_lt (fun e => ?_)) (hg.block g h.g_lt (fun e => ?_))
  · obtain ⟨o, ho, hc⟩ := hrow p e.symm
    rw [h.hp] at ho; cases ho; cases hc
  · obtain ⟨o, ho, hc⟩ := hrow g e.symm
    rw [hC] at ho; cases ho; cases hc

end
end Go.Proofs.Ytdkaaoboipphcaa
