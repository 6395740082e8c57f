/- Package cred: the iterator 'digits' and its closure, walked. -/
import Derived.Test.YtpankbmlidnoaaaCredMake
import Derived.Test.YtpankbmlidnoaaaIter
import Derived.Laws.BitsAllLaws
import Derived.Lib.QuoteBits
namespace Go.Proofs.Ytpankbmlidnoaaa
open Go.RowKit Go.Shelf

attribute [local go_sem] Oper.semAt_some

/-- the digit at place k + 1, as it is yielded. -/
def digVals (m : Int) (k : Nat) : Array Value := #[.int .i64 (k + 1), .int .i64 (atN m k)]
/-- one block stays. -/
def KpD (b : Nat) (W W' : World) : Prop := W'.heap[b]? = W.heap[b]?
theorem KpD.refl (b : Nat) (W : World) : KpD b W W := rfl
theorem KpD.trans {b : Nat} {A B C : World} (h : KpD b A B) (k : KpD b B C) : KpD b A C := Eq.trans k h
theorem KpD.put {b : Nat} {w : World} (hb : b < w.heap.size) (W : World) (l : Nat) (o o' : Obj) (hl : w.heap.size ≤ l) (_ : W.heap[l]? = some o) (_ : o.isCells = false) (_ : o.isWalk = false) : KpD b W (W.putObj l o') :=
  World.putObj_heap_other (by omega)

set_option maxHeartbeats 400000 in
theorem digits_in (n : Nat) (m : Int) (w : World) :
    CallsIn Fence.wide n Try.prog 28 #[.int .i64 m] w fun e w' => e = .returned (.func (.func 30) #[] #[.pointer (some ⟨w.heap.size, 0, none⟩)]) ∧ w' = w.alloc (.cells #[.int .i64 m] 3) := by
  refine callsIn_of_wp Try.func28 rfl trivial ?_ rfl
  simp only [Try.ntmps28, List.size_toArray, List.length_cons, List.length_nil, Nat.reduceAdd, Nat.reduceSub, Array.replicate_succ, Array.replicate_zero, List.push_toArray, List.append_toArray, List.nil_append, List.cons_append]
  gi_wp2
  go_ret
  exact ⟨rfl, rfl⟩

theorem and7 (n : Int) (h0 : 0 ≤ n) (h1 : n ≤ 4095) : bits BinOp.and IntKind.i64 n 7 = n % 8 := by
  obtain ⟨k, rfl⟩ : ∃ k : Nat, n = k := ⟨n.toNat, by omega⟩
  have hb : bits BinOp.and IntKind.i64 (k : Int) 7 = IntKind.i64.wrap ((BitVec.ofInt 64 (k : Int) &&& BitVec.ofInt 64 ((7 : Nat) : Int)).toNat : Int) := rfl
  rw [hb, BitVec.toNat_and, ofInt_u64 _ (by omega), ofInt_u64 7 (by omega), nat_mask3, Lib.wrap_i64_small _ (by omega)]
  omega

theorem rest_bd {m : Int} (hm : 0 ≤ m ∧ m ≤ 511) {k : Nat} (hk : k ≤ 4) : 0 ≤ restN m k ∧ restN m k ≤ 4095 := by
  unfold restN
  match k, hk with
  | 0, _ => simp; omega
  | 1, _ => simp; omega
  | 2, _ => simp; omega
  | 3, _ => simp; omega
  | 4, _ => simp; omega

set_option maxRecDepth 100000 in
set_option maxHeartbeats 1000000 in
theorem digits1_in (n : Nat) (hn : 1 ≤ n) (l Bm : Nat) (m : Int) (hm : modB m = true) (J Jx : List Nat → World → Prop)
    (W : World)
    (hY : ∀ pre (x : Nat) W, J pre W → pre.length < 4 → YieldAt Fence.wide (n - 1) Try.prog l (digVals m x) W fun e W' =>
      (e = .returned (.bool true) ∧ J (pre ++ [x]) W' ∧ KpD Bm W W') ∨ (e = .returned (.bool false) ∧ Jx (pre ++ [x]) W'))
    (cm : W.cell? ⟨Bm, 0, none⟩ = some (.int .i64 m)) (h0 : J [] W) :
    CallsIn Fence.wide n Try.prog 30 #[.func (.yield l) #[] #[], .pointer (some ⟨Bm, 0, none⟩)] W fun e W' => (∃ v, e = .returned v) ∧
      ((∃ ys : List Nat, ys = [0, 1, 2, 3] ∧ J ys W') ∨ (∃ pre : List Nat, True ∧ Jx pre W')) := by
  have hm' : 0 ≤ m ∧ m ≤ 511 := by simpa [modB] using hm
  have hr0 : bits BinOp.or IntKind.i64 3584 m = restN m 0 := by
    have := rest_first ⟨m.toNat, by omega⟩
    rw [show ((m.toNat : Nat) : Int) = m from by omega] at this
    exact this
  refine callsIn_of_wp Try.func30 rfl trivial ?_ rfl
  simp only [Try.ntmps30, List.size_toArray, List.length_cons, List.length_nil, Nat.reduceAdd, Nat.reduceSub, Array.replicate_succ, Array.replicate_zero, List.push_toArray, List.append_toArray, List.nil_append, List.cons_append]
  gi_wp2
  gi_loopw [4, 3] (fun i r wr => ∃ k : Nat, k ≤ 4 ∧ i = .int .i64 (k + 1) ∧ r = .int .i64 (restN m k) ∧ J (List.range k) wr)
    (fun i _ _ => 5 - (intOf i).toNat)
  case atStart => exact ⟨0, by omega, rfl, rfl, h0⟩
  case round =>
    obtain ⟨k, hk, rfl, rfl, hJs⟩ := hrel
    have hb := rest_bd hm' hk
    have h7 := and7 (restN m k) (by omega) (by omega)
    have HA : Hid (restN m k % 8 = atN m k) := rfl
    have HN := Lib.hid (fun h => rest_next m (k := k) h)
    generalize restN m k = r at *
    by_cases hlt : k < 4
    · obtain ⟨fn, tmps, assign, body, hy, hR⟩ := hY (List.range k) k _ hJs (by simpa using hlt)
      unfold digVals at hy
      rw [← HA.out] at hy
      gi_wp2
      refine hR.mono ?_
      rintro e W3 (⟨rfl, hJ3, hk3⟩ | ⟨rfl, hJx3⟩)
      · have HJ3 : Hid (J (List.range (k + 1)) W3) := by unfold Hid; rw [List.range_succ]; exact hJ3
        clear hJ3
        gi_wp2
        go_roundw
        case rel => exact ⟨k + 1, by omega, by go_num, by rw [← HN.out hlt], HJ3.out⟩
        case measure => simp [intOf]; omega
      · gi_wp2
        refine bodyPost_ret (results_none rfl _ _ _) rfl ?_
        exact ⟨⟨_, rfl⟩, .inr ⟨_, trivial, hJx3⟩⟩
    · obtain rfl : k = 4 := by omega
      gi_wp2
      go_end0
      exact ⟨⟨_, rfl⟩, .inl ⟨_, rfl, hJs⟩⟩

theorem digits_stops (n : Nat) (hn : 1 ≤ n) (Bm : Nat) (m : Int) (hm : modB m = true) (w : World) (cm : w.cell? ⟨Bm, 0, none⟩ = some (.int .i64 m)) :
    SeqStopsK Fence.wide n Try.prog 30 #[.pointer (some ⟨Bm, 0, none⟩)] (digVals m) (KpD Bm) (fun ys => ys = [0, 1, 2, 3]) (fun _ => True) 4 w := fun l J Jx W hb _ _ hY h0 =>
  digits1_in n hn l Bm m hm J Jx W hY ((hb.cell (p := ⟨Bm, 0, none⟩) (World.block_lt_of_cell? w _ cm)).trans cm) h0

end Go.Proofs.Ytpankbmlidnoaaa
