/- Package space: the iterator pagesFrom and its closure, walked. -/
import Derived.Test.YtdkaaoboipphcaaPtIter
namespace Go.Proofs.Ytdkaaoboipphcaa
open Go.RowKit Go.Shelf

attribute [local go_sem] Oper.semAt_some

/-- the pages, as they are yielded. -/
def pgVals (first : Nat) {count : Nat} (x : Fin count) : Array Value := #[.int .i64 ((first + x.1 : Nat) : Int)]

set_option maxRecDepth 100000 in
set_option maxHeartbeats 1000000 in
theorem pages1_in (m : Nat) (hm : 1 ≤ m) (l Bc Bf first count : Nat) (hb : first + count ≤ 1000) (J Jx : List (Fin count) → World → Prop)
    (hY : ∀ pre (x : Fin count) W, J pre W → pre.length < count → YieldAt Fence.wide (m - 1) Try.prog l (pgVals first x) W fun e W' =>
      (e = .returned (.bool true) ∧ J (pre ++ [x]) W' ∧ KpOne Bf W W') ∨ (e = .returned (.bool false) ∧ Jx (pre ++ [x]) W'))
    (W : World) (cc : W.cell? ⟨Bc, 0, none⟩ = some (.int .i64 count)) (cf : W.cell? ⟨Bf, 0, none⟩ = some (.int .i64 first)) (h0 : J [] W) :
    CallsIn Fence.wide m Try.prog 42 #[.func (.yield l) #[] #[], .pointer (some ⟨Bc, 0, none⟩), .pointer (some ⟨Bf, 0, none⟩)] W fun e W' => (∃ v, e = .returned v) ∧
      ((∃ ys : List (Fin count), ys.map Fin.val = List.range count ∧ J ys W') ∨ (∃ pre : List (Fin count), (∃ k, k ≤ count ∧ pre.map Fin.val = List.range k) ∧ Jx pre W')) := by
  refine callsIn_of_wp Try.func42 rfl trivial ?_ rfl
  simp only [Try.ntmps42, List.size_toArray, List.length_cons, List.length_nil, Nat.reduceAdd, Nat.reduceSub, Array.replicate_succ, Array.replicate_zero, List.push_toArray, List.append_toArray, List.nil_append, List.cons_append]
  gi_wp2
  gi_loopw [6] (fun i wr => ∃ (k : Nat) (pre : List (Fin count)), k ≤ count ∧ i = .int .i64 k ∧ pre.map Fin.val = List.range k ∧ J pre wr ∧ wr.cell? ⟨Bf, 0, none⟩ = some (.int .i64 first))
    (fun i _ => count - (intOf i).toNat)
  case atStart => exact ⟨0, [], Nat.zero_le _, rfl, rfl, h0, cf⟩
  case round =>
    obtain ⟨k, pre, hk, rfl, hpre, hJs, hcf⟩ := hrel
    have HP := Lib.hid hpre; clear hpre
    by_cases hlt : k < count
    · obtain ⟨fn, tmps, assign, body, hy, hR⟩ := hY pre ⟨k, hlt⟩ wr hJs (by have := congrArg List.length HP.out; simp at this; omega)
      unfold pgVals at hy
      dsimp only at hy
      have hsum : ((first + k : Nat) : Int) = (first : Int) + (k : Int) := by omega
      rw [hsum] at hy
      clear hsum
      gi_wp2
      refine hR.mono ?_
      rintro e W3 (⟨rfl, hJ3, hk3⟩ | ⟨rfl, hJx3⟩)
      · gi_wp2
        go_roundw
        case rel => exact ⟨k + 1, pre ++ [⟨k, hlt⟩], by omega, by go_num, by rw [List.map_append, HP.out, List.range_succ]; rfl, hJ3, hk3.cell.trans hcf⟩
        case measure => simp [intOf]; omega
      · gi_wp2
        refine bodyPost_ret (results_none rfl _ _ _) rfl ?_
        exact ⟨⟨_, rfl⟩, .inr ⟨_, ⟨k + 1, by omega, by rw [List.map_append, HP.out, List.range_succ]; rfl⟩, hJx3⟩⟩
    · obtain rfl : k = count := by omega
      gi_wp2
      go_end0
      exact ⟨⟨_, rfl⟩, .inl ⟨pre, HP.out, hJs⟩⟩

set_option maxHeartbeats 400000 in
theorem pagesFrom_in (m : Nat) (first count : Int) (w : World) :
    CallsIn Fence.wide m Try.prog 27 #[.int .i64 first, .int .i64 count] w fun e w' => e = .returned (.func (.func 42) #[] #[.pointer (some ⟨w.heap.size + 1, 0, none⟩), .pointer (some ⟨w.heap.size, 0, none⟩)]) ∧
      w' = (w.alloc (.cells #[.int .i64 first] 3)).alloc (.cells #[.int .i64 count] 3) := by
  refine callsIn_of_wp Try.func27 rfl trivial ?_ rfl
  simp only [Try.ntmps27, List.size_toArray, List.length_cons, List.length_nil, Nat.reduceAdd, Nat.reduceSub, Array.replicate_succ, Array.replicate_zero, List.push_toArray, List.append_toArray, List.nil_append, List.cons_append]
  gi_wp2
  go_ret
  exact ⟨rfl, rfl⟩

theorem pages_stops (m : Nat) (hm : 1 ≤ m) (Bc Bf first count : Nat) (hb : first + count ≤ 1000) (w : World) (cc : w.cell? ⟨Bc, 0, none⟩ = some (.int .i64 count)) (cf : w.cell? ⟨Bf, 0, none⟩ = some (.int .i64 first)) :
    SeqStopsK Fence.wide m Try.prog 42 #[.pointer (some ⟨Bc, 0, none⟩), .pointer (some ⟨Bf, 0, none⟩)] (pgVals first) (KpOne Bf)
      (fun ys : List (Fin count) => ys.map Fin.val = List.range count) (fun pre => ∃ k, k ≤ count ∧ pre.map Fin.val = List.range k) count w := fun l J Jx W hbl _ _ hY h0 =>
  pages1_in m hm l Bc Bf first count hb J Jx hY W ((hbl.cell (p := ⟨Bc, 0, none⟩) (World.block_lt_of_cell? w _ cc)).trans cc) ((hbl.cell (p := ⟨Bf, 0, none⟩) (World.block_lt_of_cell? w _ cf)).trans cf) h0

end Go.Proofs.Ytdkaaoboipphcaa
