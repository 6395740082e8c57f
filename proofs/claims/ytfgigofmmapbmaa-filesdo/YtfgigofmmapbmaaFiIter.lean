/- Package files: the iterator descriptors and its closure, walked. -/
import Derived.Test.YtfgigofmmapbmaaFiKeep
import Derived.Test.YtfgigofmmapbmaaQuKeep
import Derived.BigRegionIn
namespace Go.Proofs.Ytfgigofmmapbmaa
open Go.RowKit Go.Shelf

attribute [local go_sem] Oper.semAt_some

section
variable {w : World} {p : Nat} {m : Option Nat} {F : List OF} {D : List (Int × Fds)}

set_option maxHeartbeats 400000 in
theorem desc_in (n : Nat) (a : Option Addr) (P : Int) (w : World) :
    CallsIn Fence.wide n Try.prog 37 #[.pointer a, .int .i64 P] w fun e w' => e = .returned (.func (.func 39) #[] #[.pointer (some ⟨w.heap.size, 0, none⟩), .pointer (some ⟨w.heap.size + 1, 0, none⟩)]) ∧ w' = (w.alloc (.cells #[.pointer a] 24)).alloc (.cells #[.int .i64 P] 3) := by
  refine callsIn_of_wp Try.func37 rfl trivial ?_ rfl
  simp only [Try.ntmps37, List.size_toArray, List.length_cons, List.length_nil, Nat.reduceAdd, Nat.reduceSub, Array.replicate_succ, Array.replicate_zero, List.push_toArray, List.append_toArray, List.nil_append, List.cons_append]
  gi_wp2
  go_ret
  exact ⟨rfl, rfl⟩

def numAt (r : Fds) (j : Nat) : Int := r[j]?.getD 0
/-- what is handed on for a descriptor: itself, its number. -/
def descV (r : Fds) (x : Fin 8) : Array Value := #[.int .i64 (x.1 : Int), .int .i64 (numAt r x.1)]

set_option maxRecDepth 100000 in
set_option maxHeartbeats 2000000 in
theorem desc1_in (n : Nat) (hn : 1 ≤ n) (l Bm Bt : Nat) (P : Int) {r : Fds} (hr : rowD D P = r) (J Jx : List (Fin 8) → World → Prop) (W : World) (hJ : AbidesFrom W.heap.size J)
    (hY : ∀ pre (x : Fin 8) W, J pre W → pre.length < 8 → YieldAt Fence.wide (n - 1) Try.prog l (descV r x) W fun e W' =>
      (e = .returned (.bool true) ∧ J (pre ++ [x]) W' ∧ True) ∨ (e = .returned (.bool false) ∧ Jx (pre ++ [x]) W'))
    (hW : FM W p m F D) (cb : W.cell? ⟨Bm, 0, none⟩ = some (.pointer (some ⟨p, 0, none⟩))) (ct : W.cell? ⟨Bt, 0, none⟩ = some (.int .i64 P)) (h0 : J [] W) :
    CallsIn Fence.wide n Try.prog 39 #[.func (.yield l) #[] #[], .pointer (some ⟨Bm, 0, none⟩), .pointer (some ⟨Bt, 0, none⟩)] W fun e W' => (∃ v, e = .returned v) ∧
      ((∃ ys : List (Fin 8), ys.map Fin.val = List.range 8 ∧ J ys W') ∨ (∃ pre : List (Fin 8), (∃ k, k ≤ 8 ∧ pre.map Fin.val = List.range k) ∧ Jx pre W')) := by
  refine callsIn_of_wp Try.func39 rfl trivial ?_ rfl
  simp only [Try.ntmps39, List.size_toArray, List.length_cons, List.length_nil, Nat.reduceAdd, Nat.reduceSub, Array.replicate_succ, Array.replicate_zero, List.push_toArray, List.append_toArray, List.nil_append, List.cons_append]
  have cm := hW.cm
  have h8 : Hid (r.length = 8) := by rw [← hr]; exact rowD_len hW.ok P
  have hl : ∀ k, (Instr.lookup 60 (.map m) (.int .i64 P) false).run Try.prog (W.drewN k) = .ok (rowV r) (W.drewN k) := fun k => by
    rw [← hr]; exact (hW.heap (w' := W.drewN k) rfl).mp.lookup hW.ok P
  have hl1 : (Instr.lookup 60 (.map m) (.int .i64 P) false).run Try.prog W.drew = .ok (rowV r) W.drew := hl 1
  have hJd := Lib.hid (hJ [] W W.drew none h0 (grown_of_below7 (below_drew7 (Below.refl _ W)) none) (fun r e => by cases e))
  have hix : ∀ (w : World) (j : Nat), j < 8 → (Instr.index 73 (rowV r) (.int .i64 (j : Int))).run Try.prog w = .ok (.int .i64 (numAt r j)) w := fun w j hj => index_row hj (by
    unfold numAt; rw [List.getElem?_eq_getElem (by rw [h8.out]; exact hj)]; rfl)
  have HIX := Lib.hid hix
  have HY := Lib.hid hY
  clear hW hix hJ hY h0 hr
  gi_wp2_with fail
  gi_region
  gi_wp2_with fail
  generalize W.drew = W0 at *
  gi_loopw [12] (fun i wr => ∃ (j : Nat) (pre : List (Fin 8)), j ≤ 8 ∧ i = .int .i64 (j : Int) ∧ pre.map Fin.val = List.range j ∧ J pre wr) (fun i _ => 8 - (intOf i).toNat)
  case atStart => exact ⟨0, [], by omega, rfl, rfl, hJd.out⟩
  case round =>
    obtain ⟨j, pre, hj, rfl, hpre, hJs⟩ := hrel
    have HP := Lib.hid hpre; clear hpre
    by_cases hlt : j < 8
    · have hlen : pre.length < 8 := by
        have := congrArg List.length HP.out
        simp at this; omega
      obtain ⟨fn, tmps, assign, body, hy, hR⟩ := HY.out pre ⟨j, hlt⟩ wr hJs hlen
      unfold descV at hy
      dsimp only at hy
      have hix := fun w => HIX.out w j hlt
      clear hlen
      generalize numAt r j = a at *
      gi_wp2
      refine hR.mono ?_
      rintro e W3 (⟨rfl, hJ3, -⟩ | ⟨rfl, hJx3⟩)
      · gi_wp2
        go_roundw
        case rel => exact ⟨j + 1, pre ++ [⟨j, hlt⟩], by omega, by go_num, by rw [List.map_append, HP.out, List.range_succ]; rfl, hJ3⟩
        case measure => simp [intOf]; omega
      · gi_wp2
        refine bodyPost_ret (results_none rfl _ _ _) rfl ?_
        exact ⟨⟨_, rfl⟩, .inr ⟨_, ⟨j + 1, by omega, by rw [List.map_append, HP.out, List.range_succ]; rfl⟩, hJx3⟩⟩
    · obtain rfl : j = 8 := by omega
      gi_wp2
      go_end0
      exact ⟨⟨_, rfl⟩, .inl ⟨pre, HP.out, hJs⟩⟩

theorem desc_stops (n : Nat) (hn : 1 ≤ n) (Bm Bt : Nat) (P : Int) {r : Fds} (hr : rowD D P = r) (w : World) (hW : FM w p m F D) (cb : w.cell? ⟨Bm, 0, none⟩ = some (.pointer (some ⟨p, 0, none⟩))) (ct : w.cell? ⟨Bt, 0, none⟩ = some (.int .i64 P)) :
    SeqStopsK Fence.wide n Try.prog 39 #[.pointer (some ⟨Bm, 0, none⟩), .pointer (some ⟨Bt, 0, none⟩)] (descV r) (fun _ _ => True) (fun ys => ys.map Fin.val = List.range 8) (fun pre => ∃ k, k ≤ 8 ∧ pre.map Fin.val = List.range k) 8 w := fun l J Jx W hb hJ _ hY h0 =>
  desc1_in n hn l Bm Bt P hr J Jx W hJ hY (hW.below hb) ((hb.cell (p := ⟨Bm, 0, none⟩) (World.block_lt_of_cell? w _ cb)).trans cb) ((hb.cell (p := ⟨Bt, 0, none⟩) (World.block_lt_of_cell? w _ ct)).trans ct) h0
end
end Go.Proofs.Ytfgigofmmapbmaa
