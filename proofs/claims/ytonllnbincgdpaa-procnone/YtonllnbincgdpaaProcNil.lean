/- Package proc: what the calls tell of a nil table. -/
import Derived.Test.YtonllnbincgdpaaProcOps
namespace Go.Proofs.Ytonllnbincgdpaa
open Go.RowKit Go.Shelf Go.Maps

attribute [local go_sem] Oper.semAt_some

set_option maxRecDepth 100000 in
set_option maxHeartbeats 2000000 in
theorem those_nil_in (w : World) (hf : Nat) (caps : Array Value) :
    CallsIn Fence.wide 8 Try.prog 33 #[.pointer none, .func (.func hf) #[] caps] w fun e W' => e = .returned (.slice none 0 0) ∧ Below w.heap.size w W' := by
  refine callsIn_of_wp_marks Try.func33 rfl trivial ?_ rfl
  simp only [Try.ntmps33, List.size_toArray, List.length_cons, List.length_nil, Nat.reduceAdd, Nat.reduceSub, Array.replicate_succ, Array.replicate_zero, List.push_toArray, List.append_toArray, List.nil_append, List.cons_append]
  gi_wp2_with (refine ⟨trivial, ?_⟩; gi_at_call 49; refine (rising_in _ _ _).mono ?_; rintro e w' ⟨rfl, rfl⟩)
  have bL := (Boxed.new (w.alloc (.cells #[.func (.func hf) #[] caps] 64)) 33 (.slice none 0 0)).alloc (.cells #[.pointer none] 24)
  have bT := BoxA.new ((w.alloc (.cells #[.func (.func hf) #[] caps] 64)).alloc (.cells #[.slice none 0 0] 33)) 24 #[.pointer none]
  simp only [World.size_alloc] at bL bT
  have hB3 : Below w.heap.size w (((w.alloc (.cells #[.func (.func hf) #[] caps] 64)).alloc (.cells #[.slice none 0 0] 33)).alloc (.cells #[.pointer none] 24)) := (((Below.refl _ w).alloc (Nat.le_refl _) _).alloc (by simp) _).alloc (by simp; omega) _
  have hsz : (((w.alloc (.cells #[.func (.func hf) #[] caps] 64)).alloc (.cells #[.slice none 0 0] 33)).alloc (.cells #[.pointer none] 24)).heap.size = w.heap.size + 3 := by simp
  generalize (((w.alloc (.cells #[.func (.func hf) #[] caps] 64)).alloc (.cells #[.slice none 0 0] 33)).alloc (.cells #[.pointer none] 24)) = W0 at *
  refine wpIn_rangeFunc_ownH (F := Fence.wide) (n := 8) rfl (by omega) (gf := 52) (lb := #[.pointer (some ⟨w.heap.size + 1 + 1, 0, none⟩)]) rfl trivial (enters_of Try.func52 (by kernel_rfl) rfl)
    (rising_stopsN 7 (w.heap.size + 1 + 1) (KpR w.heap.size [w.heap.size + 1] (w.heap.size + 1)) bT) KpR.trans (KpR.put (by omega) (by omega)) (Below.refl _ _) (fun _ => rfl)
    (fun pre W => Boxed W (w.heap.size + 1) 33 (.slice none 0 0) ∧ Below w.heap.size w W)
    (fun _ _ _ => False)
    (OwnFrom.and (Own.from (boxed_own _ _ _) _) (ownFrom_below (Nat.le_refl _) (by omega)))
    (fun _ _ _ _ _ hs _ _ => hs)
    ⟨bL, hB3⟩
    (fun x a' W => True) (fun x a' _ X Y row hs hg hr => trivial)
    ?assign ?body ?done ?stop
  case assign =>
    rintro l pre x W K ⟨bL1, hB4⟩ hK
    unfold pvVals
    obtain ⟨a0, a1, a2, a3, a4, a5, a6, a7⟩ := x
    unfold PV.val PV.cells at *
    dsimp only at *
    gi_wp2
    have hlT := bL1.lt
    have hsW := hB4.size
    exact hK _ _ ((KeepsOthers.alloc _ _).from _) (KpR.of_below hsW hlT ((Below.refl _ _).alloc (Nat.le_refl _) _)) ⟨bL1.alloc _, hB4.alloc hsW _⟩ trivial
  case body =>
    rintro l pre x a' W hl _ _ _ hlt
    exact absurd hlt (by omega)
  case done =>
    rintro D zs W hD hzs ⟨bL1, hB4⟩ hK
    have c0 := bL1.cell
    gi_wp2
    refine ⟨by simp, .inl ⟨_, _, rfl, run_takeDeferred hK, ?_⟩⟩
    exact ⟨_, results_tmp rfl _ _ _, rfl, below_put6 hB4 (by omega)⟩
  case stop =>
    rintro D c pre W _ _ h _
    exact h.elim
theorem those_nil (w : World) (hf : Nat) (caps : Array Value) : Calls Try.prog 33 #[.pointer none, .func (.func hf) #[] caps] w fun e W' => e = .returned (.slice none 0 0) ∧ Below w.heap.size w W' := callsIn_wide.1 (those_nil_in w hf caps)

set_option maxRecDepth 100000 in
set_option maxHeartbeats 1000000 in
theorem pids_nil (w : World) : Calls Try.prog 14 #[.pointer none] w fun e W' => e = .returned (.slice none 0 0) ∧ Below w.heap.size w W' := by
  go_enter Try.func14, Try.ntmps14
  go_wp2_with (go_at_call 33; refine (those_nil _ _ _).mono ?_; rintro e w' ⟨rfl, h2⟩)
  go_ret
  exact ⟨rfl, h2⟩

set_option maxRecDepth 100000 in
set_option maxHeartbeats 1000000 in
theorem change_none (F : Nat) (w : World) : Calls Try.prog 38 #[.pointer none, .func (.func F) #[] #[], .slice none 0 0] w fun e w' => e = .returned (.tuple #[]) ∧ w' = w := by
  go_enter Try.func38, Try.ntmps38
  go_wp2_with fail
  go_loopw [10] (fun i wr => i = .int .i64 0 ∧ wr = w) (fun _ _ => 0)
  case atStart => exact ⟨rfl, rfl⟩
  case round =>
    obtain ⟨rfl, rfl⟩ := hrel
    go_wp2
    go_end0
    exact ⟨rfl, rfl⟩

set_option maxRecDepth 100000 in
set_option maxHeartbeats 1000000 in
theorem wake_nil (s : ByteArray) (w : World) : Calls Try.prog 22 #[.pointer none, .string s] w fun e W' => e = .returned (.slice none 0 0) ∧ Below w.heap.size w W' := by
  have hmf : ∀ (fn : Fn) (first cap : Array Value) (w : World), (Instr.makeFunc fn first cap).run Try.prog w = .ok (.func fn first cap) w := fun _ _ _ _ => rfl
  go_enter Try.func22, Try.ntmps22
  go_wp2_with (first | (go_at_call 33; refine (those_nil _ _ _).mono ?_; rintro e w1 ⟨rfl, h2⟩; have HB := Lib.hid (((Below.refl w.heap.size w).alloc (Nat.le_refl _) _).trans (h2.mono (by simp))); clear h2) | (go_at_call 38; refine (change_none _ _).mono ?_; rintro e w2 ⟨rfl, rfl⟩))
  go_ret
  exact ⟨rfl, HB.out⟩

set_option maxRecDepth 100000 in
set_option maxHeartbeats 1000000 in
theorem wait_nil (k : Int) (w : World) : Calls Try.prog 17 #[.pointer none, .int .i64 k] w fun e w' => e = .returned (.tuple #[.int .i64 0, .int .i64 0, .int .i64 1]) ∧ Below w.heap.size w w' := by
  go_enter Try.func17, Try.ntmps17
  go_wp2_with (go_at_call 35; refine (run_nil _ _).mono ?_; rintro e w1 ⟨rfl, hB⟩; have HB := Lib.hid hB; clear hB; unfold PV.val PV.cells PV.zero; dsimp only)
  go_ret3
  exact ⟨rfl, HB.out.alloc HB.out.size _⟩

set_option maxRecDepth 100000 in
set_option maxHeartbeats 1000000 in
theorem kill_nil (k : Int) (w : World) : Calls Try.prog 20 #[.pointer none, .int .i64 k] w fun e w' => e = .returned (.int .i64 1) ∧ Below w.heap.size w w' := by
  go_enter Try.func20, Try.ntmps20
  go_wp2_with (go_at_call 15; refine (get_nil _ _).mono ?_; rintro e w1 ⟨rfl, rfl⟩; unfold pO PV.val PV.cells PV.zero; dsimp only)
  go_ret
  exact ⟨rfl, ((Below.refl _ _).alloc (Nat.le_refl _) _).alloc (by simp) _⟩

set_option maxRecDepth 100000 in
set_option maxHeartbeats 1000000 in
theorem become_nil (k u v : Int) (w : World) : Calls Try.prog 18 #[.pointer none, .int .i64 k, .agg #[.int .i64 u, .int .i64 v]] w fun e w' => e = .returned (.int .i64 1) ∧ Below w.heap.size w w' := by
  go_enter Try.func18, Try.ntmps18
  go_wp2_with (go_at_call 15; refine (get_nil _ _).mono ?_; rintro e w1 ⟨rfl, rfl⟩; unfold pO PV.val PV.cells PV.zero; dsimp only)
  go_ret
  exact ⟨rfl, (((Below.refl _ _).alloc (Nat.le_refl _) _).alloc (by simp) _).alloc (by simp; omega) _⟩

set_option maxRecDepth 100000 in
set_option maxHeartbeats 1000000 in
theorem exit_nil (k s : Int) (w : World) : Calls Try.prog 19 #[.pointer none, .int .i64 k, .int .i64 s] w fun e w' => e = .returned (.int .i64 1) ∧ Below w.heap.size w w' := by
  go_enter Try.func19, Try.ntmps19
  go_wp2_with (go_at_call 35; refine (run_nil _ _).mono ?_; rintro e w1 ⟨rfl, hB⟩; have HB := Lib.hid ((((Below.refl w.heap.size w).alloc (Nat.le_refl _) _).alloc (by simp) _).trans (hB.mono (by simp; omega))); clear hB; unfold PV.val PV.cells PV.zero; dsimp only)
  go_ret
  exact ⟨rfl, HB.out.alloc HB.out.size _⟩

set_option maxRecDepth 100000 in
set_option maxHeartbeats 1000000 in
theorem sleep_nil (k : Int) (s : ByteArray) (w : World) : Calls Try.prog 21 #[.pointer none, .int .i64 k, .string s] w fun e w' => e = .returned (.int .i64 1) ∧ Below w.heap.size w w' := by
  go_enter Try.func21, Try.ntmps21
  go_wp2_with (go_at_call 35; refine (run_nil _ _).mono ?_; rintro e w1 ⟨rfl, hB⟩; have HB := Lib.hid (((Below.refl w.heap.size w).alloc (Nat.le_refl _) _).trans (hB.mono (by simp))); clear hB; unfold PV.val PV.cells PV.zero; dsimp only)
  go_ret
  exact ⟨rfl, HB.out.alloc HB.out.size _⟩
end Go.Proofs.Ytonllnbincgdpaa
