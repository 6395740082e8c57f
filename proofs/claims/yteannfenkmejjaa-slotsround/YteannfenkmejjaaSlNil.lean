/- Package slots: a nil Slots, walked. -/
import Derived.Test.YteannfenkmejjaaSlIterI
import Derived.Test.YteannfenkmejjaaSlotsFullOf
namespace Go.Proofs.Yteannfenkmejjaa
open Go.RowKit Go.Shelf

attribute [local go_sem] Oper.semAt_some

set_option maxRecDepth 100000 in
set_option maxHeartbeats 1000000 in
theorem use_nil_in (b : Bool) (f v : Value) (hf : ∃ F lb, f = .func (.func F) #[] lb) (hv : ∃ x l c, v = .slice x l c) (w : World) : CallsIn Fence.wide 8 Try.prog 30 #[.pointer none, .bool b, f, v] w fun e w' => e = .returned (.int .i64 1) ∧ Below w.heap.size w w' := by
  obtain ⟨F, lb, rfl⟩ := hf
  obtain ⟨x, l, c, rfl⟩ := hv
  refine callsIn_of_wp_marks Try.func30 rfl trivial ?_ rfl
  simp only [Try.ntmps30, List.size_toArray, List.length_cons, List.length_nil, Nat.reduceAdd, Nat.reduceSub, Array.replicate_succ, Array.replicate_zero, List.push_toArray, List.append_toArray, List.nil_append, List.cons_append]
  gi_wp2
  refine wpIn_scope' ?_
  gi_wp2
  rw [Exit.noGoto_ret]
  exact ⟨_, results_tmp rfl _ _ _, rfl, ((Below.refl _ w).alloc (Nat.le_refl _) _).alloc (by simp) _⟩
theorem use_nil11 (b : Bool) (f v : Value) (hf : ∃ F lb, f = .func (.func F) #[] lb) (hv : ∃ x l c, v = .slice x l c) (w : World) : Calls Try.prog 30 #[.pointer none, .bool b, f, v] w fun e w' => e = .returned (.int .i64 1) ∧ Below w.heap.size w w' := callsIn_wide.1 (use_nil_in b f v hf hv w)

set_option maxRecDepth 100000 in
set_option maxHeartbeats 1000000 in
theorem add_nil11 (x : Int) (w : World) : Calls Try.prog 13 #[.pointer none, .int .i64 x] w fun e w' => e = .returned (.tuple #[.int .i64 0, .int .i64 1]) ∧ Below w.heap.size w w' := by
  have hB : Below w.heap.size w ((w.alloc (.cells #[.int .i64 x] 3)).alloc (.cells #[.int .i64 0] 3)) := ((Below.refl _ w).alloc (Nat.le_refl _) _).alloc (by simp) _
  have HB := Lib.hid hB
  have bg := Boxed.new (w.alloc (.cells #[.int .i64 x] 3)) 3 (.int .i64 0)
  simp only [World.size_alloc] at bg
  have HG := Lib.hid bg
  clear hB bg
  go_enter Try.func13, Try.ntmps13
  go_wp2_with (go_at_call 30; refine (use_nil11 false _ _ ⟨_, _, rfl⟩ ⟨_, _, _, rfl⟩ _).mono ?_; rintro e w2 ⟨rfl, hB2⟩; have b2 := (hB2.block _ HG.out.lt).trans HG.out; have c2 := (show Boxed w2 (w.heap.size + 1) 3 (.int .i64 0) from b2).cell; have HB2 := Lib.hid (HB.out.trans (hB2.mono (by simp; omega))); clear hB2 b2)
  exact bodyPost_ret (v := .tuple #[.int .i64 0, .int .i64 1]) (by simp [results, Try.results13, go_sem]) rfl ⟨rfl, HB2.out⟩

set_option maxRecDepth 100000 in
set_option maxHeartbeats 1000000 in
theorem get_nil11 (x : Int) (w : World) : Calls Try.prog 15 #[.pointer none, .int .i64 x] w fun e w' => e = .returned (.tuple #[.int .i64 0, .int .i64 1]) ∧ Below w.heap.size w w' := by
  have hB : Below w.heap.size w ((w.alloc (.cells #[.int .i64 0] 3)).alloc (.cells #[.int .i64 x] 3)) := ((Below.refl _ w).alloc (Nat.le_refl _) _).alloc (by simp) _
  have HB := Lib.hid hB
  have bg := (Boxed.new w 3 (.int .i64 0)).alloc (.cells #[.int .i64 x] 3)
  have HG := Lib.hid bg
  clear hB bg
  go_enter Try.func15, Try.ntmps15
  go_wp2_with (go_at_call 30; refine (use_nil11 true _ _ ⟨_, _, rfl⟩ ⟨_, _, _, rfl⟩ _).mono ?_; rintro e w2 ⟨rfl, hB2⟩; have b2 := (hB2.block _ HG.out.lt).trans HG.out; have c2 := (show Boxed w2 w.heap.size 3 (.int .i64 0) from b2).cell; have HB2 := Lib.hid (HB.out.trans (hB2.mono (by simp; omega))); clear hB2 b2)
  exact bodyPost_ret (v := .tuple #[.int .i64 0, .int .i64 1]) (by simp [results, Try.results15, go_sem]) rfl ⟨rfl, HB2.out⟩

set_option maxRecDepth 100000 in
set_option maxHeartbeats 1000000 in
theorem rem_nil11 (x : Int) (w : World) : Calls Try.prog 19 #[.pointer none, .int .i64 x] w fun e w' => e = .returned (.tuple #[.int .i64 0, .int .i64 1]) ∧ Below w.heap.size w w' := by
  have hB : Below w.heap.size w ((w.alloc (.cells #[.int .i64 0] 3)).alloc (.cells #[.int .i64 x] 3)) := ((Below.refl _ w).alloc (Nat.le_refl _) _).alloc (by simp) _
  have HB := Lib.hid hB
  have bg := (Boxed.new w 3 (.int .i64 0)).alloc (.cells #[.int .i64 x] 3)
  have HG := Lib.hid bg
  clear hB bg
  go_enter Try.func19, Try.ntmps19
  go_wp2_with (go_at_call 30; refine (use_nil11 true _ _ ⟨_, _, rfl⟩ ⟨_, _, _, rfl⟩ _).mono ?_; rintro e w2 ⟨rfl, hB2⟩; have b2 := (hB2.block _ HG.out.lt).trans HG.out; have c2 := (show Boxed w2 w.heap.size 3 (.int .i64 0) from b2).cell; have HB2 := Lib.hid (HB.out.trans (hB2.mono (by simp; omega))); clear hB2 b2)
  exact bodyPost_ret (v := .tuple #[.int .i64 0, .int .i64 1]) (by simp [results, Try.results19, go_sem]) rfl ⟨rfl, HB2.out⟩

set_option maxRecDepth 100000 in
set_option maxHeartbeats 1000000 in
theorem set_nil11 (x y : Int) (w : World) : Calls Try.prog 17 #[.pointer none, .int .i64 x, .int .i64 y] w fun e w' => e = .returned (.int .i64 1) ∧ Below w.heap.size w w' := by
  have hB : Below w.heap.size w ((w.alloc (.cells #[.int .i64 y] 3)).alloc (.cells #[.int .i64 x] 3)) := ((Below.refl _ w).alloc (Nat.le_refl _) _).alloc (by simp) _
  have HB := Lib.hid hB
  clear hB
  go_enter Try.func17, Try.ntmps17
  go_wp2_with (go_at_call 30; refine (use_nil11 true _ _ ⟨_, _, rfl⟩ ⟨_, _, _, rfl⟩ _).mono ?_; rintro e w2 ⟨rfl, hB2⟩; have HB2 := Lib.hid (HB.out.trans (hB2.mono (by simp; omega))); clear hB2)
  go_ret
  exact ⟨rfl, HB2.out⟩

set_option maxRecDepth 100000 in
set_option maxHeartbeats 1000000 in
theorem numbered1_nil (n l Ba Bb : Nat) (W : World) (ba : Boxed W Ba 24 (.pointer none)) :
    CallsIn Fence.wide n Try.prog 45 #[.func (.yield l) #[] #[], .pointer (some ⟨Ba, 0, none⟩), .pointer (some ⟨Bb, 0, none⟩)] W fun e W' => (∃ v, e = .returned v) ∧ W' = W := by
  refine callsIn_of_wp Try.func45 rfl trivial ?_ rfl
  simp only [Try.ntmps45, List.size_toArray, List.length_cons, List.length_nil, Nat.reduceAdd, Nat.reduceSub, Array.replicate_succ, Array.replicate_zero, List.push_toArray, List.append_toArray, List.nil_append, List.cons_append]
  have c0 := ba.cell
  gi_wp2
  refine bodyPost_ret (results_none rfl _ _ _) rfl ?_
  exact ⟨⟨_, rfl⟩, rfl⟩

theorem nil_stops (n : Nat) (Ba Bb : Nat) (w : World) (ba : Boxed w Ba 24 (.pointer none)) :
    SeqStopsK Fence.wide n Try.prog 45 #[.pointer (some ⟨Ba, 0, none⟩), .pointer (some ⟨Bb, 0, none⟩)] (fun _ : Unit => #[.int .i64 0, .pointer none]) (fun _ _ => True) (fun ys => ys = []) (fun _ => False) 0 w := fun l J Jx W hb hJ _ hY h0 => by
  refine (numbered1_nil n l Ba Bb W ((hb.block Ba ba.lt).trans ba)).mono ?_
  rintro e W' ⟨hv, rfl⟩
  exact ⟨hv, .inl ⟨[], rfl, h0⟩⟩

set_option maxRecDepth 100000 in
set_option maxHeartbeats 1000000 in
theorem ids_nil_in (w : World) : CallsIn Fence.wide 8 Try.prog 22 #[.pointer none] w fun e w' => e = .returned (.slice none 0 0) ∧ Below w.heap.size w w' := by
  refine callsIn_of_wp_marks Try.func22 rfl trivial ?_ rfl
  simp only [Try.ntmps22, List.size_toArray, List.length_cons, List.length_nil, Nat.reduceAdd, Nat.reduceSub, Array.replicate_succ, Array.replicate_zero, List.push_toArray, List.append_toArray, List.nil_append, List.cons_append]
  gi_wp2_with (refine ⟨trivial, ?_⟩; gi_at_call 37; refine (numbered_inI _ _ _ ⟨_, rfl⟩ ⟨_, _, _, rfl⟩ _).mono ?_; rintro e w' ⟨rfl, rfl⟩)
  have bL := ((Boxed.new w 34 (.slice none 0 0)).alloc (.cells #[.pointer none] 24)).alloc (.cells #[.slice none 0 0] 34)
  have bS := (Boxed.new (w.alloc (.cells #[.slice none 0 0] 34)) 24 (.pointer none)).alloc (.cells #[.slice none 0 0] 34)
  have hB0 : Below w.heap.size w (((w.alloc (.cells #[.slice none 0 0] 34)).alloc (.cells #[.pointer none] 24)).alloc (.cells #[.slice none 0 0] 34)) := (((Below.refl _ w).alloc (Nat.le_refl _) _).alloc (by simp) _).alloc (by simp; omega) _
  have hsz : (((w.alloc (.cells #[.slice none 0 0] 34)).alloc (.cells #[.pointer none] 24)).alloc (.cells #[.slice none 0 0] 34)).heap.size = w.heap.size + 1 + 1 + 1 := by simp
  simp only [World.size_alloc] at bS
  generalize (((w.alloc (.cells #[.slice none 0 0] 34)).alloc (.cells #[.pointer none] 24)).alloc (.cells #[.slice none 0 0] 34)) = W0 at *
  refine wpIn_rangeFunc_ownG (F := Fence.wide) (n := 8) rfl (by omega) (gf := 45) (lb := #[.pointer (some ⟨w.heap.size + 1, 0, none⟩), .pointer (some ⟨w.heap.size + 1 + 1, 0, none⟩)]) rfl trivial (enters_of Try.func45 (by kernel_rfl) rfl)
    (nil_stops 7 (w.heap.size + 1) (w.heap.size + 1 + 1) W0 bS) (fun _ _ => trivial) (fun _ _ _ _ _ _ _ _ => trivial) (Below.refl _ _) (fun _ => rfl)
    (fun _ W => Boxed W w.heap.size 34 (.slice none 0 0) ∧ Below w.heap.size w W)
    (fun _ _ _ => False)
    (OwnFrom.and (Own.from (fun s A B row hs hg hr => boxed_keep7 hs hg hr) _) (ownFrom_below (Nat.le_refl _) (by omega)))
    (fun _ _ _ _ _ hs _ _ => hs)
    ⟨bL, hB0⟩
    (fun _ => { tmps := #[.pointer none, undef, .slice none 0 0, .pointer (some ⟨w.heap.size, 0, none⟩), .int .i64 0, .pointer none, .pointer none, .func (.func 45) #[] #[.pointer (some ⟨w.heap.size + 1, 0, none⟩), .pointer (some ⟨w.heap.size + 1 + 1, 0, none⟩)], .int .i64 0, .pointer none, undef, undef, undef, undef, undef, undef, undef, undef, undef], defers := [] }) ?assign ?body ?done ?stop
  case assign =>
    intro l y W K hK
    gi_wp2
    exact hK
  case body =>
    rintro l pre y W _ hlen
    omega
  case done =>
    rintro D ys W hD hys ⟨bL1, hB⟩ hK
    have c0 := bL1.cell
    clear hys
    gi_wp2
    refine ⟨by simp, .inl ⟨_, _, rfl, run_takeDeferred hK, ?_⟩⟩
    exact ⟨_, results_tmp rfl _ _ _, rfl, below_put7 hB (by omega)⟩
  case stop =>
    rintro D c pre W _ _ h _
    exact h.elim

theorem nil11 (W0 : World) : Nil11 W0 where
  add W x _ := add_nil11 x W
  get W x _ := get_nil11 x W
  rem W x _ := rem_nil11 x W
  set W x y _ := set_nil11 x y W
  ids W _ := by
    refine (callsIn_wide.1 (ids_nil_in W)).mono ?_
    rintro e w' ⟨rfl, hb⟩
    exact ⟨⟨_, _, rfl⟩, hb⟩
end Go.Proofs.Yteannfenkmejjaa
