/- Package slots, of int: Add, Get, Set, Remove, walked. -/
import Derived.Test.YteannfenkmejjaaSlUseI
import Derived.Test.YteannfenkmejjaaSlDoI
namespace Go.Proofs.Yteannfenkmejjaa
open Go.RowKit

theorem free_findI (L : SlT Int) : (List.range 8).find? (fun i => true && (hasS L i == false)) = freeS L := by
  unfold freeS
  congr 1
  funext i
  cases hasS L i <;> rfl
theorem at_findI (L : SlT Int) (id : Int) : (List.range 8).find? (fun i => (idS i (seqS L i) == id) && (hasS L i == true)) = atS L id := by
  unfold atS
  congr 1
  funext i
  cases hasS L i <;> cases (idS i (seqS L i) == id) <;> rfl

section
variable {w : World} {p : Nat} {L : SlT Int}

theorem use_freeI (h : MemI w p L) (F : Nat) (lb : Array Value) (X : Nat → List (Nat × Obj)) (hX : ∀ i, ∀ y ∈ X i, y.1 < w.heap.size)
    (hent : ∀ args w, (callFunc F args).run Try.prog w = .ok (.enter F args) w)
    (hD : ∀ i, i < 8 → hasS L i = false → ∀ W, Below w.heap.size w W → Calls Try.prog F (#[.int .i64 (idS i (seqS L i)), .pointer (some ⟨p, i * 3, none⟩)] ++ lb) W fun e W' => e = .returned (.tuple #[]) ∧ Pat (X i) W W') :
    Calls Try.prog 30 #[.pointer (some ⟨p, 0, none⟩), .bool false, .func (.func F) #[] lb, .slice none 0 0] w fun e w' => e = .returned (.int .i64 (addE L)) ∧ Pat (useX X (freeS L)) w w' := by
  have hu := callsIn_wide.1 (use_inI h false F lb X (.slice none 0 0) p (fun _ => true) (.inl ⟨rfl, fun _ => rfl⟩) h.lt hX hent hD)
  rw [free_findI] at hu
  refine hu.mono ?_
  rintro e w' ⟨rfl, hp⟩
  refine ⟨?_, hp⟩
  unfold addE useE
  cases freeS L <;> rfl
theorem use_atI (h : MemI w p L) (id : Int) (x : Nat) (hc : w.cell? ⟨x, 0, none⟩ = some (.int .i64 id)) (hx : x < w.heap.size) (F : Nat) (lb : Array Value) (X : Nat → List (Nat × Obj)) (hX : ∀ i, ∀ y ∈ X i, y.1 < w.heap.size)
    (hent : ∀ args w, (callFunc F args).run Try.prog w = .ok (.enter F args) w)
    (hD : ∀ i, i < 8 → hasS L i = true → ∀ W, Below w.heap.size w W → Calls Try.prog F (#[.int .i64 (idS i (seqS L i)), .pointer (some ⟨p, i * 3, none⟩)] ++ lb) W fun e W' => e = .returned (.tuple #[]) ∧ Pat (X i) W W') :
    Calls Try.prog 30 #[.pointer (some ⟨p, 0, none⟩), .bool true, .func (.func F) #[] lb, .slice (some ⟨x, 0, none⟩) 1 1] w fun e w' => e = .returned (.int .i64 (getE L id)) ∧ Pat (useX X (atS L id)) w w' := by
  have hu := callsIn_wide.1 (use_inI h true F lb X (.slice (some ⟨x, 0, none⟩) 1 1) x (fun i => idS i (seqS L i) == id) (.inr ⟨id, rfl, hc, fun _ => rfl⟩) hx hX hent hD)
  rw [at_findI] at hu
  refine hu.mono ?_
  rintro e w' ⟨rfl, hp⟩
  refine ⟨?_, hp⟩
  unfold getE useE
  cases atS L id <;> rfl

theorem Try.enterAddI (args : Array Value) (w : World) : (callFunc 31 args).run Try.prog w = .ok (.enter 31 args) w := by
  simp [callFunc, Try.func31, Try.f31]
theorem Try.enterGetI (args : Array Value) (w : World) : (callFunc 32 args).run Try.prog w = .ok (.enter 32 args) w := by
  simp [callFunc, Try.func32, Try.f32]
theorem Try.enterSetI (args : Array Value) (w : World) : (callFunc 34 args).run Try.prog w = .ok (.enter 34 args) w := by
  simp [callFunc, Try.func34, Try.f34]
theorem Try.enterRemI (args : Array Value) (w : World) : (callFunc 35 args).run Try.prog w = .ok (.enter 35 args) w := by
  simp [callFunc, Try.func35, Try.f35]

set_option maxRecDepth 100000 in
set_option maxHeartbeats 1000000 in
theorem add_I (h : MemI w p L) (v : Int) : Calls Try.prog 13 #[.pointer (some ⟨p, 0, none⟩), (.int .i64 v)] w fun e w' => e = .returned (.tuple #[.int .i64 (addN L), .int .i64 (addE L)]) ∧ MemI w' p (addL L v) ∧ MvS (fun k => k = p) (fun k => k = p) w w' := by
  have HM := Lib.hid h
  have hpl := h.lt
  have hB : Below w.heap.size w ((w.alloc (.cells #[(.int .i64 v)] 3)).alloc (.cells #[.int .i64 0] 3)) := ((Below.refl _ w).alloc (Nat.le_refl _) _).alloc (by simp) _
  have bv := (Boxed.new w 3 (.int .i64 v)).alloc (.cells #[.int .i64 0] 3)
  have bg := Boxed.new (w.alloc (.cells #[(.int .i64 v)] 3)) 3 (.int .i64 0)
  have hsz : ((w.alloc (.cells #[(.int .i64 v)] 3)).alloc (.cells #[.int .i64 0] 3)).heap.size = w.heap.size + 1 + 1 := by simp
  simp only [World.size_alloc] at bg
  have hM1 := h.below hB
  have HB := Lib.hid hB
  clear h
  have hu : Calls Try.prog 30 #[.pointer (some ⟨p, 0, none⟩), .bool false, .func (.func 31) #[] #[.pointer (some ⟨w.heap.size, 0, none⟩), .pointer (some ⟨w.heap.size + 1, 0, none⟩)], .slice none 0 0] ((w.alloc (.cells #[(.int .i64 v)] 3)).alloc (.cells #[.int .i64 0] 3)) fun e w' => e = .returned (.int .i64 (addE L)) ∧ Boxed w' (w.heap.size + 1) 3 (.int .i64 (addN L)) ∧ MemI w' p (addL L v) ∧ MvS (fun k => k = p) (fun k => k = p) w w' := by
    generalize ((w.alloc (.cells #[(.int .i64 v)] 3)).alloc (.cells #[.int .i64 0] 3)) = W1 at *
    refine (use_freeI hM1 31 #[.pointer (some ⟨w.heap.size, 0, none⟩), .pointer (some ⟨w.heap.size + 1, 0, none⟩)] (fun i => [(p, objI (L.set i (some v, seqS L i))), (w.heap.size + 1, .cells #[.int .i64 (idS i (seqS L i))] 3)]) (fun i y hy => by simp at hy; rcases hy with rfl | rfl <;> simp <;> omega) Try.enterAddI
      (fun i hi hh W hb => add1_I (hM1.below hb) hi v _ w.heap.size (w.heap.size + 1) (.int .i64 0) ((hb.cell (p := ⟨w.heap.size, 0, none⟩) (by simp; omega)).trans bv.cell) ((hb.block _ (by omega)).trans bg) (by omega) (by omega))).mono ?_
    rintro e w' ⟨rfl, hP⟩
    refine ⟨rfl, ?_⟩
    cases hf : freeS L with
    | none =>
      rw [hf] at hP
      have hb := Pat.below hP
      have e1 : addN L = 0 := by unfold addN; rw [hf]
      have e2 : addL L v = L := by unfold addL; rw [hf]
      rw [e1, e2]
      exact ⟨(hb.block _ (by omega)).trans bg, hM1.below hb, Pat.mv hB hP (fun y hy => by cases hy)⟩
    | some i =>
      rw [hf] at hP
      have hi := (freeS_some hf).1
      have e1 : addN L = idS i (seqS L i) := by unfold addN; rw [hf]
      have e2 : addL L v = L.set i (some v, seqS L i) := by unfold addL; rw [hf]
      rw [e1, e2]
      exact ⟨hP.new (w.heap.size + 1, _) (by simp [useX]), ⟨hM1.ok.set _ (hM1.ok.seq i) hi, ⟨hP.new (p, objI (L.set i (some v, seqS L i))) (by simp [useX])⟩⟩, Pat.mv hB hP (fun y hy => by simp [useX] at hy; rcases hy with rfl | rfl; exact .inl rfl; exact .inr (by simp))⟩
  have HU := Lib.hid hu
  clear hu hM1 bv bg hB hsz
  go_enter Try.func13, Try.ntmps13
  go_wp2_with fail
  refine HU.out.mono ?_
  rintro e w2 ⟨rfl, b2, hM2, hV⟩
  have c2 := b2.cell
  have HM2 := Lib.hid hM2; have HV := Lib.hid hV
  clear b2 hM2 hV
  go_wp2
  exact bodyPost_ret (v := .tuple #[.int .i64 (addN L), .int .i64 (addE L)]) (by simp [results, Try.results13, go_sem]) rfl ⟨rfl, HM2.out, HV.out⟩

set_option maxRecDepth 100000 in
set_option maxHeartbeats 1000000 in
theorem get_I (h : MemI w p L) (id : Int) : Calls Try.prog 15 #[.pointer (some ⟨p, 0, none⟩), .int .i64 id] w fun e w' => e = .returned (.tuple #[encI (getV (0 : Int) L id), .int .i64 (getE L id)]) ∧ Below w.heap.size w w' := by
  have HM := Lib.hid h
  have hpl := h.lt
  have hB : Below w.heap.size w ((w.alloc (.cells #[(.int .i64 0)] 3)).alloc (.cells #[.int .i64 id] 3)) := ((Below.refl _ w).alloc (Nat.le_refl _) _).alloc (by simp) _
  have bv := (Boxed.new w 3 (.int .i64 0)).alloc (.cells #[.int .i64 id] 3)
  have bg := Boxed.new (w.alloc (.cells #[(.int .i64 0)] 3)) 3 (.int .i64 id)
  have hsz : ((w.alloc (.cells #[(.int .i64 0)] 3)).alloc (.cells #[.int .i64 id] 3)).heap.size = w.heap.size + 1 + 1 := by simp
  simp only [World.size_alloc] at bg
  have hM1 := h.below hB
  have HB := Lib.hid hB
  clear h
  have hu : Calls Try.prog 30 #[.pointer (some ⟨p, 0, none⟩), .bool true, .func (.func 32) #[] #[.pointer (some ⟨w.heap.size, 0, none⟩)], .slice (some ⟨w.heap.size + 1, 0, none⟩) 1 1] ((w.alloc (.cells #[(.int .i64 0)] 3)).alloc (.cells #[.int .i64 id] 3)) fun e w' => e = .returned (.int .i64 (getE L id)) ∧ Boxed w' w.heap.size 3 (encI (getV (0 : Int) L id)) ∧ Below w.heap.size w w' := by
    generalize ((w.alloc (.cells #[(.int .i64 0)] 3)).alloc (.cells #[.int .i64 id] 3)) = W1 at *
    refine (use_atI hM1 id (w.heap.size + 1) bg.cell (by omega) 32 #[.pointer (some ⟨w.heap.size, 0, none⟩)] (fun i => [(w.heap.size, .cells #[encI ((valS L i).getD (0 : Int))] 3)]) (fun i y hy => by simp at hy; subst hy; simp; omega) Try.enterGetI
      (fun i hi hh W hb => get1_I (hM1.below hb) hi _ w.heap.size (.int .i64 0) ((hb.block _ (by omega)).trans bv))).mono ?_
    rintro e w' ⟨rfl, hP⟩
    refine ⟨rfl, ?_⟩
    cases hf : atS L id with
    | none =>
      rw [hf] at hP
      have hb := Pat.below hP
      have e1 : getV (0 : Int) L id = (0 : Int) := by unfold getV; rw [hf]
      rw [e1]
      exact ⟨(hb.block _ (by omega)).trans bv, Pat.lo hB hP (fun y hy => by cases hy)⟩
    | some i =>
      rw [hf] at hP
      have e1 : getV (0 : Int) L id = (valS L i).getD (0 : Int) := by unfold getV; rw [hf]
      rw [e1]
      exact ⟨hP.new (w.heap.size, _) (by simp [useX]), Pat.lo hB hP (fun y hy => by simp [useX] at hy; subst hy; exact Nat.le_refl _)⟩
  have HU := Lib.hid hu
  clear hu hM1 bv bg hB hsz
  generalize getV (0 : Int) L id = g at *
  unfold encI at *
  go_enter Try.func15, Try.ntmps15
  go_wp2_with fail
  refine HU.out.mono ?_
  rintro e w2 ⟨rfl, b2, hV⟩
  have c2 := b2.cell
  have HV := Lib.hid hV
  clear b2 hV
  go_wp2
  exact bodyPost_ret (v := .tuple #[(.int .i64 g), .int .i64 (getE L id)]) (by simp [results, Try.results15, go_sem]) rfl ⟨rfl, HV.out⟩

set_option maxRecDepth 100000 in
set_option maxHeartbeats 1000000 in
theorem set_I (h : MemI w p L) (id : Int) (v : Int) : Calls Try.prog 17 #[.pointer (some ⟨p, 0, none⟩), .int .i64 id, (.int .i64 v)] w fun e w' => e = .returned (.int .i64 (getE L id)) ∧ MemI w' p (setL L id v) ∧ MvS (fun k => k = p) (fun k => k = p) w w' := by
  have HM := Lib.hid h
  have hpl := h.lt
  have hB : Below w.heap.size w ((w.alloc (.cells #[(.int .i64 v)] 3)).alloc (.cells #[.int .i64 id] 3)) := ((Below.refl _ w).alloc (Nat.le_refl _) _).alloc (by simp) _
  have bv := (Boxed.new w 3 (.int .i64 v)).alloc (.cells #[.int .i64 id] 3)
  have bg := Boxed.new (w.alloc (.cells #[(.int .i64 v)] 3)) 3 (.int .i64 id)
  have hsz : ((w.alloc (.cells #[(.int .i64 v)] 3)).alloc (.cells #[.int .i64 id] 3)).heap.size = w.heap.size + 1 + 1 := by simp
  simp only [World.size_alloc] at bg
  have hM1 := h.below hB
  have HB := Lib.hid hB
  clear h
  have hu : Calls Try.prog 30 #[.pointer (some ⟨p, 0, none⟩), .bool true, .func (.func 34) #[] #[.pointer (some ⟨w.heap.size, 0, none⟩)], .slice (some ⟨w.heap.size + 1, 0, none⟩) 1 1] ((w.alloc (.cells #[(.int .i64 v)] 3)).alloc (.cells #[.int .i64 id] 3)) fun e w' => e = .returned (.int .i64 (getE L id)) ∧ MemI w' p (setL L id v) ∧ MvS (fun k => k = p) (fun k => k = p) w w' := by
    generalize ((w.alloc (.cells #[(.int .i64 v)] 3)).alloc (.cells #[.int .i64 id] 3)) = W1 at *
    refine (use_atI hM1 id (w.heap.size + 1) bg.cell (by omega) 34 #[.pointer (some ⟨w.heap.size, 0, none⟩)] (fun i => [(p, objI (L.set i (some v, seqS L i)))]) (fun i y hy => by simp at hy; subst hy; simp; omega) Try.enterSetI
      (fun i hi hh W hb => set1_I (hM1.below hb) hi hh v _ w.heap.size ((hb.cell (p := ⟨w.heap.size, 0, none⟩) (by simp; omega)).trans bv.cell))).mono ?_
    rintro e w' ⟨rfl, hP⟩
    refine ⟨rfl, ?_⟩
    cases hf : atS L id with
    | none =>
      rw [hf] at hP
      have hb := Pat.below hP
      have e1 : setL L id v = L := by unfold setL; rw [hf]
      rw [e1]
      exact ⟨hM1.below hb, Pat.mv hB hP (fun y hy => by cases hy)⟩
    | some i =>
      rw [hf] at hP
      have hi := (atS_some hf).1
      have e1 : setL L id v = L.set i (some v, seqS L i) := by unfold setL; rw [hf]
      rw [e1]
      exact ⟨⟨hM1.ok.set _ (hM1.ok.seq i) hi, ⟨hP.new (p, objI (L.set i (some v, seqS L i))) (by simp [useX])⟩⟩, Pat.mv hB hP (fun y hy => by simp [useX] at hy; subst hy; exact .inl rfl)⟩
  have HU := Lib.hid hu
  clear hu hM1 bv bg hB hsz
  go_enter Try.func17, Try.ntmps17
  go_wp2_with fail
  refine HU.out.mono ?_
  rintro e w2 ⟨rfl, hM2, hV⟩
  have HM2 := Lib.hid hM2; have HV := Lib.hid hV
  clear hM2 hV
  go_wp2
  go_ret
  exact ⟨rfl, HM2.out, HV.out⟩

set_option maxRecDepth 100000 in
set_option maxHeartbeats 1000000 in
theorem rem_I (h : MemI w p L) (id : Int) : Calls Try.prog 19 #[.pointer (some ⟨p, 0, none⟩), .int .i64 id] w fun e w' => e = .returned (.tuple #[encI (getV (0 : Int) L id), .int .i64 (getE L id)]) ∧ MemI w' p (remL L id) ∧ MvS (fun k => k = p) (fun k => k = p) w w' := by
  have HM := Lib.hid h
  have hpl := h.lt
  have hB : Below w.heap.size w ((w.alloc (.cells #[(.int .i64 0)] 3)).alloc (.cells #[.int .i64 id] 3)) := ((Below.refl _ w).alloc (Nat.le_refl _) _).alloc (by simp) _
  have bv := (Boxed.new w 3 (.int .i64 0)).alloc (.cells #[.int .i64 id] 3)
  have bg := Boxed.new (w.alloc (.cells #[(.int .i64 0)] 3)) 3 (.int .i64 id)
  have hsz : ((w.alloc (.cells #[(.int .i64 0)] 3)).alloc (.cells #[.int .i64 id] 3)).heap.size = w.heap.size + 1 + 1 := by simp
  simp only [World.size_alloc] at bg
  have hM1 := h.below hB
  have HB := Lib.hid hB
  clear h
  have hu : Calls Try.prog 30 #[.pointer (some ⟨p, 0, none⟩), .bool true, .func (.func 35) #[] #[.pointer (some ⟨w.heap.size, 0, none⟩)], .slice (some ⟨w.heap.size + 1, 0, none⟩) 1 1] ((w.alloc (.cells #[(.int .i64 0)] 3)).alloc (.cells #[.int .i64 id] 3)) fun e w' => e = .returned (.int .i64 (getE L id)) ∧ Boxed w' w.heap.size 3 (encI (getV (0 : Int) L id)) ∧ MemI w' p (remL L id) ∧ MvS (fun k => k = p) (fun k => k = p) w w' := by
    generalize ((w.alloc (.cells #[(.int .i64 0)] 3)).alloc (.cells #[.int .i64 id] 3)) = W1 at *
    refine (use_atI hM1 id (w.heap.size + 1) bg.cell (by omega) 35 #[.pointer (some ⟨w.heap.size, 0, none⟩)] (fun i => [(p, objI (L.set i (none, (seqS L i + 1) % 4096))), (w.heap.size, .cells #[encI ((valS L i).getD (0 : Int))] 3)]) (fun i y hy => by simp at hy; rcases hy with rfl | rfl <;> simp <;> omega) Try.enterRemI
      (fun i hi hh W hb => rem1_I (hM1.below hb) hi _ w.heap.size (.int .i64 0) ((hb.block _ (by omega)).trans bv) (by omega))).mono ?_
    rintro e w' ⟨rfl, hP⟩
    refine ⟨rfl, ?_⟩
    cases hf : atS L id with
    | none =>
      rw [hf] at hP
      have hb := Pat.below hP
      have e1 : getV (0 : Int) L id = (0 : Int) := by unfold getV; rw [hf]
      have e2 : remL L id = L := by unfold remL; rw [hf]
      rw [e1, e2]
      exact ⟨(hb.block _ (by omega)).trans bv, hM1.below hb, Pat.mv hB hP (fun y hy => by cases hy)⟩
    | some i =>
      rw [hf] at hP
      have hi := (atS_some hf).1
      have e1 : getV (0 : Int) L id = (valS L i).getD (0 : Int) := by unfold getV; rw [hf]
      have e2 : remL L id = L.set i (none, (seqS L i + 1) % 4096) := by unfold remL; rw [hf]
      rw [e1, e2]
      exact ⟨hP.new (w.heap.size, _) (by simp [useX]), ⟨hM1.ok.set _ (Nat.mod_lt _ (by omega)) hi, ⟨hP.new (p, objI (L.set i (none, (seqS L i + 1) % 4096))) (by simp [useX])⟩⟩, Pat.mv hB hP (fun y hy => by simp [useX] at hy; rcases hy with rfl | rfl; exact .inl rfl; exact .inr (Nat.le_refl _))⟩
  have HU := Lib.hid hu
  clear hu hM1 bv bg hB hsz
  generalize getV (0 : Int) L id = g at *
  unfold encI at *
  go_enter Try.func19, Try.ntmps19
  go_wp2_with fail
  refine HU.out.mono ?_
  rintro e w2 ⟨rfl, b2, hM2, hV⟩
  have c2 := b2.cell
  have HM2 := Lib.hid hM2; have HV := Lib.hid hV
  clear b2 hM2 hV
  go_wp2
  exact bodyPost_ret (v := .tuple #[(.int .i64 g), .int .i64 (getE L id)]) (by simp [results, Try.results19, go_sem]) rfl ⟨rfl, HM2.out, HV.out⟩
end
end Go.Proofs.Yteannfenkmejjaa
