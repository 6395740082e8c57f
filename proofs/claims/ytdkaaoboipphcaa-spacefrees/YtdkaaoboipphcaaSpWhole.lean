/- Package space: whole, where what is to be done can be done, walked. -/
import Derived.Test.YtdkaaoboipphcaaSpAdd
import Derived.Defers
import Derived.Recover
namespace Go.Proofs.Ytdkaaoboipphcaa
open Go.RowKit Go.Shelf

set_option maxRecDepth 100000 in
set_option maxHeartbeats 1000000 in
theorem whole1_ok (be bs bw : Nat) (w : World) (hc : w.cell? ⟨be, 0, none⟩ = some (.int .i64 0)) :
    CallsD Try.prog 32 #[.pointer (some ⟨be, 0, none⟩), .pointer (some ⟨bs, 0, none⟩), .pointer (some ⟨bw, 0, none⟩)] .returning w fun e u' w' => u' = .returning ∧ (e = .returned (.tuple #[]) ∧ w' = w) := by
  go_enter_d Try.func32, Try.ntmps32
  go_wp2
  refine bodyPost_ret (results_none rfl _ _ _) rfl ?_
  exact ⟨rfl, rfl⟩

/-- what whole reads at its end: the box of the space at work, the error, the space. -/
structure WS (b pw : Nat) (r t d h : Int) (a : Option Addr) (len cap : Nat) (w' : World) : Prop where
  bw : w'.cell? ⟨b, 0, none⟩ = some (.pointer (some ⟨pw, 0, none⟩))
  be : w'.cell? ⟨b + 1 + 1, 0, none⟩ = some (.int .i64 0)
  c1 : w'.cell? ⟨pw, 1, none⟩ = some (.int .i64 r)
  c2 : w'.cell? ⟨pw, 2, none⟩ = some (.int .i64 t)
  c3 : w'.cell? ⟨pw, 3, none⟩ = some (.int .i64 d)
  c4 : w'.cell? ⟨pw, 4, none⟩ = some (.int .i64 h)
  c5 : w'.cell? ⟨pw, 5, none⟩ = some (.slice a len cap)
theorem cell_far {W : World} {b c o o' : Nat} {v u : Value} (h : W.cell? ⟨b, o, none⟩ = some u) (hne : b ≠ c) : (W.setCell ⟨c, o', none⟩ v).cell? ⟨b, o, none⟩ = some u :=
  (World.cell?_of_block (a := ⟨b, o, none⟩) (heap_setCell_other _ _ _ _ hne)).trans h
section
variable {b pw : Nat} {r t d h : Int} {a : Option Addr} {len cap : Nat} {W : World}
theorem WS.set (h1 : WS b pw r t d h a len cap W) (hp : pw < b) (o : Nat) (v : Value) : WS b pw r t d h a len cap (W.setCell ⟨b + 1, o, none⟩ v) :=
  ⟨cell_far h1.bw (by omega), cell_far h1.be (by omega), cell_far h1.c1 (by omega), cell_far h1.c2 (by omega), cell_far h1.c3 (by omega), cell_far h1.c4 (by omega), cell_far h1.c5 (by omega)⟩
theorem WS.sete (h1 : WS b pw r t d h a len cap W) (hp : pw < b) : WS b pw r t d h a len cap (W.setCell ⟨b + 1 + 1, 0, none⟩ (.int .i64 0)) :=
  ⟨cell_far h1.bw (by omega), World.cell?_setCell_same' _ _ _ (by rw [h1.be]; rfl), cell_far h1.c1 (by omega), cell_far h1.c2 (by omega), cell_far h1.c3 (by omega), cell_far h1.c4 (by omega), cell_far h1.c5 (by omega)⟩
theorem cell_drew (W : World) (x : Addr) : W.drew.cell? x = W.cell? x := rfl
theorem WS.drew (h1 : WS b pw r t d h a len cap W) : WS b pw r t d h a len cap W.drew :=
  ⟨(cell_drew _ _).trans h1.bw, (cell_drew _ _).trans h1.be, (cell_drew _ _).trans h1.c1, (cell_drew _ _).trans h1.c2, (cell_drew _ _).trans h1.c3, (cell_drew _ _).trans h1.c4, (cell_drew _ _).trans h1.c5⟩
end

section
variable {w : World} {pw p : Nat} {r t d h : Int}

set_option maxRecDepth 100000 in
set_option maxHeartbeats 4000000 in
theorem whole_ok (F : Nat) (lb : Array Value) (hent : ∀ args w, (callFunc F args).run Try.prog w = .ok (.enter F args) w) (hpw : pw < w.heap.size) (X : World → Option Addr → Nat → Nat → Prop)
    (hdo : Calls Try.prog F lb (((w.alloc (.cells #[.pointer (some ⟨pw, 0, none⟩)] 57)).alloc (.cells #[.int .i64 0, .int .i64 0, .int .i64 0, .int .i64 0, .slice none 0 0] 32)).alloc (.cells #[.int .i64 0] 25)) fun e w' =>
      e = .returned (.int .i64 0) ∧ (∃ a len cap, (∃ vU k us, WorkAt w' pw p r t d h (.slice a len cap) vU k us) ∧ X w' a len cap) ∧
        ∀ c, w.heap.size ≤ c → c ≤ w.heap.size + 2 → w'.heap[c]? = (((w.alloc (.cells #[.pointer (some ⟨pw, 0, none⟩)] 57)).alloc (.cells #[.int .i64 0, .int .i64 0, .int .i64 0, .int .i64 0, .slice none 0 0] 32)).alloc (.cells #[.int .i64 0] 25)).heap[c]?)
    (hX : ∀ W a len cap c o v, X W a len cap → (c = w.heap.size + 1 ∨ c = w.heap.size + 2) → X (W.setCell ⟨c, o, none⟩ v) a len cap) (hXd : ∀ W a len cap, X W a len cap → X W.drew a len cap) :
    Calls Try.prog 20 #[.pointer (some ⟨pw, 0, none⟩), .func (.func F) #[] lb] w fun e w' => ∃ a len cap, e = .returned (.tuple #[.agg #[.int .i64 r, .int .i64 t, .int .i64 d, .int .i64 h, .slice a len cap], .int .i64 0]) ∧ X w' a len cap := by
  have hmf : ∀ (fn : Fn) (first cap : Array Value) (w : World), (Instr.makeFunc fn first cap).run Try.prog w = .ok (.func fn first cap) w := fun _ _ _ _ => rfl
  have HDO := Lib.hid hdo; have HX := Lib.hid hX; have HXD := Lib.hid hXd; have HPW := Lib.hid (⟨trivial, hpw⟩ : True ∧ pw < w.heap.size)
  have he := hent lb
  have bW := ((Boxed.new w 57 (.pointer (some ⟨pw, 0, none⟩))).alloc (.cells #[.int .i64 0, .int .i64 0, .int .i64 0, .int .i64 0, .slice none 0 0] 32)).alloc (.cells #[.int .i64 0] 25)
  have bE := Boxed.new ((w.alloc (.cells #[.pointer (some ⟨pw, 0, none⟩)] 57)).alloc (.cells #[.int .i64 0, .int .i64 0, .int .i64 0, .int .i64 0, .slice none 0 0] 32)) 25 (.int .i64 0)
  have bS : (((w.alloc (.cells #[.pointer (some ⟨pw, 0, none⟩)] 57)).alloc (.cells #[.int .i64 0, .int .i64 0, .int .i64 0, .int .i64 0, .slice none 0 0] 32)).alloc (.cells #[.int .i64 0] 25)).heap[w.heap.size + 1]? = some (.cells #[.int .i64 0, .int .i64 0, .int .i64 0, .int .i64 0, .slice none 0 0] 32 (0, 0)) := by
    have h1 := heap_alloc_new (w.alloc (.cells #[.pointer (some ⟨pw, 0, none⟩)] 57)) (.cells #[.int .i64 0, .int .i64 0, .int .i64 0, .int .i64 0, .slice none 0 0] 32)
    rw [World.size_alloc] at h1
    exact (Below.heap_alloc _ _ _ (by simp)).trans h1
  rw [World.size_alloc, World.size_alloc] at bE
  clear hdo hX hXd hent
  go_enter_defers Try.func20, Try.ntmps20
  go_wp2_with fail
  generalize (((w.alloc (.cells #[.pointer (some ⟨pw, 0, none⟩)] 57)).alloc (.cells #[.int .i64 0, .int .i64 0, .int .i64 0, .int .i64 0, .slice none 0 0] 32)).alloc (.cells #[.int .i64 0] 25)) = W1 at *
  refine HDO.out.mono ?_
  rintro e w2 ⟨rfl, ⟨a, len, cap, ⟨vU, k, us, hW2⟩, hX2⟩, hG2⟩
  have hn := HPW.out
  have bW2 : Boxed w2 w.heap.size 57 (.pointer (some ⟨pw, 0, none⟩)) := (hG2 _ (by omega) (by omega)).trans bW
  have bE2 : Boxed w2 (w.heap.size + 1 + 1) 25 (.int .i64 0) := (hG2 _ (by omega) (by omega)).trans bE
  have bS2 : w2.heap[w.heap.size + 1]? = some (.cells #[.int .i64 0, .int .i64 0, .int .i64 0, .int .i64 0, .slice none 0 0] 32 (0, 0)) := (hG2 _ (by omega) (by omega)).trans bS
  have bS3 : (w2.setCell ⟨w.heap.size + 1 + 1, 0, none⟩ (.int .i64 0)).heap[w.heap.size + 1]? = _ := (heap_setCell_other _ _ _ _ (show w.heap.size + 1 ≠ w.heap.size + 1 + 1 by omega)).trans bS2
  have bW3 : Boxed (w2.setCell ⟨w.heap.size + 1 + 1, 0, none⟩ (.int .i64 0)) w.heap.size 57 (.pointer (some ⟨pw, 0, none⟩)) := Boxed.other bW2 (by omega) _
  have bE3 : Boxed (w2.setCell ⟨w.heap.size + 1 + 1, 0, none⟩ (.int .i64 0)) (w.heap.size + 1 + 1) 25 (.int .i64 0) := bE2.set _
  have hW3 := hW2.setOther 0 (.int .i64 0) (show pw ≠ w.heap.size + 1 + 1 by omega) (own_ne hW2 bE2 (by decide))
  have HX3 := Lib.hid (HX.out _ _ _ _ (w.heap.size + 1 + 1) 0 (.int .i64 0) hX2 (.inr rfl))
  have e0 := bE2.cell; have e1 := bE2.frozen
  clear hX2 hG2 bW bE bS bS2 bW2 hW2
  go_wp2_with fail
  generalize hW4 : w2.setCell ⟨w.heap.size + 1 + 1, 0, none⟩ (.int .i64 0) = W4 at *
  have y0 := bW3.cell; have y1 := bE3.cell; have y2 := bE3.frozen
  have z1 := hW3.cRoot; have z2 := hW3.cText; have z3 := hW3.cData; have z4 := hW3.cHeap; have z5 := hW3.cAtts
  have s0 : ∀ i, i < 5 → (W4.cell? ⟨w.heap.size + 1, i, none⟩).isSome = true := fun i hi => by simp [World.cell?, bS3]; omega
  have f0 : ∀ i, W4.frozen? ⟨w.heap.size + 1, i, none⟩ = false := fun i => by simp [World.frozen?, bS3]
  clear e0 e1 bE2 hW4
  have g0 := s0 0 (by omega); have g1 := s0 1 (by omega); have g2 := s0 2 (by omega); have g3 := s0 3 (by omega); have g4 := s0 4 (by omega)
  have f1 := f0 0; have f2 := f0 1; have f3 := f0 2; have f4 := f0 3; have f5 := f0 4
  have k0 : W4.cell? ⟨w.heap.size + 1, 0, none⟩ = some (.int .i64 0) := by simp [World.cell?, bS3]
  have k1 : W4.cell? ⟨w.heap.size + 1, 1, none⟩ = some (.int .i64 0) := by simp [World.cell?, bS3]
  have k2 : W4.cell? ⟨w.heap.size + 1, 2, none⟩ = some (.int .i64 0) := by simp [World.cell?, bS3]
  have k3 : W4.cell? ⟨w.heap.size + 1, 3, none⟩ = some (.int .i64 0) := by simp [World.cell?, bS3]
  have k4 : W4.cell? ⟨w.heap.size + 1, 4, none⟩ = some (.slice none 0 0) := by simp [World.cell?, bS3]
  have hne : w.heap.size + 1 ≠ pw := by omega
  have HBS := Lib.hid bS3; have HBE := Lib.hid bE3
  clear s0 f0 g0 g1 g2 g3 g4 bS3 bE3 bW3 hW3
  have HWS : Hid (WS w.heap.size pw r t d h a len cap W4) := ⟨y0, y1, z1, z2, z3, z4, z5⟩
  refine wp_region_noPanic ?_
  refine wp_region_held_drew (S := WS w.heap.size pw r t d h a len cap) (by kernel_rfl) HWS.out.drew (fun hHeld => ?_)
  change wpAnyH _ _ _ _ _ 7 (Array.replicate 7 false) _ _
  refine takeH 0 (.pointer (some ⟨pw, 0, none⟩)) (some 9) rfl (by kernel_rfl) (by kernel_rfl) (by kernel_rfl) (fun _ _ _ h => h) (fun oi h => by obtain rfl := Option.some.inj h; rfl) (fun oi h W hS => by obtain ⟨hS1, hS2, hS3, hS4, hS5, hS6, hS7⟩ := hS; obtain rfl := Option.some.inj h; go_simp) hHeld ?_
  simp only [Act.put, List.setIfInBounds_toArray, List.set_cons_zero, List.set_cons_succ]
  refine takeH 1 (.pointer (some ⟨pw, 0, none⟩)) (some 10) rfl (by kernel_rfl) (by kernel_rfl) (by kernel_rfl) (fun _ _ _ h => h) (fun oi h => by obtain rfl := Option.some.inj h; rfl) (fun oi h W hS => by obtain ⟨hS1, hS2, hS3, hS4, hS5, hS6, hS7⟩ := hS; obtain rfl := Option.some.inj h; go_simp) hHeld ?_
  simp only [Act.put, List.setIfInBounds_toArray, List.set_cons_zero, List.set_cons_succ]
  refine takeH 2 (.pointer (some ⟨pw, 1, none⟩)) (some 11) rfl (by kernel_rfl) (by kernel_rfl) (by kernel_rfl) (fun _ _ _ h => h) (fun oi h => by obtain rfl := Option.some.inj h; rfl) (fun oi h W hS => by obtain ⟨hS1, hS2, hS3, hS4, hS5, hS6, hS7⟩ := hS; obtain rfl := Option.some.inj h; go_simp) hHeld ?_
  simp only [Act.put, List.setIfInBounds_toArray, List.set_cons_zero, List.set_cons_succ]
  refine takeH 3 (.agg #[.int .i64 r, .int .i64 t, .int .i64 d, .int .i64 h, .slice a len cap]) (some 12) rfl (by kernel_rfl) (by kernel_rfl) (by kernel_rfl) (fun _ _ _ h => h) (fun oi h => by obtain rfl := Option.some.inj h; rfl) (fun oi h W hS => by obtain ⟨hS1, hS2, hS3, hS4, hS5, hS6, hS7⟩ := hS; obtain rfl := Option.some.inj h; go_simp) hHeld ?_
  simp only [Act.put, List.setIfInBounds_toArray, List.set_cons_zero, List.set_cons_succ]
  refine takeH 4 (.int .i64 0) (some 13) rfl (by kernel_rfl) (by kernel_rfl) (by kernel_rfl) (fun _ _ _ h => h) (fun oi h => by obtain rfl := Option.some.inj h; rfl) (fun oi h W hS => by obtain ⟨hS1, hS2, hS3, hS4, hS5, hS6, hS7⟩ := hS; obtain rfl := Option.some.inj h; go_simp) hHeld ?_
  simp only [Act.put, List.setIfInBounds_toArray, List.set_cons_zero, List.set_cons_succ]
  clear y0 y1 z1 z2 z3 z4 z5
  refine wpAnyH_ready (rs := [5]) (by kernel_rfl) (by simp) ?_
  refine AllReadyH.cons (i := 5) rfl (fun K hK => ?_) AllReadyH.nil
  go_simp
  have hp := HPW.out.2
  have H5 := Lib.hid (((((HWS.out.set hp 0 (.int .i64 r)).set hp 1 (.int .i64 t)).set hp 2 (.int .i64 d)).set hp 3 (.int .i64 h)).set hp 4 (.slice a len cap))
  have hB5 : (((((W4.setCell ⟨w.heap.size + 1, 0, none⟩ (.int .i64 r)).setCell ⟨w.heap.size + 1, 1, none⟩ (.int .i64 t)).setCell ⟨w.heap.size + 1, 2, none⟩ (.int .i64 d)).setCell ⟨w.heap.size + 1, 3, none⟩ (.int .i64 h)).setCell ⟨w.heap.size + 1, 4, none⟩ (.slice a len cap)).heap[w.heap.size + 1]? = some (.cells #[.int .i64 r, .int .i64 t, .int .i64 d, .int .i64 h, .slice a len cap] 32 (0, 0)) :=
    heap_setCell_same _ _ _ _ _ _ (heap_setCell_same _ _ _ _ _ _ (heap_setCell_same _ _ _ _ _ _ (heap_setCell_same _ _ _ _ _ _ (heap_setCell_same _ _ _ _ _ _ HBS.out))))
  have hE5 : (((((W4.setCell ⟨w.heap.size + 1, 0, none⟩ (.int .i64 r)).setCell ⟨w.heap.size + 1, 1, none⟩ (.int .i64 t)).setCell ⟨w.heap.size + 1, 2, none⟩ (.int .i64 d)).setCell ⟨w.heap.size + 1, 3, none⟩ (.int .i64 h)).setCell ⟨w.heap.size + 1, 4, none⟩ (.slice a len cap)).heap[w.heap.size + 1 + 1]? = some (.cells #[.int .i64 0] 25 (0, 0)) := by
    have hne : w.heap.size + 1 + 1 ≠ w.heap.size + 1 := by omega
    exact (heap_setCell_other _ _ _ _ hne).trans ((heap_setCell_other _ _ _ _ hne).trans ((heap_setCell_other _ _ _ _ hne).trans ((heap_setCell_other _ _ _ _ hne).trans ((heap_setCell_other _ _ _ _ hne).trans HBE.out))))
  have HX5 := Lib.hid (HX.out _ _ _ _ (w.heap.size + 1) 4 (.slice a len cap) (HX.out _ _ _ _ (w.heap.size + 1) 3 (.int .i64 h) (HX.out _ _ _ _ (w.heap.size + 1) 2 (.int .i64 d) (HX.out _ _ _ _ (w.heap.size + 1) 1 (.int .i64 t) (HX.out _ _ _ _ (w.heap.size + 1) 0 (.int .i64 r) HX3.out (.inl rfl)) (.inl rfl)) (.inl rfl)) (.inl rfl)) (.inl rfl))
  generalize ((((W4.setCell ⟨w.heap.size + 1, 0, none⟩ (.int .i64 r)).setCell ⟨w.heap.size + 1, 1, none⟩ (.int .i64 t)).setCell ⟨w.heap.size + 1, 2, none⟩ (.int .i64 d)).setCell ⟨w.heap.size + 1, 3, none⟩ (.int .i64 h)).setCell ⟨w.heap.size + 1, 4, none⟩ (.slice a len cap) = W5 at *
  refine hK.out _ _ H5.out.drew (fun hHeld2 => ?_)
  clear hK K
  refine wpAnyH_ready (rs := [6]) (by kernel_rfl) (by simp) ?_
  refine AllReadyH.cons (i := 6) rfl (fun K hK => ?_) AllReadyH.nil
  have ee := H5.out.be
  have ef : W5.frozen? ⟨w.heap.size + 1 + 1, 0, none⟩ = false := by simp [World.frozen?, hE5]
  go_simp
  refine hK.out _ _ (H5.out.sete hp).drew (fun _ => ?_)
  clear hK K
  refine wpAnyH_done (by kernel_rfl) ?_ _
  refine NoPanic.normal ?_
  have hB6 : (W5.setCell ⟨w.heap.size + 1 + 1, 0, none⟩ (.int .i64 0)).heap[w.heap.size + 1]? = _ := (heap_setCell_other _ _ _ _ (show w.heap.size + 1 ≠ w.heap.size + 1 + 1 by omega)).trans hB5
  have hE6 : (W5.setCell ⟨w.heap.size + 1 + 1, 0, none⟩ (.int .i64 0)).heap[w.heap.size + 1 + 1]? = some (.cells #[.int .i64 0] 25 (0, 0)) := heap_setCell_same _ _ _ _ _ _ hE5
  have HX6 := Lib.hid (HXD.out _ _ _ _ (HX.out _ _ _ _ (w.heap.size + 1 + 1) 0 (.int .i64 0) HX5.out (.inr rfl)))
  generalize W5.setCell ⟨w.heap.size + 1 + 1, 0, none⟩ (.int .i64 0) = W6 at *
  clear hB5 hE5 ee ef H5 HX5
  have cE : W6.cell? ⟨w.heap.size + 1 + 1, 0, none⟩ = some (.int .i64 0) := by simp [World.cell?, hE6]
  have s0 : W6.cell? ⟨w.heap.size + 1, 0, none⟩ = some (.int .i64 r) := by simp [World.cell?, hB6]
  have s1 : W6.cell? ⟨w.heap.size + 1, 1, none⟩ = some (.int .i64 t) := by simp [World.cell?, hB6]
  have s2 : W6.cell? ⟨w.heap.size + 1, 2, none⟩ = some (.int .i64 d) := by simp [World.cell?, hB6]
  have s3 : W6.cell? ⟨w.heap.size + 1, 3, none⟩ = some (.int .i64 h) := by simp [World.cell?, hB6]
  have s4 : W6.cell? ⟨w.heap.size + 1, 4, none⟩ = some (.slice a len cap) := by simp [World.cell?, hB6]
  clear hB6 hE6 k0 k1 k2 k3 k4 f1 f2 f3 f4 f5
  go_wp2
  refine leaves_cons (f := 32) (args := #[.pointer (some ⟨w.heap.size + 1 + 1, 0, none⟩), .pointer (some ⟨w.heap.size + 1, 0, none⟩), .pointer (some ⟨w.heap.size, 0, none⟩)]) (by simp) (by simp [go_sem]) ?_
  refine (whole1_ok _ _ _ _ ((cell_drew _ _).trans cE)).mono ?_
  rintro e u' w'' ⟨rfl, rfl, rfl⟩
  refine ⟨.tuple #[.agg #[.int .i64 r, .int .i64 t, .int .i64 d, .int .i64 h, .slice a len cap], .int .i64 0], by simp [results, Try.results20, go_sem, cE, s0, s1, s2, s3, s4], ?_⟩
  exact ⟨a, len, cap, rfl, HX6.out⟩

end
end Go.Proofs.Ytdkaaoboipphcaa
