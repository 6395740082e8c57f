/- The document's own table of processes (taffrailref06): Fork, walked. -/
import Derived.Test.YtonllnbincgdpaaRef6Ops
import Derived.Deep.AppendLies
import Derived.Deep.RegionHeld3
namespace Go.Proofs.Ytonllnbincgdpaa
open Go.RowKit

section
variable {P : Program} {md : Region.Mode} {ops : Array Oper} {Q : Exit → Act → World → Prop} {S : World → Prop}
/-- an operation is taken first, its place in the frame written out. -/
theorem takeH6 (i : Nat) (v : Value) (d : Option Nat) {fuel : Nat} {listed : Array Bool} {a : Act} {w : World} (hd : (ops[i]?).map Oper.dst = some d)
    (hs : Region.noSelect ops = true) (hf : Region.free md ops listed i = true) (hr : (Region.ready md ops listed).contains i = true)
    (hQ : ∀ c a w, Q (.panic c) (a.put d v) w → Q (.panic c) a w) (hw : ∀ oi, ops[i]? = some oi → Region.wanted oi (yielded ops a.tmps) = true)
    (hy : ∀ oi, ops[i]? = some oi → ∀ w, S w → (execOp a.eval oi).run P w = .ok (.value v) w) (hS : S w)
    (h : wpAnyH P md ops Q S fuel (listed.setIfInBounds i true) (a.put d v) w) : wpAnyH P md ops Q S (fuel + 1) listed a w := by
  cases e : ops[i]? with
  | none => rw [e] at hd; cases hd
  | some oi =>
    rw [e] at hd
    obtain rfl : oi.dst = d := by simpa using hd
    exact wpAnyH_take e hs hf hr hQ (.inl ⟨hw oi e, hy oi e⟩) hS h
end

section
variable {w : World} {base q : Nat} {L : List PV} {g : Int}

theorem cell_alloc6 {W : World} {a : Addr} {v : Value} (o : Obj) (h : W.cell? a = some v) : (W.alloc o).cell? a = some v := (World.cell?_alloc_some W a o (by rw [h]; rfl)).trans h
theorem RT.put1 {r cap : Nat} (h : RT w base q r cap L g) (g' : Int) : RT (w.setCell ⟨q, 1, none⟩ (.int .i64 g')) base q r cap L g' := by
  refine ⟨h.box.set 1 _, ⟨h.row.1, ?_⟩, h.bq, h.pos⟩
  obtain ⟨cur, h1, h2⟩ := h.blk
  exact .inr ⟨r, cap, cur, rfl, h2.1, (heap_setCell_other _ _ _ _ h.ne).trans h1, h2.2⟩

theorem RT.app {X w7 : World} {r cap gg cap' : Nat} {o : Obj} {c : PV} (h : RT w base q r cap L g) (hX : X.heap = (w.alloc o).heap) (hg : X.grownBy w7 (some r))
    (hown : w7.ownsRow base 39 8 (.slice (some ⟨gg, 0, none⟩) (L.length + 1) cap') (L.length + 1) (flatL L ++ c.cells.toList)) (hat : some r = some gg ∨ gg = w.heap.size + 1) :
    RT (w7.setCell ⟨q, 0, none⟩ (.slice (some ⟨gg, 0, none⟩) (L.length + 1) cap')) base q gg cap' (L ++ [c]) g := by
  have hl : (L ++ [c]).length = L.length + 1 := by simp
  have hq : w7.heap[q]? = w.heap[q]? := by
    rw [hg.block q (by rw [hX, World.size_alloc]; have := h.qlt; omega) (fun e => h.ne (Option.some.inj e).symm), hX]
    exact Below.heap_alloc w o q h.qlt
  have hne : gg ≠ q := by
    rcases hat with e | e
    · rw [← Option.some.inj e]; exact h.ne
    · have := h.qlt; omega
  refine ⟨?_, ?_, h.bq, by omega⟩
  · rw [hl]; exact (h.box.keep hq).set 0 _
  · have hw : WasAt w7 base (.slice (some ⟨gg, 0, none⟩) (L ++ [c]).length cap') (L ++ [c]) := by
      unfold WasAt
      rw [hl, flatL_append, flatL_one]
      exact hown
    exact hw.setOther (fun k e => by simp [Value.ownBlock] at e; omega)

set_option maxRecDepth 100000 in
set_option maxHeartbeats 4000000 in
theorem rfork {r cap : Nat} (h : RT w base q r cap L g) (ho : TOk L g) (k : Int) : Calls Try.prog 25 #[.pointer (some ⟨q, 0, none⟩), .int .i64 k] w fun e w' => e = .returned (.tuple #[.int .i64 (forkN L g k), .int .i64 (forkE L g k)]) ∧ RTab w' base q (forkL L g k) (forkG L g k) ∧ Turn q r w w' := by
  have hn := ho.len; have hg1 := ho.g1; have hgm := ho.gmax
  cases e : getL L k with
  | none =>
    have hE : forkE L g k = 60 := by unfold forkE runE; rw [e]; rfl
    have hN : forkN L g k = 0 := by unfold forkN; rw [hE]; rfl
    have hL : forkL L g k = L := by unfold forkL; rw [hE]; rfl
    have hG : forkG L g k = g := by unfold forkG; rw [hE]; rfl
    rw [hE, hN, hL, hG]
    have HA := Lib.hid (rat_none h hn (getL_none e))
    have HR := Lib.hid h
    clear h e hE hN hL hG
    go_enter Try.func25, Try.ntmps25
    go_wp2_with (go_at_call 47; refine HA.out.mono ?_; rintro e w' ⟨rfl, rfl⟩)
    go_ret2
    exact ⟨rfl, ⟨_, _, HR.out⟩, Turn.refl _⟩
  | some x =>
    obtain ⟨i, hil, hi, hx, hlo⟩ := getL_idx e
    have HA := Lib.hid (rat_some h hn hil hi hx hlo)
    have c0 := h.c0; have c1 := h.c1; have y2 := h.at hi 2 rfl
    by_cases hs : x.st = 1
    · have hR0 : runE L k = 0 := by unfold runE; rw [e]; simp [hs]
      by_cases h61 : 16 ≤ L.length ∨ 30000 ≤ g
      · have hE : forkE L g k = 61 := by unfold forkE; rw [hR0, if_neg (by decide), if_pos h61]
        have hN : forkN L g k = 0 := by unfold forkN; rw [hE]; rfl
        have hL : forkL L g k = L := by unfold forkL; rw [hE]; rfl
        have hG : forkG L g k = g := by unfold forkG; rw [hE]; rfl
        rw [hE, hN, hL, hG]
        have HR := Lib.hid h
        clear h e hE hN hL hG hR0 hlo hi hx
        obtain ⟨a0, a1, a2, a3, a4, a5, a6, a7⟩ := x
        dsimp only at hs y2
        subst hs
        by_cases h16 : 16 ≤ L.length
        · clear h61
          go_enter Try.func25, Try.ntmps25
          go_wp2_with (go_at_call 47; refine HA.out.mono ?_; rintro e w' ⟨rfl, rfl⟩)
          go_ret2
          exact ⟨rfl, ⟨_, _, HR.out⟩, Turn.refl _⟩
        · have h3 : 30000 ≤ g := by omega
          clear h61
          go_enter Try.func25, Try.ntmps25
          go_wp2_with (go_at_call 47; refine HA.out.mono ?_; rintro e w' ⟨rfl, rfl⟩)
          go_ret2
          exact ⟨rfl, ⟨_, _, HR.out⟩, Turn.refl _⟩
      · have h16 : ¬ 16 ≤ L.length := by omega
        have h3 : ¬ 30000 ≤ g := by omega
        have hE : forkE L g k = 0 := by unfold forkE; rw [hR0, if_neg (by decide), if_neg h61]
        have hN : forkN L g k = g + 1 := by unfold forkN; rw [hE]; rfl
        have hL : forkL L g k = L ++ [childV (g + 1) k x] := by unfold forkL; rw [hE, atL_some e]; rfl
        have hG : forkG L g k = g + 1 := by unfold forkG; rw [hE]; rfl
        rw [hE, hN, hL, hG]
        obtain ⟨i0, hi0, hz0, hz1, hz2⟩ := info_parts Try.infoProc
        have HI0 := Lib.hid hi0; have HZ0 := Lib.hid hz0; have HZ1 := Lib.hid hz1; have HZ2 := Lib.hid hz2
        have f1 := h.fq 1
        have h1 := h.put1 (g + 1)
        have d0 := h1.c0; have d1 := h1.c1; have z3 := h1.at hi 3 rfl; have z4 : _ = some (Value.int .i64 x.gid) := h1.at hi 4 rfl
        have z4' : (w.setCell ⟨q, 1, none⟩ (.int .i64 (g + 1))).cell? ⟨r, i * 8 + 3 + 1, none⟩ = some (.int .i64 x.gid) := z4
        have fq := h1.fq 0
        have HB1 := Lib.hid ((Turn.refl (p := q) (m := r) w).setP 1 (.int .i64 (g + 1)))
        have HR1 := Lib.hid h1
        have HNE := Lib.hid h.ne
        have HBQ := Lib.hid h.bq
        have hqs := h1.qlt
        have hbs : base ≤ (w.setCell ⟨q, 1, none⟩ (.int .i64 (g + 1))).heap.size := Nat.le_trans h.bq (Nat.le_of_lt h1.qlt)
        clear h h1 e hE hN hL hG hR0 hlo hi hx h61 hi0 hz0 hz1 hz2
        obtain ⟨a0, a1, a2, a3, a4, a5, a6, a7⟩ := x
        unfold childV
        dsimp only at hs y2 z3 z4 z4' ⊢
        subst hs
        go_enter Try.func25, Try.ntmps25
        go_wp2_with (go_at_call 47; refine HA.out.mono ?_; rintro e w' ⟨rfl, rfl⟩)
        clear c0 c1 y2 f1
        generalize w.setCell ⟨q, 1, none⟩ (.int .i64 (g + 1)) = W1 at *
        have p1 := cell_alloc6 (.cells #[.int .i64 (g + 1), .int .i64 k, .int .i64 1, .int .i64 a3, .int .i64 a4, .string ⟨#[]⟩, .int .i64 0, .bool false] 39) d1
        have p0 := cell_alloc6 (.cells #[.int .i64 (g + 1), .int .i64 k, .int .i64 1, .int .i64 a3, .int .i64 a4, .string ⟨#[]⟩, .int .i64 0, .bool false] 39) d0
        have pf : (W1.alloc (.cells #[.int .i64 (g + 1), .int .i64 k, .int .i64 1, .int .i64 a3, .int .i64 a4, .string ⟨#[]⟩, .int .i64 0, .bool false] 39)).frozen? ⟨q, 0, none⟩ = false := (World.frozen?_of_block (a := ⟨q, 0, none⟩) (Below.heap_alloc W1 _ q hqs)).trans fq
        refine wp_region_held_drew (S := (fun w' => w'.cell? ⟨q, 1, none⟩ = some (.int .i64 (g + 1)))) (by kernel_rfl) d1 (fun hHeld => ?_)
        change wpAnyH _ _ _ _ _ 24 (Array.replicate 24 false) _ _
        refine takeH6 0 (.pointer (some ⟨q, 0, none⟩)) (some 42) rfl (by kernel_rfl) (by kernel_rfl) (by kernel_rfl) (fun _ _ _ h => h) (fun oi h => by obtain rfl := Option.some.inj h; rfl) (fun oi h W hS => by obtain rfl := Option.some.inj h; go_simp) hHeld ?_
        simp only [Act.put, List.setIfInBounds_toArray, List.set_cons_zero, List.set_cons_succ]
        refine takeH6 1 (.pointer (some ⟨q, 0, none⟩)) (some 43) rfl (by kernel_rfl) (by kernel_rfl) (by kernel_rfl) (fun _ _ _ h => h) (fun oi h => by obtain rfl := Option.some.inj h; rfl) (fun oi h W hS => by obtain rfl := Option.some.inj h; go_simp) hHeld ?_
        simp only [Act.put, List.setIfInBounds_toArray, List.set_cons_zero, List.set_cons_succ]
        refine takeH6 2 (.pointer (some ⟨q, 0, none⟩)) (some 44) rfl (by kernel_rfl) (by kernel_rfl) (by kernel_rfl) (fun _ _ _ h => h) (fun oi h => by obtain rfl := Option.some.inj h; rfl) (fun oi h W hS => by obtain rfl := Option.some.inj h; go_simp) hHeld ?_
        simp only [Act.put, List.setIfInBounds_toArray, List.set_cons_zero, List.set_cons_succ]
        refine takeH6 3 (.pointer (some ⟨q, 0, none⟩)) (some 45) rfl (by kernel_rfl) (by kernel_rfl) (by kernel_rfl) (fun _ _ _ h => h) (fun oi h => by obtain rfl := Option.some.inj h; rfl) (fun oi h W hS => by obtain rfl := Option.some.inj h; go_simp) hHeld ?_
        simp only [Act.put, List.setIfInBounds_toArray, List.set_cons_zero, List.set_cons_succ]
        refine takeH6 5 (.pointer (some ⟨q, 0, none⟩)) (some 47) rfl (by kernel_rfl) (by kernel_rfl) (by kernel_rfl) (fun _ _ _ h => h) (fun oi h => by obtain rfl := Option.some.inj h; rfl) (fun oi h W hS => by obtain rfl := Option.some.inj h; go_simp) hHeld ?_
        simp only [Act.put, List.setIfInBounds_toArray, List.set_cons_zero, List.set_cons_succ]
        refine takeH6 6 (.pointer (some ⟨q, 0, none⟩)) (some 48) rfl (by kernel_rfl) (by kernel_rfl) (by kernel_rfl) (fun _ _ _ h => h) (fun oi h => by obtain rfl := Option.some.inj h; rfl) (fun oi h W hS => by obtain rfl := Option.some.inj h; go_simp) hHeld ?_
        simp only [Act.put, List.setIfInBounds_toArray, List.set_cons_zero, List.set_cons_succ]
        refine takeH6 7 (.pointer (some ⟨q, 1, none⟩)) (some 49) rfl (by kernel_rfl) (by kernel_rfl) (by kernel_rfl) (fun _ _ _ h => h) (fun oi h => by obtain rfl := Option.some.inj h; rfl) (fun oi h W hS => by obtain rfl := Option.some.inj h; go_simp) hHeld ?_
        simp only [Act.put, List.setIfInBounds_toArray, List.set_cons_zero, List.set_cons_succ]
        refine takeH6 8 (.int .i64 (g + 1)) (some 50) rfl (by kernel_rfl) (by kernel_rfl) (by kernel_rfl) (fun _ _ _ h => h) (fun oi h => by obtain rfl := Option.some.inj h; rfl) (fun oi h W hS => by obtain rfl := Option.some.inj h; go_simp) hHeld ?_
        simp only [Act.put, List.setIfInBounds_toArray, List.set_cons_zero, List.set_cons_succ]
        refine takeH6 9 (.int .i64 k) (some 51) rfl (by kernel_rfl) (by kernel_rfl) (by kernel_rfl) (fun _ _ _ h => h) (fun oi h => by obtain rfl := Option.some.inj h; rfl) (fun oi h W hS => by obtain rfl := Option.some.inj h; go_simp) hHeld ?_
        simp only [Act.put, List.setIfInBounds_toArray, List.set_cons_zero, List.set_cons_succ]
        refine takeH6 10 (.pointer (some ⟨q, 0, none⟩)) (some 52) rfl (by kernel_rfl) (by kernel_rfl) (by kernel_rfl) (fun _ _ _ h => h) (fun oi h => by obtain rfl := Option.some.inj h; rfl) (fun oi h W hS => by obtain rfl := Option.some.inj h; go_simp) hHeld ?_
        simp only [Act.put, List.setIfInBounds_toArray, List.set_cons_zero, List.set_cons_succ]
        refine takeH6 11 (.pointer (some ⟨q, 0, none⟩)) (some 53) rfl (by kernel_rfl) (by kernel_rfl) (by kernel_rfl) (fun _ _ _ h => h) (fun oi h => by obtain rfl := Option.some.inj h; rfl) (fun oi h W hS => by obtain rfl := Option.some.inj h; go_simp) hHeld ?_
        simp only [Act.put, List.setIfInBounds_toArray, List.set_cons_zero, List.set_cons_succ]
        refine takeH6 12 (.pointer (some ⟨q, 0, none⟩)) (some 54) rfl (by kernel_rfl) (by kernel_rfl) (by kernel_rfl) (fun _ _ _ h => h) (fun oi h => by obtain rfl := Option.some.inj h; rfl) (fun oi h W hS => by obtain rfl := Option.some.inj h; go_simp) hHeld ?_
        simp only [Act.put, List.setIfInBounds_toArray, List.set_cons_zero, List.set_cons_succ]
        refine takeH6 14 (.int .i64 (i : Int)) (some 56) rfl (by kernel_rfl) (by kernel_rfl) (by kernel_rfl) (fun _ _ _ h => h) (fun oi h => by obtain rfl := Option.some.inj h; rfl) (fun oi h W hS => by obtain rfl := Option.some.inj h; go_simp) hHeld ?_
        simp only [Act.put, List.setIfInBounds_toArray, List.set_cons_zero, List.set_cons_succ]
        refine wpAnyH_ready (rs := [4, 13]) (by kernel_rfl) (by simp) ?_
        refine AllReadyH.cons (i := 4) rfl (fun K hK => ?_) (AllReadyH.cons (i := 13) rfl (fun K hK => ?_) AllReadyH.nil)
        · go_simp
          refine hK.out _ _ d1 (fun hHeld => ?_)
          clear hK K
          try simp only [Act.put, List.setIfInBounds_toArray, List.set_cons_zero, List.set_cons_succ]
          refine wpAnyH_ready (rs := [13]) (by kernel_rfl) (by simp) ?_
          refine AllReadyH.cons (i := 13) rfl (fun K hK => ?_) AllReadyH.nil
          go_simp
          refine hK.out _ _ d1 (fun hHeld => ?_)
          clear hK K
          try simp only [Act.put, List.setIfInBounds_toArray, List.set_cons_zero, List.set_cons_succ]
          refine takeH6 15 (.pointer (some ⟨r, i * 8, none⟩)) (some 57) rfl (by kernel_rfl) (by kernel_rfl) (by kernel_rfl) (fun _ _ _ h => h) (fun oi h => by obtain rfl := Option.some.inj h; rfl) (fun oi h W hS => by obtain rfl := Option.some.inj h; go_simp) hHeld ?_
          simp only [Act.put, List.setIfInBounds_toArray, List.set_cons_zero, List.set_cons_succ]
          refine takeH6 16 (.pointer (some ⟨r, i * 8 + 3, none⟩)) (some 58) rfl (by kernel_rfl) (by kernel_rfl) (by kernel_rfl) (fun _ _ _ h => h) (fun oi h => by obtain rfl := Option.some.inj h; rfl) (fun oi h W hS => by obtain rfl := Option.some.inj h; go_simp) hHeld ?_
          simp only [Act.put, List.setIfInBounds_toArray, List.set_cons_zero, List.set_cons_succ]
          refine wpAnyH_ready (rs := [17]) (by kernel_rfl) (by simp) ?_
          refine AllReadyH.cons (i := 17) rfl (fun K hK => ?_) AllReadyH.nil
          go_simp
          refine hK.out _ _ d1 (fun hHeld => ?_)
          clear hK K
          try simp only [Act.put, List.setIfInBounds_toArray, List.set_cons_zero, List.set_cons_succ]
          refine takeH6 18 (.agg #[.int .i64 (g + 1), .int .i64 k, .int .i64 1, .int .i64 a3, .int .i64 a4, .string ⟨#[]⟩, .int .i64 0, .bool false]) (some 60) rfl (by kernel_rfl) (by kernel_rfl) (by kernel_rfl) (fun _ _ _ h => h) (fun oi h => by obtain rfl := Option.some.inj h; rfl) (fun oi h W hS => by obtain rfl := Option.some.inj h; go_simp) hHeld ?_
          simp only [Act.put, List.setIfInBounds_toArray, List.set_cons_zero, List.set_cons_succ]
          refine wpAnyH_ready (rs := [19]) (by kernel_rfl) (by simp) ?_
          refine AllReadyH.cons (i := 19) rfl (fun K hK => ?_) AllReadyH.nil
          go_simp
          refine hK.out _ _ p1 (fun hHeld => ?_)
          clear hK K
          try simp only [Act.put, List.setIfInBounds_toArray, List.set_cons_zero, List.set_cons_succ]
          refine wpAnyH_ready (rs := [20]) (by kernel_rfl) (by simp) ?_
          refine AllReadyH.cons (i := 20) rfl (fun K hK => ?_) AllReadyH.nil
          refine step_append_lies _ (by rfl) _ _ _ (by rfl) base 39 i0 _ 8 72 Try.underlying35 HI0.out HZ0.out HZ1.out HZ2.out rfl (by omega) (.slice (some ⟨r, 0, none⟩) L.length cap) L.length (flatL L) (by rfl) ((World.ownsRow.alloc HR1.out.row _).drew) ⟨W1.heap.size, 0, none⟩ 1 1 [.int .i64 (g + 1), .int .i64 k, .int .i64 1, .int .i64 a3, .int .i64 a4, .string ⟨#[]⟩, .int .i64 0, .bool false] (by rfl) (by rfl) (World.news_of_block (cs := #[.int .i64 (g + 1), .int .i64 k, .int .i64 1, .int .i64 a3, .int .i64 a4, .string ⟨#[]⟩, .int .i64 0, .bool false]) (t := 39) (fr := (0, 0)) (heap_alloc_new W1 _)) (by simp [Value.oneCell']) (by omega) (by unfold maxLen; omega) (by omega) (by simp; omega) (W1.heap.size + 1) (by simp) ?_
          intro gg cap' w7 hown7 hgrow7 hat7 _
          have e1 := (hgrow7.cell_far ⟨q, 1, none⟩ (by simp; omega) (by simpa [Value.ownBlock] using Ne.symm HNE.out)).trans p1
          have e0 := (hgrow7.cell_far ⟨q, 0, none⟩ (by simp; omega) (by simpa [Value.ownBlock] using Ne.symm HNE.out)).trans p0
          have ef := (hgrow7.frozen_far ⟨q, 0, none⟩ (by simp; omega) (by simpa [Value.ownBlock] using Ne.symm HNE.out)).trans pf
          have HO := Lib.hid hown7; have HG := Lib.hid hgrow7; have HAT := Lib.hid hat7
          clear hown7 hgrow7 hat7
          refine hK.out _ _ e1 (fun hHeld => ?_)
          clear hK K
          change wpAnyH _ _ _ _ _ _ _ (Act.put _ (some 62) _) _
          simp only [Act.put, List.setIfInBounds_toArray, List.set_cons_zero, List.set_cons_succ]
          refine takeH6 21 (.pointer (some ⟨q, 0, none⟩)) (some 63) rfl (by kernel_rfl) (by kernel_rfl) (by kernel_rfl) (fun _ _ _ h => h) (fun oi h => by obtain rfl := Option.some.inj h; rfl) (fun oi h W hS => by obtain rfl := Option.some.inj h; go_simp) hHeld ?_
          simp only [Act.put, List.setIfInBounds_toArray, List.set_cons_zero, List.set_cons_succ]
          refine takeH6 22 (.pointer (some ⟨q, 0, none⟩)) (some 64) rfl (by kernel_rfl) (by kernel_rfl) (by kernel_rfl) (fun _ _ _ h => h) (fun oi h => by obtain rfl := Option.some.inj h; rfl) (fun oi h W hS => by obtain rfl := Option.some.inj h; go_simp) hHeld ?_
          simp only [Act.put, List.setIfInBounds_toArray, List.set_cons_zero, List.set_cons_succ]
          refine wpAnyH_ready (rs := [23]) (by kernel_rfl) (by simp) ?_
          refine AllReadyH.cons (i := 23) rfl (fun K hK => ?_) AllReadyH.nil
          go_simp
          refine hK.out _ _ ((World.cell?_setCell_other _ _ _ _ (by simp)).trans e1) (fun _ => ?_)
          clear hK K
          refine wpAnyH_done (by kernel_rfl) ?_ _
          have HRF := Lib.hid (HR1.out.app (c := ⟨g + 1, k, 1, a3, a4, ⟨#[]⟩, 0, false⟩) (o := (.cells #[.int .i64 (g + 1), .int .i64 k, .int .i64 1, .int .i64 a3, .int .i64 a4, .string ⟨#[]⟩, .int .i64 0, .bool false] 39)) (X := (W1.alloc (.cells #[.int .i64 (g + 1), .int .i64 k, .int .i64 1, .int .i64 a3, .int .i64 a4, .string ⟨#[]⟩, .int .i64 0, .bool false] 39)).drew) rfl HG.out HO.out HAT.out)
          have HBF := Lib.hid ((((HB1.out.alloc (.cells #[.int .i64 (g + 1), .int .i64 k, .int .i64 1, .int .i64 a3, .int .i64 a4, .string ⟨#[]⟩, .int .i64 0, .bool false] 39)).drewN (k := 1)).grown HG.out (fun j e => by simp [Value.ownBlock] at e; omega)).setP 0 (.slice (some ⟨gg, 0, none⟩) (L.length + 1) cap'))
          have e1' := HRF.out.c1
          go_wp2
          go_ret2
          exact ⟨rfl, ⟨_, _, HRF.out⟩, HBF.out⟩
        · go_simp
          refine hK.out _ _ d1 (fun hHeld => ?_)
          clear hK K
          try simp only [Act.put, List.setIfInBounds_toArray, List.set_cons_zero, List.set_cons_succ]
          refine takeH6 15 (.pointer (some ⟨r, i * 8, none⟩)) (some 57) rfl (by kernel_rfl) (by kernel_rfl) (by kernel_rfl) (fun _ _ _ h => h) (fun oi h => by obtain rfl := Option.some.inj h; rfl) (fun oi h W hS => by obtain rfl := Option.some.inj h; go_simp) hHeld ?_
          simp only [Act.put, List.setIfInBounds_toArray, List.set_cons_zero, List.set_cons_succ]
          refine takeH6 16 (.pointer (some ⟨r, i * 8 + 3, none⟩)) (some 58) rfl (by kernel_rfl) (by kernel_rfl) (by kernel_rfl) (fun _ _ _ h => h) (fun oi h => by obtain rfl := Option.some.inj h; rfl) (fun oi h W hS => by obtain rfl := Option.some.inj h; go_simp) hHeld ?_
          simp only [Act.put, List.setIfInBounds_toArray, List.set_cons_zero, List.set_cons_succ]
          refine wpAnyH_ready (rs := [4, 17]) (by kernel_rfl) (by simp) ?_
          refine AllReadyH.cons (i := 4) rfl (fun K hK => ?_) (AllReadyH.cons (i := 17) rfl (fun K hK => ?_) AllReadyH.nil)
          · go_simp
            refine hK.out _ _ d1 (fun hHeld => ?_)
            clear hK K
            try simp only [Act.put, List.setIfInBounds_toArray, List.set_cons_zero, List.set_cons_succ]
            refine wpAnyH_ready (rs := [17]) (by kernel_rfl) (by simp) ?_
            refine AllReadyH.cons (i := 17) rfl (fun K hK => ?_) AllReadyH.nil
            go_simp
            refine hK.out _ _ d1 (fun hHeld => ?_)
            clear hK K
            try simp only [Act.put, List.setIfInBounds_toArray, List.set_cons_zero, List.set_cons_succ]
            refine takeH6 18 (.agg #[.int .i64 (g + 1), .int .i64 k, .int .i64 1, .int .i64 a3, .int .i64 a4, .string ⟨#[]⟩, .int .i64 0, .bool false]) (some 60) rfl (by kernel_rfl) (by kernel_rfl) (by kernel_rfl) (fun _ _ _ h => h) (fun oi h => by obtain rfl := Option.some.inj h; rfl) (fun oi h W hS => by obtain rfl := Option.some.inj h; go_simp) hHeld ?_
            simp only [Act.put, List.setIfInBounds_toArray, List.set_cons_zero, List.set_cons_succ]
            refine wpAnyH_ready (rs := [19]) (by kernel_rfl) (by simp) ?_
            refine AllReadyH.cons (i := 19) rfl (fun K hK => ?_) AllReadyH.nil
            go_simp
            refine hK.out _ _ p1 (fun hHeld => ?_)
            clear hK K
            try simp only [Act.put, List.setIfInBounds_toArray, List.set_cons_zero, List.set_cons_succ]
            refine wpAnyH_ready (rs := [20]) (by kernel_rfl) (by simp) ?_
            refine AllReadyH.cons (i := 20) rfl (fun K hK => ?_) AllReadyH.nil
            refine step_append_lies _ (by rfl) _ _ _ (by rfl) base 39 i0 _ 8 72 Try.underlying35 HI0.out HZ0.out HZ1.out HZ2.out rfl (by omega) (.slice (some ⟨r, 0, none⟩) L.length cap) L.length (flatL L) (by rfl) ((World.ownsRow.alloc HR1.out.row _).drew) ⟨W1.heap.size, 0, none⟩ 1 1 [.int .i64 (g + 1), .int .i64 k, .int .i64 1, .int .i64 a3, .int .i64 a4, .string ⟨#[]⟩, .int .i64 0, .bool false] (by rfl) (by rfl) (World.news_of_block (cs := #[.int .i64 (g + 1), .int .i64 k, .int .i64 1, .int .i64 a3, .int .i64 a4, .string ⟨#[]⟩, .int .i64 0, .bool false]) (t := 39) (fr := (0, 0)) (heap_alloc_new W1 _)) (by simp [Value.oneCell']) (by omega) (by unfold maxLen; omega) (by omega) (by simp; omega) (W1.heap.size + 1) (by simp) ?_
            intro gg cap' w7 hown7 hgrow7 hat7 _
            have e1 := (hgrow7.cell_far ⟨q, 1, none⟩ (by simp; omega) (by simpa [Value.ownBlock] using Ne.symm HNE.out)).trans p1
            have e0 := (hgrow7.cell_far ⟨q, 0, none⟩ (by simp; omega) (by simpa [Value.ownBlock] using Ne.symm HNE.out)).trans p0
            have ef := (hgrow7.frozen_far ⟨q, 0, none⟩ (by simp; omega) (by simpa [Value.ownBlock] using Ne.symm HNE.out)).trans pf
            have HO := Lib.hid hown7; have HG := Lib.hid hgrow7; have HAT := Lib.hid hat7
            clear hown7 hgrow7 hat7
            refine hK.out _ _ e1 (fun hHeld => ?_)
            clear hK K
            change wpAnyH _ _ _ _ _ _ _ (Act.put _ (some 62) _) _
            simp only [Act.put, List.setIfInBounds_toArray, List.set_cons_zero, List.set_cons_succ]
            refine takeH6 21 (.pointer (some ⟨q, 0, none⟩)) (some 63) rfl (by kernel_rfl) (by kernel_rfl) (by kernel_rfl) (fun _ _ _ h => h) (fun oi h => by obtain rfl := Option.some.inj h; rfl) (fun oi h W hS => by obtain rfl := Option.some.inj h; go_simp) hHeld ?_
            simp only [Act.put, List.setIfInBounds_toArray, List.set_cons_zero, List.set_cons_succ]
            refine takeH6 22 (.pointer (some ⟨q, 0, none⟩)) (some 64) rfl (by kernel_rfl) (by kernel_rfl) (by kernel_rfl) (fun _ _ _ h => h) (fun oi h => by obtain rfl := Option.some.inj h; rfl) (fun oi h W hS => by obtain rfl := Option.some.inj h; go_simp) hHeld ?_
            simp only [Act.put, List.setIfInBounds_toArray, List.set_cons_zero, List.set_cons_succ]
            refine wpAnyH_ready (rs := [23]) (by kernel_rfl) (by simp) ?_
            refine AllReadyH.cons (i := 23) rfl (fun K hK => ?_) AllReadyH.nil
            go_simp
            refine hK.out _ _ ((World.cell?_setCell_other _ _ _ _ (by simp)).trans e1) (fun _ => ?_)
            clear hK K
            refine wpAnyH_done (by kernel_rfl) ?_ _
            have HRF := Lib.hid (HR1.out.app (c := ⟨g + 1, k, 1, a3, a4, ⟨#[]⟩, 0, false⟩) (o := (.cells #[.int .i64 (g + 1), .int .i64 k, .int .i64 1, .int .i64 a3, .int .i64 a4, .string ⟨#[]⟩, .int .i64 0, .bool false] 39)) (X := (W1.alloc (.cells #[.int .i64 (g + 1), .int .i64 k, .int .i64 1, .int .i64 a3, .int .i64 a4, .string ⟨#[]⟩, .int .i64 0, .bool false] 39)).drew) rfl HG.out HO.out HAT.out)
            have HBF := Lib.hid ((((HB1.out.alloc (.cells #[.int .i64 (g + 1), .int .i64 k, .int .i64 1, .int .i64 a3, .int .i64 a4, .string ⟨#[]⟩, .int .i64 0, .bool false] 39)).drewN (k := 1)).grown HG.out (fun j e => by simp [Value.ownBlock] at e; omega)).setP 0 (.slice (some ⟨gg, 0, none⟩) (L.length + 1) cap'))
            have e1' := HRF.out.c1
            go_wp2
            go_ret2
            exact ⟨rfl, ⟨_, _, HRF.out⟩, HBF.out⟩
          · go_simp
            refine hK.out _ _ d1 (fun hHeld => ?_)
            clear hK K
            try simp only [Act.put, List.setIfInBounds_toArray, List.set_cons_zero, List.set_cons_succ]
            refine takeH6 18 (.agg #[.int .i64 (g + 1), .int .i64 k, .int .i64 1, .int .i64 a3, .int .i64 a4, .string ⟨#[]⟩, .int .i64 0, .bool false]) (some 60) rfl (by kernel_rfl) (by kernel_rfl) (by kernel_rfl) (fun _ _ _ h => h) (fun oi h => by obtain rfl := Option.some.inj h; rfl) (fun oi h W hS => by obtain rfl := Option.some.inj h; go_simp) hHeld ?_
            simp only [Act.put, List.setIfInBounds_toArray, List.set_cons_zero, List.set_cons_succ]
            refine wpAnyH_ready (rs := [4, 19]) (by kernel_rfl) (by simp) ?_
            refine AllReadyH.cons (i := 4) rfl (fun K hK => ?_) (AllReadyH.cons (i := 19) rfl (fun K hK => ?_) AllReadyH.nil)
            · go_simp
              refine hK.out _ _ d1 (fun hHeld => ?_)
              clear hK K
              try simp only [Act.put, List.setIfInBounds_toArray, List.set_cons_zero, List.set_cons_succ]
              refine wpAnyH_ready (rs := [19]) (by kernel_rfl) (by simp) ?_
              refine AllReadyH.cons (i := 19) rfl (fun K hK => ?_) AllReadyH.nil
              go_simp
              refine hK.out _ _ p1 (fun hHeld => ?_)
              clear hK K
              try simp only [Act.put, List.setIfInBounds_toArray, List.set_cons_zero, List.set_cons_succ]
              refine wpAnyH_ready (rs := [20]) (by kernel_rfl) (by simp) ?_
              refine AllReadyH.cons (i := 20) rfl (fun K hK => ?_) AllReadyH.nil
              refine step_append_lies _ (by rfl) _ _ _ (by rfl) base 39 i0 _ 8 72 Try.underlying35 HI0.out HZ0.out HZ1.out HZ2.out rfl (by omega) (.slice (some ⟨r, 0, none⟩) L.length cap) L.length (flatL L) (by rfl) ((World.ownsRow.alloc HR1.out.row _).drew) ⟨W1.heap.size, 0, none⟩ 1 1 [.int .i64 (g + 1), .int .i64 k, .int .i64 1, .int .i64 a3, .int .i64 a4, .string ⟨#[]⟩, .int .i64 0, .bool false] (by rfl) (by rfl) (World.news_of_block (cs := #[.int .i64 (g + 1), .int .i64 k, .int .i64 1, .int .i64 a3, .int .i64 a4, .string ⟨#[]⟩, .int .i64 0, .bool false]) (t := 39) (fr := (0, 0)) (heap_alloc_new W1 _)) (by simp [Value.oneCell']) (by omega) (by unfold maxLen; omega) (by omega) (by simp; omega) (W1.heap.size + 1) (by simp) ?_
              intro gg cap' w7 hown7 hgrow7 hat7 _
              have e1 := (hgrow7.cell_far ⟨q, 1, none⟩ (by simp; omega) (by simpa [Value.ownBlock] using Ne.symm HNE.out)).trans p1
              have e0 := (hgrow7.cell_far ⟨q, 0, none⟩ (by simp; omega) (by simpa [Value.ownBlock] using Ne.symm HNE.out)).trans p0
              have ef := (hgrow7.frozen_far ⟨q, 0, none⟩ (by simp; omega) (by simpa [Value.ownBlock] using Ne.symm HNE.out)).trans pf
              have HO := Lib.hid hown7; have HG := Lib.hid hgrow7; have HAT := Lib.hid hat7
              clear hown7 hgrow7 hat7
              refine hK.out _ _ e1 (fun hHeld => ?_)
              clear hK K
              change wpAnyH _ _ _ _ _ _ _ (Act.put _ (some 62) _) _
              simp only [Act.put, List.setIfInBounds_toArray, List.set_cons_zero, List.set_cons_succ]
              refine takeH6 21 (.pointer (some ⟨q, 0, none⟩)) (some 63) rfl (by kernel_rfl) (by kernel_rfl) (by kernel_rfl) (fun _ _ _ h => h) (fun oi h => by obtain rfl := Option.some.inj h; rfl) (fun oi h W hS => by obtain rfl := Option.some.inj h; go_simp) hHeld ?_
              simp only [Act.put, List.setIfInBounds_toArray, List.set_cons_zero, List.set_cons_succ]
              refine takeH6 22 (.pointer (some ⟨q, 0, none⟩)) (some 64) rfl (by kernel_rfl) (by kernel_rfl) (by kernel_rfl) (fun _ _ _ h => h) (fun oi h => by obtain rfl := Option.some.inj h; rfl) (fun oi h W hS => by obtain rfl := Option.some.inj h; go_simp) hHeld ?_
              simp only [Act.put, List.setIfInBounds_toArray, List.set_cons_zero, List.set_cons_succ]
              refine wpAnyH_ready (rs := [23]) (by kernel_rfl) (by simp) ?_
              refine AllReadyH.cons (i := 23) rfl (fun K hK => ?_) AllReadyH.nil
              go_simp
              refine hK.out _ _ ((World.cell?_setCell_other _ _ _ _ (by simp)).trans e1) (fun _ => ?_)
              clear hK K
              refine wpAnyH_done (by kernel_rfl) ?_ _
              have HRF := Lib.hid (HR1.out.app (c := ⟨g + 1, k, 1, a3, a4, ⟨#[]⟩, 0, false⟩) (o := (.cells #[.int .i64 (g + 1), .int .i64 k, .int .i64 1, .int .i64 a3, .int .i64 a4, .string ⟨#[]⟩, .int .i64 0, .bool false] 39)) (X := (W1.alloc (.cells #[.int .i64 (g + 1), .int .i64 k, .int .i64 1, .int .i64 a3, .int .i64 a4, .string ⟨#[]⟩, .int .i64 0, .bool false] 39)).drew) rfl HG.out HO.out HAT.out)
              have HBF := Lib.hid ((((HB1.out.alloc (.cells #[.int .i64 (g + 1), .int .i64 k, .int .i64 1, .int .i64 a3, .int .i64 a4, .string ⟨#[]⟩, .int .i64 0, .bool false] 39)).drewN (k := 1)).grown HG.out (fun j e => by simp [Value.ownBlock] at e; omega)).setP 0 (.slice (some ⟨gg, 0, none⟩) (L.length + 1) cap'))
              have e1' := HRF.out.c1
              go_wp2
              go_ret2
              exact ⟨rfl, ⟨_, _, HRF.out⟩, HBF.out⟩
            · go_simp
              refine hK.out _ _ p1 (fun hHeld => ?_)
              clear hK K
              try simp only [Act.put, List.setIfInBounds_toArray, List.set_cons_zero, List.set_cons_succ]
              refine wpAnyH_ready (rs := [4]) (by kernel_rfl) (by simp) ?_
              refine AllReadyH.cons (i := 4) rfl (fun K hK => ?_) AllReadyH.nil
              go_simp
              refine hK.out _ _ p1 (fun hHeld => ?_)
              clear hK K
              try simp only [Act.put, List.setIfInBounds_toArray, List.set_cons_zero, List.set_cons_succ]
              refine wpAnyH_ready (rs := [20]) (by kernel_rfl) (by simp) ?_
              refine AllReadyH.cons (i := 20) rfl (fun K hK => ?_) AllReadyH.nil
              refine step_append_lies _ (by rfl) _ _ _ (by rfl) base 39 i0 _ 8 72 Try.underlying35 HI0.out HZ0.out HZ1.out HZ2.out rfl (by omega) (.slice (some ⟨r, 0, none⟩) L.length cap) L.length (flatL L) (by rfl) ((World.ownsRow.alloc HR1.out.row _).drew) ⟨W1.heap.size, 0, none⟩ 1 1 [.int .i64 (g + 1), .int .i64 k, .int .i64 1, .int .i64 a3, .int .i64 a4, .string ⟨#[]⟩, .int .i64 0, .bool false] (by rfl) (by rfl) (World.news_of_block (cs := #[.int .i64 (g + 1), .int .i64 k, .int .i64 1, .int .i64 a3, .int .i64 a4, .string ⟨#[]⟩, .int .i64 0, .bool false]) (t := 39) (fr := (0, 0)) (heap_alloc_new W1 _)) (by simp [Value.oneCell']) (by omega) (by unfold maxLen; omega) (by omega) (by simp; omega) (W1.heap.size + 1) (by simp) ?_
              intro gg cap' w7 hown7 hgrow7 hat7 _
              have e1 := (hgrow7.cell_far ⟨q, 1, none⟩ (by simp; omega) (by simpa [Value.ownBlock] using Ne.symm HNE.out)).trans p1
              have e0 := (hgrow7.cell_far ⟨q, 0, none⟩ (by simp; omega) (by simpa [Value.ownBlock] using Ne.symm HNE.out)).trans p0
              have ef := (hgrow7.frozen_far ⟨q, 0, none⟩ (by simp; omega) (by simpa [Value.ownBlock] using Ne.symm HNE.out)).trans pf
              have HO := Lib.hid hown7; have HG := Lib.hid hgrow7; have HAT := Lib.hid hat7
              clear hown7 hgrow7 hat7
              refine hK.out _ _ e1 (fun hHeld => ?_)
              clear hK K
              change wpAnyH _ _ _ _ _ _ _ (Act.put _ (some 62) _) _
              simp only [Act.put, List.setIfInBounds_toArray, List.set_cons_zero, List.set_cons_succ]
              refine takeH6 21 (.pointer (some ⟨q, 0, none⟩)) (some 63) rfl (by kernel_rfl) (by kernel_rfl) (by kernel_rfl) (fun _ _ _ h => h) (fun oi h => by obtain rfl := Option.some.inj h; rfl) (fun oi h W hS => by obtain rfl := Option.some.inj h; go_simp) hHeld ?_
              simp only [Act.put, List.setIfInBounds_toArray, List.set_cons_zero, List.set_cons_succ]
              refine takeH6 22 (.pointer (some ⟨q, 0, none⟩)) (some 64) rfl (by kernel_rfl) (by kernel_rfl) (by kernel_rfl) (fun _ _ _ h => h) (fun oi h => by obtain rfl := Option.some.inj h; rfl) (fun oi h W hS => by obtain rfl := Option.some.inj h; go_simp) hHeld ?_
              simp only [Act.put, List.setIfInBounds_toArray, List.set_cons_zero, List.set_cons_succ]
              refine wpAnyH_ready (rs := [23]) (by kernel_rfl) (by simp) ?_
              refine AllReadyH.cons (i := 23) rfl (fun K hK => ?_) AllReadyH.nil
              go_simp
              refine hK.out _ _ ((World.cell?_setCell_other _ _ _ _ (by simp)).trans e1) (fun _ => ?_)
              clear hK K
              refine wpAnyH_done (by kernel_rfl) ?_ _
              have HRF := Lib.hid (HR1.out.app (c := ⟨g + 1, k, 1, a3, a4, ⟨#[]⟩, 0, false⟩) (o := (.cells #[.int .i64 (g + 1), .int .i64 k, .int .i64 1, .int .i64 a3, .int .i64 a4, .string ⟨#[]⟩, .int .i64 0, .bool false] 39)) (X := (W1.alloc (.cells #[.int .i64 (g + 1), .int .i64 k, .int .i64 1, .int .i64 a3, .int .i64 a4, .string ⟨#[]⟩, .int .i64 0, .bool false] 39)).drew) rfl HG.out HO.out HAT.out)
              have HBF := Lib.hid ((((HB1.out.alloc (.cells #[.int .i64 (g + 1), .int .i64 k, .int .i64 1, .int .i64 a3, .int .i64 a4, .string ⟨#[]⟩, .int .i64 0, .bool false] 39)).drewN (k := 1)).grown HG.out (fun j e => by simp [Value.ownBlock] at e; omega)).setP 0 (.slice (some ⟨gg, 0, none⟩) (L.length + 1) cap'))
              have e1' := HRF.out.c1
              go_wp2
              go_ret2
              exact ⟨rfl, ⟨_, _, HRF.out⟩, HBF.out⟩
    · have hR2 : runE L k = 2 := by unfold runE; rw [e]; simp [hs]
      have hE : forkE L g k = 2 := by unfold forkE; rw [hR2]; rfl
      have hN : forkN L g k = 0 := by unfold forkN; rw [hE]; rfl
      have hL : forkL L g k = L := by unfold forkL; rw [hE]; rfl
      have hG : forkG L g k = g := by unfold forkG; rw [hE]; rfl
      rw [hE, hN, hL, hG]
      have b2 : (x.st == 1) = false := by simpa using hs
      have HR := Lib.hid h
      clear h e hE hN hL hG hR2 hlo hi hx hs
      go_enter Try.func25, Try.ntmps25
      go_wp2_with (go_at_call 47; refine HA.out.mono ?_; rintro e w' ⟨rfl, rfl⟩)
      go_ret2
      exact ⟨rfl, ⟨_, _, HR.out⟩, Turn.refl _⟩
end
end Go.Proofs.Ytonllnbincgdpaa
