/- The document's own descriptors of layer 9: Open, walked. Printed by wip/gen/ref9.py. -/
import Derived.Test.YtfgigofmmapbmaaRef9At
import Derived.Test.YtfgigofmmapbmaaRiStage
namespace Go.Proofs.Ytfgigofmmapbmaa
open Go.RowKit

def openE (L : List FV) (n : Nat) (p k t : Int) : Int := if p < 1 ∨ k < 1 ∨ t < 0 then 2 else if freeI L p < 0 then 81 else if 32 ≤ cntN L n then 82 else 0
def openN (L : List FV) (n : Nat) (p k t : Int) : Int := if openE L n p k t = 0 then freeI L p else 0
def openL (L : List FV) (n : Nat) (p k t : Int) : List FV := if openE L n p k t = 0 then L ++ [⟨p, freeI L p, (n : Int) + 1, k, t⟩] else L
def openG (L : List FV) (n : Nat) (p k t : Int) : Nat := if openE L n p k t = 0 then n + 1 else n
/-- a block of another type is not the row. -/
theorem box_far {w : World} {base b : Nat} {t : TypeId} {xs : Array Value} {v : Value} {A : List FV} (h : FsAt w base v A) (hb : BoxA w b t xs) (ht : t ≠ 67) : v.ownBlock ≠ some b := by
  intro e
  rcases h.2 with ⟨rfl, _⟩ | ⟨k, cap, cur, rfl, _, hgg, _⟩
  · cases e
  · simp [Value.ownBlock] at e
    subst e
    rw [hb.blk] at hgg
    cases hgg
    exact ht rfl
theorem freeI_lt (L : List FV) (p : Int) : freeI L p < 8 := by
  unfold freeI
  cases e : (List.range 8).find? (fun d : Nat => (L.findIdx? (FV.is p d)).isNone) with
  | none => simp
  | some d => have := List.mem_of_find?_eq_some e; simp at this; simp; omega

/-- a list with one more stored. -/
theorem R9.app {w w7 : World} {base q gg cap' : Nat} {v : Value} {L : List FV} {g : Int} {H : Nat} {c : FV} (h : R9 w base q v L g) (hg : w.grownBy w7 v.ownBlock)
    (hown : w7.ownsRow base 67 5 (.slice (some ⟨gg, 0, none⟩) (L.length + 1) cap') (L.length + 1) (flat9 L ++ c.cells.toList)) (hat : v.ownBlock = some gg ∨ gg = H) (hH : q < H) :
    R9 (w7.setCell ⟨q, 0, none⟩ (.slice (some ⟨gg, 0, none⟩) (L.length + 1) cap')) base q (.slice (some ⟨gg, 0, none⟩) (L.length + 1) cap') (L ++ [c]) g := by
  refine h.put (hg.block q h.lt (fun e => h.ne e.symm)) ?_ ?_
  · unfold FsAt
    rw [flat9_append, flat9_one, show (L ++ [c]).length = L.length + 1 by simp]
    exact hown
  · intro e
    simp [Value.ownBlock] at e
    rcases hat with c | c
    · exact h.ne (by rw [c, e])
    · omega

section
variable {w : World} {base q : Nat} {v : Value} {L : List FV} {n : Nat}
set_option maxRecDepth 100000 in
set_option maxHeartbeats 2000000 in
theorem open9_no (h : R9 w base q v L n) (hn : L.length ≤ 100000) (hg : n ≤ 90000) (p k t : Int) (hE : openE L n p k t ≠ 0) : Calls Try.prog 23 #[.pointer (some ⟨q, 0, none⟩), .int .i64 p, .agg #[.int .i64 k, .int .i64 t]] w fun e w' =>
    e = .returned (.tuple #[.int .i64 0, .int .i64 (openE L n p k t)]) ∧ Below w.heap.size w w' := by
  have hR1 := h.below ((Below.refl _ _).alloc (Nat.le_refl _) (.cells #[.int .i64 k, .int .i64 t] 32))
  have HF := Lib.hid (free9 hR1 hn p)
  have HC := Lib.hid (count9 hR1 hn (by omega))
  have hcl := cntN_le L n
  have HB := Lib.hid ((Below.refl w.heap.size w).alloc (Nat.le_refl _) (.cells #[.int .i64 k, .int .i64 t] 32))
  clear hR1 h
  unfold openE at *
  by_cases h1 : p < 1
  · rw [if_pos (.inl h1)]
    clear hE
    go_enter Try.func23, Try.ntmps23
    go_wp2
    go_ret2
    exact ⟨rfl, HB.out⟩
  by_cases h2 : k < 1
  · rw [if_pos (.inr (.inl h2))]
    clear hE
    go_enter Try.func23, Try.ntmps23
    go_wp2
    go_ret2
    exact ⟨rfl, HB.out⟩
  by_cases h3 : t < 0
  · rw [if_pos (.inr (.inr h3))]
    clear hE
    go_enter Try.func23, Try.ntmps23
    go_wp2
    go_ret2
    exact ⟨rfl, HB.out⟩
  rw [if_neg (by omega)] at hE ⊢
  by_cases h4 : freeI L p < 0
  · rw [if_pos h4]
    clear hE
    generalize freeI L p = d at *
    go_enter Try.func23, Try.ntmps23
    go_wp2_with (go_at_call 38; refine HF.out.mono ?_; rintro e w' ⟨rfl, rfl⟩)
    go_ret2
    exact ⟨rfl, HB.out⟩
  rw [if_neg h4] at hE ⊢
  by_cases h5 : 32 ≤ cntN L n
  · rw [if_pos h5]
    clear hE
    generalize freeI L p = d at *
    generalize cntN L n = c at *
    have h5' : (32 : Int) ≤ (c : Int) := by omega
    go_enter Try.func23, Try.ntmps23
    go_wp2_with (first
      | (go_at_call 38; refine HF.out.mono ?_; rintro e w' ⟨rfl, rfl⟩)
      | (go_at_call 14; refine HC.out.mono ?_; rintro e w' ⟨rfl, rfl⟩))
    go_ret2
    exact ⟨rfl, HB.out⟩
  · exact absurd (if_neg h5) hE

set_option maxRecDepth 100000 in
set_option maxHeartbeats 4000000 in
theorem open9_yes (h : R9 w base q v L n) (hn : L.length ≤ 90000) (hg : n ≤ 90000) (p k t : Int) (hE : openE L n p k t = 0) : Calls Try.prog 23 #[.pointer (some ⟨q, 0, none⟩), .int .i64 p, .agg #[.int .i64 k, .int .i64 t]] w fun e w' =>
    e = .returned (.tuple #[.int .i64 (freeI L p), .int .i64 0]) ∧ ∃ v', R9 w' base q v' (L ++ [⟨p, freeI L p, (n : Int) + 1, k, t⟩]) (n + 1 : Nat) ∧ Mv9 q v v' w w' := by
  have hR1 := h.below ((Below.refl _ _).alloc (Nat.le_refl _) (.cells #[.int .i64 k, .int .i64 t] 32))
  have HF := Lib.hid (free9 hR1 (by omega) p)
  have HC := Lib.hid (count9 hR1 (by omega) (by omega))
  unfold openE at hE
  have h123 : ¬ (p < 1 ∨ k < 1 ∨ t < 0) := fun c => by rw [if_pos c] at hE; cases hE
  rw [if_neg h123] at hE
  have h4 : ¬ freeI L p < 0 := fun c => by rw [if_pos c] at hE; cases hE
  rw [if_neg h4] at hE
  have h5 : ¬ 32 ≤ cntN L n := fun c => by rw [if_pos c] at hE; cases hE
  clear hE
  have hp : ¬ p < 1 := by omega
  have hk : ¬ k < 1 := by omega
  have ht : ¬ t < 0 := by omega
  have h5' : ¬ (32 : Int) ≤ (cntN L n : Int) := by omega
  have hfl := freeI_lt L p
  obtain ⟨i0, hi0, hz0, hz1, hz2⟩ := info_parts Try.infoFd
  have HI0 := Lib.hid hi0; have HZ0 := Lib.hid hz0; have HZ1 := Lib.hid hz1; have HZ2 := Lib.hid hz2
  have HM1 := Lib.hid (((Mv9.refl (q := q) (v := v) w).alloc (.cells #[.int .i64 k, .int .i64 t] 32)).set 1 (.int .i64 ((n : Int) + 1)))
  have HW := Lib.hid h.lt
  have c0 := hR1.c0; have c1 := hR1.c1; have f1 := hR1.f 1
  have HR2 := Lib.hid (hR1.setG ((n : Int) + 1))
  have HX := Lib.hid ((BoxA.new w 32 #[.int .i64 k, .int .i64 t]).setOther (q := q) 1 (.int .i64 ((n : Int) + 1)) (by have := h.lt; omega))
  obtain ⟨a0, cap, rfl, hcap, -⟩ := h.row.open
  have HCAP := Lib.hid hcap
  clear hR1 h hi0 hz0 hz1 hz2 h123 hcap
  generalize freeI L p = d at *
  generalize cntN L n = c at *
  go_enter Try.func23, Try.ntmps23
  go_wp2_with (first
    | (go_at_call 38; refine HF.out.mono ?_; rintro e w' ⟨rfl, rfl⟩)
    | (go_at_call 14; refine HC.out.mono ?_; rintro e w' ⟨rfl, rfl⟩))
  clear c0 c1 f1
  generalize World.setCell (w.alloc (.cells #[.int .i64 k, .int .i64 t] 32)) ⟨q, 1, none⟩ (.int .i64 ((n : Int) + 1)) = W1 at *
  have hRd : R9 W1.drew base q (.slice a0 L.length cap) L ((n : Int) + 1) := HR2.out.heap rfl
  have bXd : BoxA W1.drew w.heap.size 32 #[.int .i64 k, .int .i64 t] := HX.out.keep rfl
  have hfar : (Value.slice a0 L.length cap).ownBlock ≠ some w.heap.size := box_far hRd.row bXd (by decide)
  refine wp_region_stage 17 (S := fun w' => w'.cell? ⟨q, 0, none⟩ = some (.slice a0 L.length cap) ∧ w'.cell? ⟨q, 1, none⟩ = some (.int .i64 ((n : Int) + 1)) ∧ w'.cell? ⟨w.heap.size, 0, none⟩ = some (.int .i64 k) ∧ w'.cell? ⟨w.heap.size, 1, none⟩ = some (.int .i64 t)) (by kernel_rfl) ⟨hRd.c0, hRd.c1, bXd.at 0 rfl, bXd.at 1 rfl⟩ (fun hHeld => ?_)
  refine takeZ 0 [16, 15, 0] (.pointer (some ⟨q, 0, none⟩)) (some 37) rfl (by kernel_rfl) (by kernel_rfl) (by kernel_rfl) (by kernel_rfl) (fun _ _ _ h => h) (fun oi h => by obtain rfl := Option.some.inj h; rfl) (fun oi h W hS => by obtain rfl := Option.some.inj h; obtain ⟨q1, q2, q3, q4⟩ := hS; go_simp) hHeld ?_
  simp only [Act.put, List.setIfInBounds_toArray, List.set_cons_zero, List.set_cons_succ]
  refine takeZ 1 [14, 4, 3, 2, 1] (.pointer (some ⟨q, 0, none⟩)) (some 38) rfl (by kernel_rfl) (by kernel_rfl) (by kernel_rfl) (by kernel_rfl) (fun _ _ _ h => h) (fun oi h => by obtain rfl := Option.some.inj h; rfl) (fun oi h W hS => by obtain rfl := Option.some.inj h; obtain ⟨q1, q2, q3, q4⟩ := hS; go_simp) hHeld ?_
  simp only [Act.put, List.setIfInBounds_toArray, List.set_cons_zero, List.set_cons_succ]
  refine takeZ 2 [14, 4, 3, 2] (.pointer (some ⟨q, 0, none⟩)) (some 39) rfl (by kernel_rfl) (by kernel_rfl) (by kernel_rfl) (by kernel_rfl) (fun _ _ _ h => h) (fun oi h => by obtain rfl := Option.some.inj h; rfl) (fun oi h W hS => by obtain rfl := Option.some.inj h; obtain ⟨q1, q2, q3, q4⟩ := hS; go_simp) hHeld ?_
  simp only [Act.put, List.setIfInBounds_toArray, List.set_cons_zero, List.set_cons_succ]
  refine takeZ 3 [14, 4, 3] (.pointer (some ⟨q, 0, none⟩)) (some 40) rfl (by kernel_rfl) (by kernel_rfl) (by kernel_rfl) (by kernel_rfl) (fun _ _ _ h => h) (fun oi h => by obtain rfl := Option.some.inj h; rfl) (fun oi h W hS => by obtain rfl := Option.some.inj h; obtain ⟨q1, q2, q3, q4⟩ := hS; go_simp) hHeld ?_
  simp only [Act.put, List.setIfInBounds_toArray, List.set_cons_zero, List.set_cons_succ]
  refine takeZ 4 [14, 4] (.slice a0 L.length cap) (some 41) rfl (by kernel_rfl) (by kernel_rfl) (by kernel_rfl) (by kernel_rfl) (fun _ _ _ h => h) (fun oi h => by obtain rfl := Option.some.inj h; rfl) (fun oi h W hS => by obtain rfl := Option.some.inj h; obtain ⟨q1, q2, q3, q4⟩ := hS; go_simp) hHeld ?_
  simp only [Act.put, List.setIfInBounds_toArray, List.set_cons_zero, List.set_cons_succ]
  refine takeZ 5 [14, 13, 12, 5] (.int .i64 p) (some 42) rfl (by kernel_rfl) (by kernel_rfl) (by kernel_rfl) (by kernel_rfl) (fun _ _ _ h => h) (fun oi h => by obtain rfl := Option.some.inj h; rfl) (fun oi h W hS => by obtain rfl := Option.some.inj h; obtain ⟨q1, q2, q3, q4⟩ := hS; go_simp) hHeld ?_
  simp only [Act.put, List.setIfInBounds_toArray, List.set_cons_zero, List.set_cons_succ]
  refine takeZ 6 [14, 13, 12, 6] (.int .i64 d) (some 43) rfl (by kernel_rfl) (by kernel_rfl) (by kernel_rfl) (by kernel_rfl) (fun _ _ _ h => h) (fun oi h => by obtain rfl := Option.some.inj h; rfl) (fun oi h W hS => by obtain rfl := Option.some.inj h; obtain ⟨q1, q2, q3, q4⟩ := hS; go_simp) hHeld ?_
  simp only [Act.put, List.setIfInBounds_toArray, List.set_cons_zero, List.set_cons_succ]
  refine takeZ 7 [14, 13, 12, 10, 9, 8, 7] (.pointer (some ⟨q, 0, none⟩)) (some 44) rfl (by kernel_rfl) (by kernel_rfl) (by kernel_rfl) (by kernel_rfl) (fun _ _ _ h => h) (fun oi h => by obtain rfl := Option.some.inj h; rfl) (fun oi h W hS => by obtain rfl := Option.some.inj h; obtain ⟨q1, q2, q3, q4⟩ := hS; go_simp) hHeld ?_
  simp only [Act.put, List.setIfInBounds_toArray, List.set_cons_zero, List.set_cons_succ]
  refine takeZ 8 [14, 13, 12, 10, 9, 8] (.pointer (some ⟨q, 0, none⟩)) (some 45) rfl (by kernel_rfl) (by kernel_rfl) (by kernel_rfl) (by kernel_rfl) (fun _ _ _ h => h) (fun oi h => by obtain rfl := Option.some.inj h; rfl) (fun oi h W hS => by obtain rfl := Option.some.inj h; obtain ⟨q1, q2, q3, q4⟩ := hS; go_simp) hHeld ?_
  simp only [Act.put, List.setIfInBounds_toArray, List.set_cons_zero, List.set_cons_succ]
  refine takeZ 9 [14, 13, 12, 10, 9] (.pointer (some ⟨q, 1, none⟩)) (some 46) rfl (by kernel_rfl) (by kernel_rfl) (by kernel_rfl) (by kernel_rfl) (fun _ _ _ h => h) (fun oi h => by obtain rfl := Option.some.inj h; rfl) (fun oi h W hS => by obtain rfl := Option.some.inj h; obtain ⟨q1, q2, q3, q4⟩ := hS; go_simp) hHeld ?_
  simp only [Act.put, List.setIfInBounds_toArray, List.set_cons_zero, List.set_cons_succ]
  refine takeZ 10 [14, 13, 12, 10] (.int .i64 ((n : Int) + 1)) (some 47) rfl (by kernel_rfl) (by kernel_rfl) (by kernel_rfl) (by kernel_rfl) (fun _ _ _ h => h) (fun oi h => by obtain rfl := Option.some.inj h; rfl) (fun oi h W hS => by obtain rfl := Option.some.inj h; obtain ⟨q1, q2, q3, q4⟩ := hS; go_simp) hHeld ?_
  simp only [Act.put, List.setIfInBounds_toArray, List.set_cons_zero, List.set_cons_succ]
  refine takeZ 11 [14, 13, 12, 11] (.agg #[.int .i64 k, .int .i64 t]) (some 48) rfl (by kernel_rfl) (by kernel_rfl) (by kernel_rfl) (by kernel_rfl) (fun _ _ _ h => h) (fun oi h => by obtain rfl := Option.some.inj h; rfl) (fun oi h W hS => by obtain rfl := Option.some.inj h; obtain ⟨q1, q2, q3, q4⟩ := hS; go_simp) hHeld ?_
  simp only [Act.put, List.setIfInBounds_toArray, List.set_cons_zero, List.set_cons_succ]
  refine takeZ 12 [14, 13, 12] (.agg #[.int .i64 p, .int .i64 d, .int .i64 ((n : Int) + 1), .int .i64 k, .int .i64 t]) (some 49) rfl (by kernel_rfl) (by kernel_rfl) (by kernel_rfl) (by kernel_rfl) (fun _ _ _ h => h) (fun oi h => by obtain rfl := Option.some.inj h; rfl) (fun oi h W hS => by obtain rfl := Option.some.inj h; obtain ⟨q1, q2, q3, q4⟩ := hS; go_simp) hHeld ?_
  simp only [Act.put, List.setIfInBounds_toArray, List.set_cons_zero, List.set_cons_succ]

  refine wpAnyZ_ready (rs := [13]) (by kernel_rfl) (by simp) ?_
  refine ReadyZ.cons (i := 13) rfl (by decide) (fun K hK => ?_) ReadyZ.nil
  go_simp
  have hRa := hRd.below ((Below.refl _ _).alloc (Nat.le_refl _) (.cells #[.int .i64 p, .int .i64 d, .int .i64 ((n : Int) + 1), .int .i64 k, .int .i64 t] 67))
  have bXa := bXd.alloc (.cells #[.int .i64 p, .int .i64 d, .int .i64 ((n : Int) + 1), .int .i64 k, .int .i64 t] 67)
  refine hK.out _ _ ⟨hRa.c0, hRa.c1, bXa.at 0 rfl, bXa.at 1 rfl⟩ (fun hHeld => ?_)
  clear hK K
  try simp only [Act.put, List.setIfInBounds_toArray, List.set_cons_zero, List.set_cons_succ]
  refine wpAnyZ_ready (rs := [14]) (by kernel_rfl) (by simp) ?_
  refine ReadyZ.cons (i := 14) rfl (by decide) (fun K hK => ?_) ReadyZ.nil
  refine step_append_lies _ (by rfl) _ _ _ (by rfl) base 67 i0 _ 5 40 Try.underlying27 HI0.out HZ0.out HZ1.out HZ2.out rfl (by omega) (.slice a0 L.length cap) L.length (flat9 L) (by rfl) hRa.row ⟨W1.heap.size, 0, none⟩ 1 1 (Array.toList #[.int .i64 p, .int .i64 d, .int .i64 ((n : Int) + 1), .int .i64 k, .int .i64 t]) (by rfl) (by rfl) (World.news_of_block (cs := #[.int .i64 p, .int .i64 d, .int .i64 ((n : Int) + 1), .int .i64 k, .int .i64 t]) (t := 67) (fr := (0, 0)) (heap_alloc_new W1 _)) (by simp [Value.oneCell']) (by omega) (by unfold maxLen; omega) (by omega) (Nat.le_of_lt (Nat.lt_of_le_of_lt hRa.bq hRa.lt)) (W1.heap.size + 1) (by simp) ?_
  intro gg cap' w7 hown7 hgrow7 hat7 _
  have hq7 := hgrow7.block q hRa.lt (fun e => hRa.ne e.symm)
  have hb7 := hgrow7.block w.heap.size bXa.lt (fun e => hfar e.symm)
  have bX7 := bXa.keep hb7
  have hc7 := (World.cell?_of_block (a := ⟨q, 0, none⟩) hq7).trans hRa.c0
  have hd7 := (World.cell?_of_block (a := ⟨q, 1, none⟩) hq7).trans hRa.c1
  have hf7 := (World.frozen?_of_block (a := ⟨q, 0, none⟩) hq7).trans (hRa.f 0)
  have HRa := Lib.hid hRa; have HO7 := Lib.hid hown7; have HG7 := Lib.hid hgrow7; have HAT := Lib.hid hat7; have HQ7 := Lib.hid hq7
  refine hK.out _ _ ⟨hc7, hd7, bX7.at 0 rfl, bX7.at 1 rfl⟩ (fun hHeld => ?_)
  clear hK K hRa hown7 hgrow7 hat7 hq7 hb7
  change wpAnyZ _ _ _ _ _ _ _ _ (Act.put _ (some 51) _) _
  simp only [Act.put, List.setIfInBounds_toArray, List.set_cons_zero, List.set_cons_succ]
  refine takeZ 15 [16, 15] (.pointer (some ⟨q, 0, none⟩)) (some 52) rfl (by kernel_rfl) (by kernel_rfl) (by kernel_rfl) (by kernel_rfl) (fun _ _ _ h => h) (fun oi h => by obtain rfl := Option.some.inj h; rfl) (fun oi h W hS => by obtain rfl := Option.some.inj h; obtain ⟨q1, q2, q3, q4⟩ := hS; go_simp) hHeld ?_
  simp only [Act.put, List.setIfInBounds_toArray, List.set_cons_zero, List.set_cons_succ]
  refine takeZ 16 [16] (.pointer (some ⟨q, 0, none⟩)) (some 53) rfl (by kernel_rfl) (by kernel_rfl) (by kernel_rfl) (by kernel_rfl) (fun _ _ _ h => h) (fun oi h => by obtain rfl := Option.some.inj h; rfl) (fun oi h W hS => by obtain rfl := Option.some.inj h; obtain ⟨q1, q2, q3, q4⟩ := hS; go_simp) hHeld ?_
  simp only [Act.put, List.setIfInBounds_toArray, List.set_cons_zero, List.set_cons_succ]
  refine wpAnyZ_ready (rs := [17]) (by kernel_rfl) (by simp) ?_
  refine ReadyZ.last rfl (fun K hK => ?_)
  go_simp
  refine hK.out _ _ ?_
  clear hK K hc7 hd7 hf7 hHeld
  refine wpAny_done (by kernel_rfl) ?_ _
  refine Nrm.intro ?_
  have HM7 := Lib.hid ((((HM1.out.drew).alloc (.cells #[.int .i64 p, .int .i64 d, .int .i64 ((n : Int) + 1), .int .i64 k, .int .i64 t] 67)).grown (v'' := .slice (some ⟨gg, 0, none⟩) (L.length + 1) cap') HG7.out (fun k e => .inl e) (fun k e => by
    simp [Value.ownBlock] at e
    subst e
    rcases HAT.out with c | c
    · exact .inl c
    · refine .inr ?_; have := HM1.out.size; omega)).set 0 (.slice (some ⟨gg, 0, none⟩) (L.length + 1) cap'))
  have HR7 := Lib.hid (HRa.out.app (c := ⟨p, d, (n : Int) + 1, k, t⟩) HG7.out HO7.out HAT.out (by have := HR2.out.lt; omega))
  generalize World.setCell w7 ⟨q, 0, none⟩ (.slice (some ⟨gg, 0, none⟩) (L.length + 1) cap') = W7 at *
  go_wp2
  go_ret2
  exact ⟨rfl, _, HR7.out, HM7.out⟩
end
end Go.Proofs.Ytfgigofmmapbmaa
