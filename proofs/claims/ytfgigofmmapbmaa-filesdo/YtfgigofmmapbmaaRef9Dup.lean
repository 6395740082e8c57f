/- The document's own descriptors of layer 9: Get, Dup, walked. Printed by wip/gen/ref9.py. -/
import Derived.Test.YtfgigofmmapbmaaRef9Open
namespace Go.Proofs.Ytfgigofmmapbmaa
open Go.RowKit

def fdX (L : List FV) (p d : Int) : FV := match L.findIdx? (FV.is p d) with
  | some i => L.getD i FV.zero
  | none => FV.zero
theorem fdX_some {L : List FV} {p d : Int} {i : Nat} (h : L.findIdx? (FV.is p d) = some i) : L[i]? = some (fdX L p d) := by
  unfold fdX
  rw [h]
  obtain ⟨hl, _⟩ := List.findIdx?_eq_some_iff_getElem.1 h
  simp [List.getElem?_eq_getElem hl]
theorem fdX_none {L : List FV} {p d : Int} (h : L.findIdx? (FV.is p d) = none) : fdX L p d = FV.zero := by unfold fdX; rw [h]
theorem idx_lt {L : List FV} {P : FV → Bool} {i : Nat} (h : L.findIdx? P = some i) : i < L.length := (List.findIdx?_eq_some_iff_getElem.1 h).1
def getE (L : List FV) (p d : Int) : Int := if p < 1 then 2 else if atI L p d < 0 then 80 else 0
def getX (L : List FV) (p d : Int) : FV := if getE L p d = 0 then fdX L p d else FV.zero
def dupE (L : List FV) (p d : Int) : Int := if p < 1 then 2 else if atI L p d < 0 then 80 else if freeI L p < 0 then 81 else 0

section
variable {w : World} {base q : Nat} {v : Value} {L : List FV} {g : Int}
set_option maxRecDepth 100000 in
set_option maxHeartbeats 2000000 in
theorem get9 (h : R9 w base q v L g) (hn : L.length ≤ 90000) (p d : Int) : Calls Try.prog 16 #[.pointer (some ⟨q, 0, none⟩), .int .i64 p, .int .i64 d] w fun e w' =>
    e = .returned (.tuple #[.agg #[.int .i64 (getX L p d).kind, .int .i64 (getX L p d).thing], .int .i64 (getE L p d)]) ∧ Below w.heap.size w w' := by
  have hR1 := h.below ((Below.refl _ _).alloc (Nat.le_refl _) (.cells #[.int .i64 0, .int .i64 0] 32))
  have HA := Lib.hid (at9 hR1 (by omega) p d)
  have HB := Lib.hid ((Below.refl w.heap.size w).alloc (Nat.le_refl _) (.cells #[.int .i64 0, .int .i64 0] 32))
  unfold getX getE
  by_cases h1 : p < 1
  · rw [if_pos h1]
    rw [if_neg (by decide : ¬ (2 : Int) = 0)]
    clear hR1 h
    go_enter Try.func16, Try.ntmps16
    go_wp2
    exact bodyPost_ret (v := .tuple #[.agg #[.int .i64 0, .int .i64 0], .int .i64 2]) (by simp [results, Try.results16, go_sem]) rfl ⟨rfl, (Below.refl _ _).alloc (Nat.le_refl _) _⟩
  rw [if_neg h1]
  cases e : L.findIdx? (FV.is p d) with
  | none =>
    rw [atI_none e] at HA ⊢
    rw [show (if (-1 : Int) < 0 then (80 : Int) else 0) = 80 from rfl, if_neg (by decide : ¬ (80 : Int) = 0)]
    clear hR1 h e
    go_enter Try.func16, Try.ntmps16
    go_wp2_with (go_at_call 31; refine HA.out.mono ?_; rintro e w' ⟨rfl, rfl⟩)
    exact bodyPost_ret (v := .tuple #[.agg #[.int .i64 0, .int .i64 0], .int .i64 80]) (by simp [results, Try.results16, go_sem]) rfl ⟨rfl, (Below.refl _ _).alloc (Nat.le_refl _) _⟩
  | some i =>
    have hx := fdX_some e
    have hil := idx_lt e
    rw [atI_some e] at HA ⊢
    rw [if_neg (by omega : ¬ (i : Int) < 0), if_pos rfl]
    obtain ⟨a0, cap, rfl, hcap, ha⟩ := h.row.open
    obtain ⟨r, rfl⟩ := ha (by omega)
    have c0 := hR1.c0
    have y3 := hR1.row.cell hx 3 rfl
    have y4 : _ = some (Value.int .i64 (fdX L p d).thing) := hR1.row.cell hx 4 rfl
    have y4' : (w.alloc (.cells #[.int .i64 0, .int .i64 0] 32)).cell? ⟨r, i * 5 + 3 + 1, none⟩ = some (.int .i64 (fdX L p d).thing) := y4
    have hi0 : ¬ (i : Int) < 0 := by omega
    clear hR1 h e hx ha
    generalize fdX L p d = x at *
    obtain ⟨x0, x1, x2, x3, x4⟩ := x
    dsimp only at y3 y4 y4' ⊢
    go_enter Try.func16, Try.ntmps16
    go_wp2_with (go_at_call 31; refine HA.out.mono ?_; rintro e w' ⟨rfl, rfl⟩)
    exact bodyPost_ret (v := .tuple #[.agg #[.int .i64 x3, .int .i64 x4], .int .i64 0]) (by simp [results, Try.results16, go_sem]) rfl ⟨rfl, (Below.refl _ _).alloc (Nat.le_refl _) _⟩

set_option maxRecDepth 100000 in
set_option maxHeartbeats 2000000 in
theorem dup9_no (h : R9 w base q v L g) (hn : L.length ≤ 90000) (p d : Int) (hE : dupE L p d ≠ 0) : Calls Try.prog 24 #[.pointer (some ⟨q, 0, none⟩), .int .i64 p, .int .i64 d] w fun e w' =>
    e = .returned (.tuple #[.int .i64 0, .int .i64 (dupE L p d)]) ∧ w = w' := by
  have HA := Lib.hid (at9 h (by omega) p d)
  have HF := Lib.hid (free9 h (by omega) p)
  clear h
  unfold dupE at *
  by_cases h1 : p < 1
  · rw [if_pos h1]
    clear hE
    go_enter Try.func24, Try.ntmps24
    go_wp2
    go_ret2
    exact ⟨rfl, rfl⟩
  rw [if_neg h1] at hE ⊢
  by_cases h2 : atI L p d < 0
  · rw [if_pos h2]
    clear hE
    generalize atI L p d = i at *
    go_enter Try.func24, Try.ntmps24
    go_wp2_with (go_at_call 31; refine HA.out.mono ?_; rintro e w' ⟨rfl, rfl⟩)
    go_ret2
    exact ⟨rfl, rfl⟩
  rw [if_neg h2] at hE ⊢
  by_cases h3 : freeI L p < 0
  · rw [if_pos h3]
    clear hE
    generalize atI L p d = i at *
    generalize freeI L p = n at *
    go_enter Try.func24, Try.ntmps24
    go_wp2_with (first
      | (go_at_call 31; refine HA.out.mono ?_; rintro e w' ⟨rfl, rfl⟩)
      | (go_at_call 38; refine HF.out.mono ?_; rintro e w' ⟨rfl, rfl⟩))
    go_ret2
    exact ⟨rfl, rfl⟩
  · exact absurd (if_neg h3) hE

set_option maxRecDepth 100000 in
set_option maxHeartbeats 4000000 in
theorem dup9_yes (h : R9 w base q v L g) (hn : L.length ≤ 90000) (p d : Int) (hE : dupE L p d = 0) : Calls Try.prog 24 #[.pointer (some ⟨q, 0, none⟩), .int .i64 p, .int .i64 d] w fun e w' =>
    e = .returned (.tuple #[.int .i64 (freeI L p), .int .i64 0]) ∧ ∃ v', R9 w' base q v' (L ++ [{ fdX L p d with fd := freeI L p }]) g ∧ Mv9 q v v' w w' := by
  have HA := Lib.hid (at9 h (by omega) p d)
  have HF := Lib.hid (free9 h (by omega) p)
  unfold dupE at hE
  have hp : ¬ p < 1 := fun c => by rw [if_pos c] at hE; cases hE
  rw [if_neg hp] at hE
  have h2 : ¬ atI L p d < 0 := fun c => by rw [if_pos c] at hE; cases hE
  rw [if_neg h2] at hE
  have h4 : ¬ freeI L p < 0 := fun c => by rw [if_pos c] at hE; cases hE
  clear hE
  have hfl := freeI_lt L p
  cases e : L.findIdx? (FV.is p d) with
  | none => rw [atI_none e] at h2; exact absurd (by decide) h2
  | some i =>
    have hx := fdX_some e
    have hil := idx_lt e
    rw [atI_some e] at HA h2
    obtain ⟨i0, hi0, hz0, hz1, hz2⟩ := info_parts Try.infoFd
    have HI0 := Lib.hid hi0; have HZ0 := Lib.hid hz0; have HZ1 := Lib.hid hz1; have HZ2 := Lib.hid hz2
    clear hi0 hz0 hz1 hz2 e
    obtain ⟨a0, cap, rfl, hcap, ha⟩ := h.row.open
    obtain ⟨r, rfl⟩ := ha (by omega)
    have HCAP := Lib.hid hcap
    have c0 := h.c0
    have y0 : w.cell? ⟨r, i * 5, none⟩ = _ := h.row.cell hx 0 rfl
    have y1 := h.row.cell hx 1 rfl; have y2 := h.row.cell hx 2 rfl; have y3 := h.row.cell hx 3 rfl; have y4 := h.row.cell hx 4 rfl
    clear hx ha hcap
    generalize fdX L p d = x at *
    generalize freeI L p = m at *
    obtain ⟨x0, x1, x2, x3, x4⟩ := x
    dsimp only at y0 y1 y2 y3 y4 ⊢
    have HM1 := Lib.hid (((Mv9.refl (q := q) (v := .slice (some ⟨r, 0, none⟩) L.length cap) w).alloc (.cells #[.int .i64 x0, .int .i64 m, .int .i64 x2, .int .i64 x3, .int .i64 x4] 67)))
    have HR2 := Lib.hid (h.below ((Below.refl _ _).alloc (Nat.le_refl _) (.cells #[.int .i64 x0, .int .i64 m, .int .i64 x2, .int .i64 x3, .int .i64 x4] 67)))
    have HX := Lib.hid (BoxA.new w 67 #[.int .i64 x0, .int .i64 m, .int .i64 x2, .int .i64 x3, .int .i64 x4])
    have hfar : (Value.slice (some ⟨r, 0, none⟩) L.length cap).ownBlock ≠ some w.heap.size := fun e => by have := (h.row.lt _ e).2; omega
    clear h
    go_enter Try.func24, Try.ntmps24
    go_wp2_with (first
      | (go_at_call 31; refine HA.out.mono ?_; rintro e w' ⟨rfl, rfl⟩)
      | (go_at_call 38; refine HF.out.mono ?_; rintro e w' ⟨rfl, rfl⟩))
    clear c0 y0 y1 y2 y3 y4
    generalize w.alloc (.cells #[.int .i64 x0, .int .i64 m, .int .i64 x2, .int .i64 x3, .int .i64 x4] 67) = W1 at *
    have hRd : R9 W1.drew base q (.slice (some ⟨r, 0, none⟩) L.length cap) L g := HR2.out.heap rfl
    have bXd : BoxA W1.drew w.heap.size 67 #[.int .i64 x0, .int .i64 m, .int .i64 x2, .int .i64 x3, .int .i64 x4] := HX.out.keep rfl
    refine wp_region_stage 10 (S := fun w' => w'.cell? ⟨q, 0, none⟩ = some (.slice (some ⟨r, 0, none⟩) L.length cap) ∧ w'.cell? ⟨w.heap.size, 0, none⟩ = some (.int .i64 x0) ∧ w'.cell? ⟨w.heap.size, 1, none⟩ = some (.int .i64 m) ∧ w'.cell? ⟨w.heap.size, 2, none⟩ = some (.int .i64 x2) ∧ w'.cell? ⟨w.heap.size, 3, none⟩ = some (.int .i64 x3) ∧ w'.cell? ⟨w.heap.size, 4, none⟩ = some (.int .i64 x4)) (by kernel_rfl) ⟨hRd.c0, bXd.at 0 rfl, bXd.at 1 rfl, bXd.at 2 rfl, bXd.at 3 rfl, bXd.at 4 rfl⟩ (fun hHeld => ?_)
    refine takeZ 0 [9, 8, 0] (.pointer (some ⟨q, 0, none⟩)) (some 33) rfl (by kernel_rfl) (by kernel_rfl) (by kernel_rfl) (by kernel_rfl) (fun _ _ _ h => h) (fun oi h => by obtain rfl := Option.some.inj h; rfl) (fun oi h W hS => by obtain rfl := Option.some.inj h; obtain ⟨q1, q2, q3, q4, q5, q6⟩ := hS; go_simp) hHeld ?_
    simp only [Act.put, List.setIfInBounds_toArray, List.set_cons_zero, List.set_cons_succ]
    refine takeZ 1 [7, 4, 3, 2, 1] (.pointer (some ⟨q, 0, none⟩)) (some 34) rfl (by kernel_rfl) (by kernel_rfl) (by kernel_rfl) (by kernel_rfl) (fun _ _ _ h => h) (fun oi h => by obtain rfl := Option.some.inj h; rfl) (fun oi h W hS => by obtain rfl := Option.some.inj h; obtain ⟨q1, q2, q3, q4, q5, q6⟩ := hS; go_simp) hHeld ?_
    simp only [Act.put, List.setIfInBounds_toArray, List.set_cons_zero, List.set_cons_succ]
    refine takeZ 2 [7, 4, 3, 2] (.pointer (some ⟨q, 0, none⟩)) (some 35) rfl (by kernel_rfl) (by kernel_rfl) (by kernel_rfl) (by kernel_rfl) (fun _ _ _ h => h) (fun oi h => by obtain rfl := Option.some.inj h; rfl) (fun oi h W hS => by obtain rfl := Option.some.inj h; obtain ⟨q1, q2, q3, q4, q5, q6⟩ := hS; go_simp) hHeld ?_
    simp only [Act.put, List.setIfInBounds_toArray, List.set_cons_zero, List.set_cons_succ]
    refine takeZ 3 [7, 4, 3] (.pointer (some ⟨q, 0, none⟩)) (some 36) rfl (by kernel_rfl) (by kernel_rfl) (by kernel_rfl) (by kernel_rfl) (fun _ _ _ h => h) (fun oi h => by obtain rfl := Option.some.inj h; rfl) (fun oi h W hS => by obtain rfl := Option.some.inj h; obtain ⟨q1, q2, q3, q4, q5, q6⟩ := hS; go_simp) hHeld ?_
    simp only [Act.put, List.setIfInBounds_toArray, List.set_cons_zero, List.set_cons_succ]
    refine takeZ 4 [7, 4] (.slice (some ⟨r, 0, none⟩) L.length cap) (some 37) rfl (by kernel_rfl) (by kernel_rfl) (by kernel_rfl) (by kernel_rfl) (fun _ _ _ h => h) (fun oi h => by obtain rfl := Option.some.inj h; rfl) (fun oi h W hS => by obtain rfl := Option.some.inj h; obtain ⟨q1, q2, q3, q4, q5, q6⟩ := hS; go_simp) hHeld ?_
    simp only [Act.put, List.setIfInBounds_toArray, List.set_cons_zero, List.set_cons_succ]
    refine takeZ 5 [7, 6, 5] (.agg #[.int .i64 x0, .int .i64 m, .int .i64 x2, .int .i64 x3, .int .i64 x4]) (some 38) rfl (by kernel_rfl) (by kernel_rfl) (by kernel_rfl) (by kernel_rfl) (fun _ _ _ h => h) (fun oi h => by obtain rfl := Option.some.inj h; rfl) (fun oi h W hS => by obtain rfl := Option.some.inj h; obtain ⟨q1, q2, q3, q4, q5, q6⟩ := hS; go_simp) hHeld ?_
    simp only [Act.put, List.setIfInBounds_toArray, List.set_cons_zero, List.set_cons_succ]

    refine wpAnyZ_ready (rs := [6]) (by kernel_rfl) (by simp) ?_
    refine ReadyZ.cons (i := 6) rfl (by decide) (fun K hK => ?_) ReadyZ.nil
    go_simp
    have hRa := hRd.below ((Below.refl _ _).alloc (Nat.le_refl _) (.cells #[.int .i64 x0, .int .i64 m, .int .i64 x2, .int .i64 x3, .int .i64 x4] 67))
    have bXa := bXd.alloc (.cells #[.int .i64 x0, .int .i64 m, .int .i64 x2, .int .i64 x3, .int .i64 x4] 67)
    refine hK.out _ _ ⟨hRa.c0, bXa.at 0 rfl, bXa.at 1 rfl, bXa.at 2 rfl, bXa.at 3 rfl, bXa.at 4 rfl⟩ (fun hHeld => ?_)
    clear hK K
    try simp only [Act.put, List.setIfInBounds_toArray, List.set_cons_zero, List.set_cons_succ]
    refine wpAnyZ_ready (rs := [7]) (by kernel_rfl) (by simp) ?_
    refine ReadyZ.cons (i := 7) rfl (by decide) (fun K hK => ?_) ReadyZ.nil
    refine step_append_lies _ (by rfl) _ _ _ (by rfl) base 67 i0 _ 5 40 Try.underlying27 HI0.out HZ0.out HZ1.out HZ2.out rfl (by omega) (.slice (some ⟨r, 0, none⟩) L.length cap) L.length (flat9 L) (by rfl) hRa.row ⟨W1.heap.size, 0, none⟩ 1 1 (Array.toList #[.int .i64 x0, .int .i64 m, .int .i64 x2, .int .i64 x3, .int .i64 x4]) (by rfl) (by rfl) (World.news_of_block (cs := #[.int .i64 x0, .int .i64 m, .int .i64 x2, .int .i64 x3, .int .i64 x4]) (t := 67) (fr := (0, 0)) (heap_alloc_new W1 _)) (by simp [Value.oneCell']) (by omega) (by unfold maxLen; omega) (by omega) (Nat.le_of_lt (Nat.lt_of_le_of_lt hRa.bq hRa.lt)) (W1.heap.size + 1) (by simp) ?_
    intro gg cap' w7 hown7 hgrow7 hat7 _
    have hq7 := hgrow7.block q hRa.lt (fun e => hRa.ne e.symm)
    have hb7 := hgrow7.block w.heap.size bXa.lt (fun e => hfar e.symm)
    have bX7 := bXa.keep hb7
    have hc7 := (World.cell?_of_block (a := ⟨q, 0, none⟩) hq7).trans hRa.c0
    have hd7 := (World.cell?_of_block (a := ⟨q, 1, none⟩) hq7).trans hRa.c1
    have hf7 := (World.frozen?_of_block (a := ⟨q, 0, none⟩) hq7).trans (hRa.f 0)
    have HRa := Lib.hid hRa; have HO7 := Lib.hid hown7; have HG7 := Lib.hid hgrow7; have HAT := Lib.hid hat7; have HQ7 := Lib.hid hq7
    refine hK.out _ _ ⟨hc7, bX7.at 0 rfl, bX7.at 1 rfl, bX7.at 2 rfl, bX7.at 3 rfl, bX7.at 4 rfl⟩ (fun hHeld => ?_)
    clear hK K hRa hown7 hgrow7 hat7 hq7 hb7
    change wpAnyZ _ _ _ _ _ _ _ _ (Act.put _ (some 40) _) _
    simp only [Act.put, List.setIfInBounds_toArray, List.set_cons_zero, List.set_cons_succ]
    refine takeZ 8 [9, 8] (.pointer (some ⟨q, 0, none⟩)) (some 41) rfl (by kernel_rfl) (by kernel_rfl) (by kernel_rfl) (by kernel_rfl) (fun _ _ _ h => h) (fun oi h => by obtain rfl := Option.some.inj h; rfl) (fun oi h W hS => by obtain rfl := Option.some.inj h; obtain ⟨q1, q2, q3, q4, q5, q6⟩ := hS; go_simp) hHeld ?_
    simp only [Act.put, List.setIfInBounds_toArray, List.set_cons_zero, List.set_cons_succ]
    refine takeZ 9 [9] (.pointer (some ⟨q, 0, none⟩)) (some 42) rfl (by kernel_rfl) (by kernel_rfl) (by kernel_rfl) (by kernel_rfl) (fun _ _ _ h => h) (fun oi h => by obtain rfl := Option.some.inj h; rfl) (fun oi h W hS => by obtain rfl := Option.some.inj h; obtain ⟨q1, q2, q3, q4, q5, q6⟩ := hS; go_simp) hHeld ?_
    simp only [Act.put, List.setIfInBounds_toArray, List.set_cons_zero, List.set_cons_succ]
    refine wpAnyZ_ready (rs := [10]) (by kernel_rfl) (by simp) ?_
    refine ReadyZ.last rfl (fun K hK => ?_)
    go_simp
    refine hK.out _ _ ?_
    clear hK K hc7 hd7 hf7 hHeld
    refine wpAny_done (by kernel_rfl) ?_ _
    refine Nrm.intro ?_
    have HM7 := Lib.hid ((((HM1.out.drew).alloc (.cells #[.int .i64 x0, .int .i64 m, .int .i64 x2, .int .i64 x3, .int .i64 x4] 67)).grown (v'' := .slice (some ⟨gg, 0, none⟩) (L.length + 1) cap') HG7.out (fun k e => .inl e) (fun k e => by
      simp [Value.ownBlock] at e
      subst e
      rcases HAT.out with c | c
      · exact .inl c
      · refine .inr ?_; have := HM1.out.size; omega)).set 0 (.slice (some ⟨gg, 0, none⟩) (L.length + 1) cap'))
    have HR7 := Lib.hid (HRa.out.app (c := ⟨x0, m, x2, x3, x4⟩) HG7.out HO7.out HAT.out (by have := HR2.out.lt; omega))
    generalize World.setCell w7 ⟨q, 0, none⟩ (.slice (some ⟨gg, 0, none⟩) (L.length + 1) cap') = W7 at *
    go_wp2
    go_ret2
    exact ⟨rfl, _, HR7.out, HM7.out⟩
end
end Go.Proofs.Ytfgigofmmapbmaa
