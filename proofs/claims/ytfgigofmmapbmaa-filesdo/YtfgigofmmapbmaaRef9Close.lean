/- The document's own descriptors of layer 9: Close, walked. Printed by wip/gen/ref9.py. -/
import Derived.Test.YtfgigofmmapbmaaRef9Dup
namespace Go.Proofs.Ytfgigofmmapbmaa
open Go.RowKit

/-- the list without a descriptor. -/
def rmL (L : List FV) (p d : Int) : List FV := match L.findIdx? (FV.is p d) with
  | some i => L.take i ++ L.drop (i + 1)
  | none => L
def clsL (L : List FV) (p d : Int) : List FV := if getE L p d = 0 then rmL L p d else L
def clsB (L : List FV) (p d : Int) : Bool := getE L p d == 0 && refsN (rmL L p d) (fdX L p d).file == 0
theorem rmL_some {L : List FV} {p d : Int} {i : Nat} (h : L.findIdx? (FV.is p d) = some i) : rmL L p d = L.take i ++ L.drop (i + 1) := by unfold rmL; rw [h]

/-- a row of another block than the new one's. -/
theorem row9 {w : World} {base j : Nat} {L : List FV} {v : Value} (hj : j < L.length) (h : w.ownsRow base 67 5 v (0 + j + (L.length - (j + 1))) ([] ++ flat9 (L.take j) ++ flat9 (L.drop (j + 1)))) : FsAt w base v (L.take j ++ L.drop (j + 1)) := by
  have e : (L.take j ++ L.drop (j + 1)).length = 0 + j + (L.length - (j + 1)) := by simp; omega
  unfold FsAt
  rw [e, flat9_append]
  exact h

theorem new9 {w : World} {v : Value} (h : v.ownBlock = (Value.slice none 0 0).ownBlock ∨ v.ownBlock = some w.heap.size) : ∀ k, v.ownBlock = some k → w.heap.size ≤ k := by
  intro k e
  rcases h with h | h
  · rw [h] at e; cases e
  · rw [h] at e; have := Option.some.inj e; omega
theorem new_ne9 {w : World} {v : Value} {b : Nat} (h : v.ownBlock = (Value.slice none 0 0).ownBlock ∨ v.ownBlock = some w.heap.size) (hb : b < w.heap.size) : v.ownBlock ≠ some b := by
  intro e
  have := new9 h b e
  omega
theorem new_two9 {w w5 : World} {v v' : Value} (h : v.ownBlock = (Value.slice none 0 0).ownBlock ∨ v.ownBlock = some w.heap.size) (h' : v'.ownBlock = v.ownBlock ∨ v'.ownBlock = some w5.heap.size) (hs : w.heap.size ≤ w5.heap.size) : ∀ k, v'.ownBlock = some k → w.heap.size ≤ k := by
  intro k e
  rcases h' with c | c
  · exact new9 h k (c ▸ e)
  · rw [c] at e; have := Option.some.inj e; omega

section
variable {w : World} {base q : Nat} {v : Value} {L : List FV} {g : Int}
set_option maxRecDepth 100000 in
set_option maxHeartbeats 2000000 in
theorem close9_no (h : R9 w base q v L g) (hn : L.length ≤ 90000) (p d : Int) (hE : getE L p d ≠ 0) : Calls Try.prog 25 #[.pointer (some ⟨q, 0, none⟩), .int .i64 p, .int .i64 d] w fun e w' =>
    e = .returned (.tuple #[.agg #[.int .i64 0, .int .i64 0], .bool false, .int .i64 (getE L p d)]) ∧ Below w.heap.size w w' := by
  have hR1 := h.below ((Below.refl _ _).alloc (Nat.le_refl _) (.cells #[.int .i64 0, .int .i64 0] 32))
  have HA := Lib.hid (at9 hR1 (by omega) p d)
  unfold getE at *
  by_cases h1 : p < 1
  · rw [if_pos h1]
    clear hR1 h hE
    go_enter Try.func25, Try.ntmps25
    go_wp2
    exact bodyPost_ret (v := .tuple #[.agg #[.int .i64 0, .int .i64 0], .bool false, .int .i64 2]) (by simp [results, Try.results25, go_sem]) rfl ⟨rfl, (Below.refl _ _).alloc (Nat.le_refl _) _⟩
  rw [if_neg h1] at hE ⊢
  by_cases h2 : atI L p d < 0
  · rw [if_pos h2]
    clear hR1 h hE
    generalize atI L p d = i at *
    go_enter Try.func25, Try.ntmps25
    go_wp2_with (go_at_call 31; refine HA.out.mono ?_; rintro e w' ⟨rfl, rfl⟩)
    exact bodyPost_ret (v := .tuple #[.agg #[.int .i64 0, .int .i64 0], .bool false, .int .i64 80]) (by simp [results, Try.results25, go_sem]) rfl ⟨rfl, (Below.refl _ _).alloc (Nat.le_refl _) _⟩
  · exact absurd (if_neg h2) hE

set_option maxRecDepth 100000 in
set_option maxHeartbeats 4000000 in
theorem close9_yes (h : R9 w base q v L g) (hn : L.length ≤ 90000) (p d : Int) (hE : getE L p d = 0) : Calls Try.prog 25 #[.pointer (some ⟨q, 0, none⟩), .int .i64 p, .int .i64 d] w fun e w' =>
    e = .returned (.tuple #[.agg #[.int .i64 (fdX L p d).kind, .int .i64 (fdX L p d).thing], .bool ((refsN (rmL L p d) (fdX L p d).file : Int) == 0), .int .i64 0]) ∧ ∃ v', R9 w' base q v' (rmL L p d) g ∧ Mv9 q v v' w w' := by
  have hR1 := h.below ((Below.refl _ _).alloc (Nat.le_refl _) (.cells #[.int .i64 0, .int .i64 0] 32))
  have HA := Lib.hid (at9 hR1 (by omega) p d)
  unfold getE at hE
  have hp : ¬ p < 1 := fun c => by rw [if_pos c] at hE; cases hE
  rw [if_neg hp] at hE
  have h2 : ¬ atI L p d < 0 := fun c => by rw [if_pos c] at hE; cases hE
  clear hE
  cases e : L.findIdx? (FV.is p d) with
  | none => rw [atI_none e] at h2; exact absurd (by decide) h2
  | some j =>
    have hx := fdX_some e
    have hjl := idx_lt e
    rw [atI_some e] at HA h2
    rw [rmL_some e]
    obtain ⟨i0, hi0, hz0, hz1, hz2⟩ := info_parts Try.infoFd
    have HI0 := Lib.hid hi0; have HZ0 := Lib.hid hz0; have HZ1 := Lib.hid hz1; have HZ2 := Lib.hid hz2
    clear hi0 hz0 hz1 hz2 e
    obtain ⟨a0, cap, rfl, hcap, ha⟩ := h.row.open
    obtain ⟨r, rfl⟩ := ha (by omega)
    have c0 := hR1.c0
    have y0 : (w.alloc (.cells #[.int .i64 0, .int .i64 0] 32)).cell? ⟨r, j * 5, none⟩ = _ := hR1.row.cell hx 0 rfl
    have y1 := hR1.row.cell hx 1 rfl; have y2 := hR1.row.cell hx 2 rfl; have y3 := hR1.row.cell hx 3 rfl; have y4 := hR1.row.cell hx 4 rfl
    have hqlt := h.lt; have hrlt := (h.row.lt r rfl).2
    have hbs : base ≤ w.heap.size := Nat.le_of_lt (Nat.lt_of_le_of_lt h.bq h.lt)
    have HW0 := Lib.hid h.ne
    clear hx ha h
    generalize fdX L p d = x at *
    obtain ⟨x0, x1, x2, x3, x4⟩ := x
    dsimp only at y0 y1 y2 y3 y4 ⊢
    have hRb := hR1.below ((Below.refl _ _).alloc (Nat.le_refl _) (.cells #[.int .i64 x0, .int .i64 x1, .int .i64 x2, .int .i64 x3, .int .i64 x4] 67))
    have b0 := hRb.c0
    have HRb := Lib.hid hRb
    have HBO := Lib.hid ((BoxA.new w 32 #[.int .i64 0, .int .i64 0]).alloc (.cells #[.int .i64 x0, .int .i64 x1, .int .i64 x2, .int .i64 x3, .int .i64 x4] 67))
    have HBX := Lib.hid (BoxA.new (w.alloc (.cells #[.int .i64 0, .int .i64 0] 32)) 67 #[.int .i64 x0, .int .i64 x1, .int .i64 x2, .int .i64 x3, .int .i64 x4])
    have hj0 : (0 : Int) ≤ (j : Int) := by omega
    have hj1 : (j : Int) ≤ (cap : Int) := by omega
    have hj2 : (0 : Int) ≤ (j : Int) + 1 := by omega
    have hj3 : (j : Int) + 1 ≤ (L.length : Int) := by omega
    clear hRb hR1
    obtain ⟨A, hA⟩ : ∃ A, A = L.take j ++ L.drop (j + 1) := ⟨_, rfl⟩
    rw [← hA]
    have HAE := Lib.hid hA
    have HAL := Lib.hid (show A.length ≤ 100000 by rw [hA]; simp; omega)
    clear hA
    by_cases hcj : cap = j + 1
    · subst hcj
      have hLj : L.length = j + 1 := by omega
      have HD0 : Hid (L.drop (j + 1) = []) := by unfold Hid; rw [← hLj, List.drop_length]
      have HLJ := Lib.hid hLj
      clear hLj
      go_enter Try.func25, Try.ntmps25
      go_wp2_with (first
        | (go_at_call 31; refine HA.out.mono ?_; rintro e w' ⟨rfl, rfl⟩)
        | (at_builtin; refine wpList_append_own_at _ rfl (.tmp 29) (.tmp 35) 27 rfl base 67 i0 (.agg FV.zero.cells) 5 40 Try.underlying27 HI0.out HZ0.out HZ1.out HZ2.out rfl (by decide) (.slice none 0 0) 0 [] rfl (World.ownsRow_nil _ _ _ _) ⟨r, 0, none⟩ j (j + 1) (flat9 (L.take j)) rfl (by rw [flat9_len]; simp; omega) (HRb.out.row.news0 j) (flat9_cells _) (by unfold maxLen; omega) (by omega) (by simp; omega) ?_; intro v5 w5 hown5 hgrow5 _ hat5; have HR5 := Lib.hid (HRb.out.keep (hgrow5.block q HRb.out.lt (fun e => by cases e)) (fun k e => hgrow5.block k (HRb.out.row.lt k e).2 (fun e => by cases e))); have k0 := HR5.out.c0; have HO5 := Lib.hid hown5; have HG5 := Lib.hid hgrow5; have HAT5 := Lib.hid hat5; have HBX5 := Lib.hid (HBX.out.keep (hgrow5.block _ HBX.out.lt (fun e => by cases e))); have HBO5 := Lib.hid (HBO.out.keep (hgrow5.block _ HBO.out.lt (fun e => by cases e))); clear hown5 hgrow5 hat5)
        | (at_builtin; refine wpList_append_own_at _ rfl (.tmp 38) (.tmp 45) 27 rfl base 67 i0 (.agg FV.zero.cells) 5 40 Try.underlying27 HI0.out HZ0.out HZ1.out HZ2.out rfl (by decide) v5 (0 + j) ([] ++ flat9 (L.take j)) rfl HO5.out _ 0 _ (flat9 (L.drop (j + 1))) rfl (by rw [flat9_len, List.length_drop]; omega) (by rw [HD0.out]; intro _ _ h; simp [flat9] at h) (flat9_cells _) (by unfold maxLen; omega) (by omega) (Nat.le_of_lt (Nat.lt_of_le_of_lt HR5.out.bq HR5.out.lt)) ?_; intro v6 w6 hown6 hgrow6 _ hat6; have HV5 := Lib.hid (new9 HAT5.out); have hq6 := hgrow6.block q HR5.out.lt (fun e => new_ne9 HAT5.out (by simp; omega) e.symm); have HW6 := Lib.hid (show FsAt w6 base v6 A by rw [HAE.out]; refine row9 hjl ?_; rw [HLJ.out, Nat.sub_self]; exact hown6); have k6 := (World.cell?_of_block (a := ⟨q, 0, none⟩) hq6).trans k0; have kf := (World.frozen?_of_block (a := ⟨q, 0, none⟩) hq6).trans (HR5.out.f 0); have HBX6 := Lib.hid (HBX5.out.keep (hgrow6.block _ HBX5.out.lt (fun e => new_ne9 HAT5.out (by simp) e.symm))); have HBO6 := Lib.hid (HBO5.out.keep (hgrow6.block _ HBO5.out.lt (fun e => new_ne9 HAT5.out (by simp; omega) e.symm))); have HG6 := Lib.hid hgrow6; have HQ6 := Lib.hid hq6; have HV6 := Lib.hid (new_two9 HAT5.out hat6 HG5.out.size); clear hown6 hgrow6 hq6 hat6; obtain ⟨a6, cap6, rfl, -, -⟩ := HW6.out.open))
      have hv6 : ∀ k, (Value.slice a6 A.length cap6).ownBlock = some k → w.heap.size + 2 ≤ k := fun k e => by have := HV6.out k e; simp at this; omega
      have HRF := Lib.hid (HR5.out.put HQ6.out HW6.out (fun e => by have := hv6 q e; omega))
      have HMF := Lib.hid ((((((Mv9.refl (q := q) (v := .slice (some ⟨r, 0, none⟩) L.length (j + 1)) w).alloc (.cells #[.int .i64 0, .int .i64 0] 32)).alloc (.cells #[.int .i64 x0, .int .i64 x1, .int .i64 x2, .int .i64 x3, .int .i64 x4] 67)).grown (v'' := .slice (some ⟨r, 0, none⟩) L.length (j + 1)) HG5.out (fun k e => by cases e) (fun k e => .inl e)).grown (v'' := .slice a6 A.length cap6) HG6.out (fun k e => .inr (by have := HV5.out k e; simp at this; omega)) (fun k e => .inr (by have := hv6 k e; omega))).set 0 (.slice a6 A.length cap6))
      have bX := HBX6.out.setOther (q := q) 0 (.slice a6 A.length cap6) (by simp; omega)
      have bO := HBO6.out.setOther (q := q) 0 (.slice a6 A.length cap6) (by omega)
      simp only [World.size_alloc] at bX
      clear b0 c0 y0 y1 y2 y3 y4 k0 k6 kf
      generalize World.setCell w6 ⟨q, 0, none⟩ (.slice a6 A.length cap6) = W7 at *
      have HRFS := Lib.hid (refs9 (HRF.out.heap (w' := W7.drew) rfl) HAL.out x2)
      have S1 : W7.drew.cell? ⟨w.heap.size + 1, 2, none⟩ = some (.int .i64 x2) ∧ W7.drew.cell? ⟨w.heap.size + 1, 3, none⟩ = some (.int .i64 x3) ∧ W7.drew.cell? ⟨w.heap.size + 1, 4, none⟩ = some (.int .i64 x4) := ⟨bX.at 2 rfl, bX.at 3 rfl, bX.at 4 rfl⟩
      have HBO7 := Lib.hid bO
      have bX2 : BoxA ((W7.setCell ⟨w.heap.size, 0, none⟩ (.int .i64 x3)).setCell ⟨w.heap.size, 1, none⟩ (.int .i64 x4)).drew (w.heap.size + 1) 67 #[.int .i64 x0, .int .i64 x1, .int .i64 x2, .int .i64 x3, .int .i64 x4] := ((bX.setOther (q := w.heap.size) 0 (.int .i64 x3) (by omega)).setOther (q := w.heap.size) 1 (.int .i64 x4) (by omega)).keep rfl
      have S2 := And.intro (bX2.at 2 rfl) (And.intro (bX2.at 3 rfl) (bX2.at 4 rfl))
      clear bX2
      have f0 : W7.drew.frozen? ⟨w.heap.size, 0, none⟩ = false := bO.f 0
      have o0 : W7.drew.cell? ⟨w.heap.size, 0, none⟩ = some (.int .i64 0) := bO.at 0 rfl
      have o1 : W7.drew.cell? ⟨w.heap.size, 1, none⟩ = some (.int .i64 0) := bO.at 1 rfl
      have f0' : W7.frozen? ⟨w.heap.size, 0, none⟩ = false := bO.f 0
      have f1' : W7.frozen? ⟨w.heap.size, 1, none⟩ = false := bO.f 1
      have f1 : W7.drew.frozen? ⟨w.heap.size, 1, none⟩ = false := bO.f 1
      have o0' : W7.cell? ⟨w.heap.size, 0, none⟩ = some (.int .i64 0) := bO.at 0 rfl
      have o1' : W7.cell? ⟨w.heap.size, 1, none⟩ = some (.int .i64 0) := bO.at 1 rfl
      clear bX bO
      go_region_held3 (fun w' => w'.cell? ⟨w.heap.size + 1, 2, none⟩ = some (.int .i64 x2) ∧ w'.cell? ⟨w.heap.size + 1, 3, none⟩ = some (.int .i64 x3) ∧ w'.cell? ⟨w.heap.size + 1, 4, none⟩ = some (.int .i64 x4)) (first | exact S1 | exact S2 | go_keep)
        ((go_at_call 29; refine HRFS.out.mono ?_; rintro e w2 ⟨rfl, rfl⟩))
      obtain ⟨hR8, hM8, o8, o9⟩ : R9 ((W7.setCell ⟨w.heap.size, 0, none⟩ (.int .i64 x3)).setCell ⟨w.heap.size, 1, none⟩ (.int .i64 x4)).drew base q (.slice a6 A.length cap6) A g ∧ Mv9 q (.slice (some ⟨r, 0, none⟩) L.length (j + 1)) (.slice a6 A.length cap6) w ((W7.setCell ⟨w.heap.size, 0, none⟩ (.int .i64 x3)).setCell ⟨w.heap.size, 1, none⟩ (.int .i64 x4)).drew ∧ ((W7.setCell ⟨w.heap.size, 0, none⟩ (.int .i64 x3)).setCell ⟨w.heap.size, 1, none⟩ (.int .i64 x4)).drew.cell? ⟨w.heap.size, 0, none⟩ = some (.int .i64 x3) ∧ ((W7.setCell ⟨w.heap.size, 0, none⟩ (.int .i64 x3)).setCell ⟨w.heap.size, 1, none⟩ (.int .i64 x4)).drew.cell? ⟨w.heap.size, 1, none⟩ = some (.int .i64 x4) := by
        have hb := (HBO7.out.set 0 (.int .i64 x3)).set 1 (.int .i64 x4)
        refine ⟨HRF.out.keep ((heap_setCell_other _ _ _ _ (show q ≠ w.heap.size by omega)).trans (heap_setCell_other _ _ _ _ (show q ≠ w.heap.size by omega))) (fun k e => (heap_setCell_other _ _ _ _ (show k ≠ w.heap.size by have := hv6 k e; omega)).trans (heap_setCell_other _ _ _ _ (show k ≠ w.heap.size by have := hv6 k e; omega))), ((HMF.out.setHi (Nat.le_refl _) 0 _).setHi (Nat.le_refl _) 1 _).drew, hb.at 0 rfl, hb.at 1 rfl⟩
      have HR8 := Lib.hid hR8; have HM8 := Lib.hid hM8
      clear hR8 hM8 S1 S2 f0 f1 f0' f1' o0 o1 o0' o1'
      generalize World.drew ((W7.setCell ⟨w.heap.size, 0, none⟩ (.int .i64 x3)).setCell ⟨w.heap.size, 1, none⟩ (.int .i64 x4)) = W8 at *
      go_wp2
      exact bodyPost_ret (v := .tuple #[.agg #[.int .i64 x3, .int .i64 x4], .bool ((refsN A x2 : Int) == 0), .int .i64 0]) (by simp [results, Try.results25, go_sem, o8, o9]) rfl ⟨rfl, _, HR8.out, HM8.out⟩
    · have hcj1 : j + 1 ≤ cap := by omega
      go_enter Try.func25, Try.ntmps25
      go_wp2_with (first
        | (go_at_call 31; refine HA.out.mono ?_; rintro e w' ⟨rfl, rfl⟩)
        | (at_builtin; refine wpList_append_own_at _ rfl (.tmp 29) (.tmp 35) 27 rfl base 67 i0 (.agg FV.zero.cells) 5 40 Try.underlying27 HI0.out HZ0.out HZ1.out HZ2.out rfl (by decide) (.slice none 0 0) 0 [] rfl (World.ownsRow_nil _ _ _ _) ⟨r, 0, none⟩ j cap (flat9 (L.take j)) rfl (by rw [flat9_len]; simp; omega) (HRb.out.row.news0 j) (flat9_cells _) (by unfold maxLen; omega) (by omega) (by simp; omega) ?_; intro v5 w5 hown5 hgrow5 _ hat5; have HR5 := Lib.hid (HRb.out.keep (hgrow5.block q HRb.out.lt (fun e => by cases e)) (fun k e => hgrow5.block k (HRb.out.row.lt k e).2 (fun e => by cases e))); have k0 := HR5.out.c0; have HO5 := Lib.hid hown5; have HG5 := Lib.hid hgrow5; have HAT5 := Lib.hid hat5; have HBX5 := Lib.hid (HBX.out.keep (hgrow5.block _ HBX.out.lt (fun e => by cases e))); have HBO5 := Lib.hid (HBO.out.keep (hgrow5.block _ HBO.out.lt (fun e => by cases e))); clear hown5 hgrow5 hat5)
        | (at_builtin; refine wpList_append_own_at _ rfl (.tmp 38) (.tmp 45) 27 rfl base 67 i0 (.agg FV.zero.cells) 5 40 Try.underlying27 HI0.out HZ0.out HZ1.out HZ2.out rfl (by decide) v5 (0 + j) ([] ++ flat9 (L.take j)) rfl HO5.out ⟨r, (j + 1) * 5, none⟩ (L.length - (j + 1)) (cap - (j + 1)) (flat9 (L.drop (j + 1))) rfl (by rw [flat9_len, List.length_drop]) (HR5.out.row.news1 (by omega)) (flat9_cells _) (by unfold maxLen; omega) (by omega) (Nat.le_of_lt (Nat.lt_of_le_of_lt HR5.out.bq HR5.out.lt)) ?_; intro v6 w6 hown6 hgrow6 _ hat6; have HV5 := Lib.hid (new9 HAT5.out); have hq6 := hgrow6.block q HR5.out.lt (fun e => new_ne9 HAT5.out (by simp; omega) e.symm); have HW6 := Lib.hid (show FsAt w6 base v6 A by rw [HAE.out]; exact row9 hjl hown6); have k6 := (World.cell?_of_block (a := ⟨q, 0, none⟩) hq6).trans k0; have kf := (World.frozen?_of_block (a := ⟨q, 0, none⟩) hq6).trans (HR5.out.f 0); have HBX6 := Lib.hid (HBX5.out.keep (hgrow6.block _ HBX5.out.lt (fun e => new_ne9 HAT5.out (by simp) e.symm))); have HBO6 := Lib.hid (HBO5.out.keep (hgrow6.block _ HBO5.out.lt (fun e => new_ne9 HAT5.out (by simp; omega) e.symm))); have HG6 := Lib.hid hgrow6; have HQ6 := Lib.hid hq6; have HV6 := Lib.hid (new_two9 HAT5.out hat6 HG5.out.size); clear hown6 hgrow6 hq6 hat6; obtain ⟨a6, cap6, rfl, -, -⟩ := HW6.out.open))
      have hv6 : ∀ k, (Value.slice a6 A.length cap6).ownBlock = some k → w.heap.size + 2 ≤ k := fun k e => by have := HV6.out k e; simp at this; omega
      have HRF := Lib.hid (HR5.out.put HQ6.out HW6.out (fun e => by have := hv6 q e; omega))
      have HMF := Lib.hid ((((((Mv9.refl (q := q) (v := .slice (some ⟨r, 0, none⟩) L.length cap) w).alloc (.cells #[.int .i64 0, .int .i64 0] 32)).alloc (.cells #[.int .i64 x0, .int .i64 x1, .int .i64 x2, .int .i64 x3, .int .i64 x4] 67)).grown (v'' := .slice (some ⟨r, 0, none⟩) L.length cap) HG5.out (fun k e => by cases e) (fun k e => .inl e)).grown (v'' := .slice a6 A.length cap6) HG6.out (fun k e => .inr (by have := HV5.out k e; simp at this; omega)) (fun k e => .inr (by have := hv6 k e; omega))).set 0 (.slice a6 A.length cap6))
      have bX := HBX6.out.setOther (q := q) 0 (.slice a6 A.length cap6) (by simp; omega)
      have bO := HBO6.out.setOther (q := q) 0 (.slice a6 A.length cap6) (by omega)
      simp only [World.size_alloc] at bX
      clear b0 c0 y0 y1 y2 y3 y4 k0 k6 kf
      generalize World.setCell w6 ⟨q, 0, none⟩ (.slice a6 A.length cap6) = W7 at *
      have HRFS := Lib.hid (refs9 (HRF.out.heap (w' := W7.drew) rfl) HAL.out x2)
      have S1 : W7.drew.cell? ⟨w.heap.size + 1, 2, none⟩ = some (.int .i64 x2) ∧ W7.drew.cell? ⟨w.heap.size + 1, 3, none⟩ = some (.int .i64 x3) ∧ W7.drew.cell? ⟨w.heap.size + 1, 4, none⟩ = some (.int .i64 x4) := ⟨bX.at 2 rfl, bX.at 3 rfl, bX.at 4 rfl⟩
      have HBO7 := Lib.hid bO
      have bX2 : BoxA ((W7.setCell ⟨w.heap.size, 0, none⟩ (.int .i64 x3)).setCell ⟨w.heap.size, 1, none⟩ (.int .i64 x4)).drew (w.heap.size + 1) 67 #[.int .i64 x0, .int .i64 x1, .int .i64 x2, .int .i64 x3, .int .i64 x4] := ((bX.setOther (q := w.heap.size) 0 (.int .i64 x3) (by omega)).setOther (q := w.heap.size) 1 (.int .i64 x4) (by omega)).keep rfl
      have S2 := And.intro (bX2.at 2 rfl) (And.intro (bX2.at 3 rfl) (bX2.at 4 rfl))
      clear bX2
      have f0 : W7.drew.frozen? ⟨w.heap.size, 0, none⟩ = false := bO.f 0
      have o0 : W7.drew.cell? ⟨w.heap.size, 0, none⟩ = some (.int .i64 0) := bO.at 0 rfl
      have o1 : W7.drew.cell? ⟨w.heap.size, 1, none⟩ = some (.int .i64 0) := bO.at 1 rfl
      have f0' : W7.frozen? ⟨w.heap.size, 0, none⟩ = false := bO.f 0
      have f1' : W7.frozen? ⟨w.heap.size, 1, none⟩ = false := bO.f 1
      have f1 : W7.drew.frozen? ⟨w.heap.size, 1, none⟩ = false := bO.f 1
      have o0' : W7.cell? ⟨w.heap.size, 0, none⟩ = some (.int .i64 0) := bO.at 0 rfl
      have o1' : W7.cell? ⟨w.heap.size, 1, none⟩ = some (.int .i64 0) := bO.at 1 rfl
      clear bX bO
      go_region_held3 (fun w' => w'.cell? ⟨w.heap.size + 1, 2, none⟩ = some (.int .i64 x2) ∧ w'.cell? ⟨w.heap.size + 1, 3, none⟩ = some (.int .i64 x3) ∧ w'.cell? ⟨w.heap.size + 1, 4, none⟩ = some (.int .i64 x4)) (first | exact S1 | exact S2 | go_keep)
        ((go_at_call 29; refine HRFS.out.mono ?_; rintro e w2 ⟨rfl, rfl⟩))
      obtain ⟨hR8, hM8, o8, o9⟩ : R9 ((W7.setCell ⟨w.heap.size, 0, none⟩ (.int .i64 x3)).setCell ⟨w.heap.size, 1, none⟩ (.int .i64 x4)).drew base q (.slice a6 A.length cap6) A g ∧ Mv9 q (.slice (some ⟨r, 0, none⟩) L.length cap) (.slice a6 A.length cap6) w ((W7.setCell ⟨w.heap.size, 0, none⟩ (.int .i64 x3)).setCell ⟨w.heap.size, 1, none⟩ (.int .i64 x4)).drew ∧ ((W7.setCell ⟨w.heap.size, 0, none⟩ (.int .i64 x3)).setCell ⟨w.heap.size, 1, none⟩ (.int .i64 x4)).drew.cell? ⟨w.heap.size, 0, none⟩ = some (.int .i64 x3) ∧ ((W7.setCell ⟨w.heap.size, 0, none⟩ (.int .i64 x3)).setCell ⟨w.heap.size, 1, none⟩ (.int .i64 x4)).drew.cell? ⟨w.heap.size, 1, none⟩ = some (.int .i64 x4) := by
        have hb := (HBO7.out.set 0 (.int .i64 x3)).set 1 (.int .i64 x4)
        refine ⟨HRF.out.keep ((heap_setCell_other _ _ _ _ (show q ≠ w.heap.size by omega)).trans (heap_setCell_other _ _ _ _ (show q ≠ w.heap.size by omega))) (fun k e => (heap_setCell_other _ _ _ _ (show k ≠ w.heap.size by have := hv6 k e; omega)).trans (heap_setCell_other _ _ _ _ (show k ≠ w.heap.size by have := hv6 k e; omega))), ((HMF.out.setHi (Nat.le_refl _) 0 _).setHi (Nat.le_refl _) 1 _).drew, hb.at 0 rfl, hb.at 1 rfl⟩
      have HR8 := Lib.hid hR8; have HM8 := Lib.hid hM8
      clear hR8 hM8 S1 S2 f0 f1 f0' f1' o0 o1 o0' o1'
      generalize World.drew ((W7.setCell ⟨w.heap.size, 0, none⟩ (.int .i64 x3)).setCell ⟨w.heap.size, 1, none⟩ (.int .i64 x4)) = W8 at *
      go_wp2
      exact bodyPost_ret (v := .tuple #[.agg #[.int .i64 x3, .int .i64 x4], .bool ((refsN A x2 : Int) == 0), .int .i64 0]) (by simp [results, Try.results25, go_sem, o8, o9]) rfl ⟨rfl, _, HR8.out, HM8.out⟩
end
end Go.Proofs.Ytfgigofmmapbmaa
