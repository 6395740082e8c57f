/- The document's own table of processes (taffrailref06): Wait, walked. -/
import Derived.Test.YtonllnbincgdpaaRef6Ops
import Derived.Maps.AppendAt
namespace Go.Proofs.Ytonllnbincgdpaa
open Go.RowKit

/-- the error so far. -/
def anyE (L : List PV) (k : Int) : Int := if L.any (fun q => q.par == k) then 63 else 62
theorem anyE_no {L : List PV} {k : Int} {x : PV} (h : x.par ≠ k) : anyE (L ++ [x]) k = anyE L k := by
  unfold anyE
  rw [List.any_append]
  simp [h]
theorem anyE_yes {L : List PV} {k : Int} {x : PV} (h : x.par = k) : anyE (L ++ [x]) k = 63 := by
  unfold anyE
  rw [List.any_append]
  simp [h]
theorem find_at {P : PV → Bool} {L : List PV} {j : Nat} {x : PV} (hx : L[j]? = some x) (hP : P x = true) (hlo : ∀ i y, i < j → L[i]? = some y → P y = false) : L.find? P = some x := by
  obtain ⟨hl, rfl⟩ := List.getElem?_eq_some_iff.1 hx
  refine List.find?_eq_some_iff_append.2 ⟨hP, L.take j, L.drop (j + 1), by rw [List.getElem_cons_drop hl, List.take_append_drop], fun y hy => ?_⟩
  obtain ⟨i, hi, rfl⟩ := List.mem_iff_getElem.1 hy
  have hij : i < j := by simp at hi; omega
  have := hlo i _ hij (List.getElem?_eq_getElem (by omega))
  simpa using this
theorem find_no {P : PV → Bool} {L : List PV} (hlo : ∀ i y, i < L.length → L[i]? = some y → P y = false) : L.find? P = none := by
  rw [List.find?_eq_none]
  intro y hy
  obtain ⟨i, hi, rfl⟩ := List.mem_iff_getElem.1 hy
  have := hlo i _ hi (List.getElem?_eq_getElem hi)
  simpa using this
theorem no_next {P : PV → Bool} {L : List PV} {j : Nat} {x : PV} (h : ∀ i y, i < j → L[i]? = some y → P y = false) (hx : L[j]? = some x) (hP : P x = false) : ∀ i y, i < j + 1 → L[i]? = some y → P y = false := by
  intro i y hi hy
  rcases Nat.lt_or_ge i j with c | c
  · exact h i y c hy
  · obtain rfl : i = j := by omega
    rw [hx] at hy; cases hy; exact hP
theorem del_at {L : List PV} {g : Int} (ho : TOk L g) {j : Nat} {x : PV} (hx : L[j]? = some x) : delL L x.pid = L.take j ++ L.drop (j + 1) := by
  obtain ⟨hl, rfl⟩ := List.getElem?_eq_some_iff.1 hx
  exact delL_split ho (by rw [List.getElem_cons_drop hl, List.take_append_drop]) rfl
theorem flatL_one' : ∀ (A : List PV), ∀ u ∈ flatL A, u.oneCell' = true
  | [], u, h => by simp [flatL] at h
  | q :: A, u, h => by
    simp only [flatL, List.mem_append] at h
    rcases h with h | h
    · simp [PV.cells] at h
      rcases h with rfl | rfl | rfl | rfl | rfl | rfl | rfl | rfl <;> rfl
    · exact flatL_one' A u h

section
variable {w : World} {base q r cap : Nat} {L : List PV} {g : Int}
/-- the cells of the first j. -/
theorem RT.news0 (h : RT w base q r cap L g) (j : Nat) : ∀ i u, (flatL (L.take j))[i]? = some u → w.cell? ((⟨r, 0, none⟩ : Addr).add i) = some u := by
  intro i u hu
  have e : flatL L = flatL (L.take j) ++ flatL (L.drop j) := by rw [← flatL_append, List.take_append_drop]
  refine World.ownsRow.cells h.row rfl i u ?_
  rw [e, List.getElem?_append_left (List.getElem?_eq_some_iff.1 hu).1]
  exact hu
/-- the cells of those behind the first j. -/
theorem RT.news1 (h : RT w base q r cap L g) {j : Nat} (hj : j ≤ L.length) : ∀ i u, (flatL (L.drop j))[i]? = some u → w.cell? ((⟨r, j * 8, none⟩ : Addr).add i) = some u := by
  intro i u hu
  have e : flatL L = flatL (L.take j) ++ flatL (L.drop j) := by rw [← flatL_append, List.take_append_drop]
  have hl : (flatL (L.take j)).length = j * 8 := by rw [flatL_len]; simp; omega
  have := World.ownsRow.cells h.row rfl (j * 8 + i) u (by rw [e, List.getElem?_append_right (by omega), hl]; simpa using hu)
  rw [add_zero6] at this
  have ea : (⟨r, j * 8, none⟩ : Addr).add i = ⟨r, j * 8 + i, none⟩ := by unfold Addr.add; split <;> simp_all
  rw [ea]
  exact this
/-- another list is stored. -/
theorem RT.put0 {w0 w' : World} {gg cap' : Nat} {A : List PV} (h : RT w0 base q r cap L g) (hq : w'.heap[q]? = w0.heap[q]?) (hw : WasAt w' base (.slice (some ⟨gg, 0, none⟩) A.length cap') A) (hA : 0 < A.length) : RT (w'.setCell ⟨q, 0, none⟩ (.slice (some ⟨gg, 0, none⟩) A.length cap')) base q gg cap' A g := by
  refine ⟨(h.box.keep hq).set 0 _, hw.setOther (fun k e => ?_), h.bq, hA⟩
  simp [Value.ownBlock] at e
  subst e
  rintro rfl
  rcases hw.2 with ⟨h1, _⟩ | ⟨g', cap', cur, e, h1, h2, _⟩
  · cases h1
  · cases e
    have := (h.box.keep hq).blk
    rw [h2] at this; cases this
end

theorem own_ne {w : World} {base q r cap n : Nat} {L : List PV} {g : Int} {v : Value} {xs : List Value} (h : w.ownsRow base 39 8 v n xs) (hR : RT w base q r cap L g) : some q ≠ v.ownBlock := by
  intro e
  rcases h.2 with ⟨rfl, _⟩ | ⟨g', cap', cur, rfl, _, hg, _⟩
  · cases e
  · simp [Value.ownBlock] at e
    subst e
    rw [hR.box.blk] at hg; cases hg
theorem new_ne6 {wr : World} {o : Obj} {v : Value} (h : v.ownBlock = (Value.slice none 0 0).ownBlock ∨ v.ownBlock = some (wr.alloc o).heap.size) : some wr.heap.size ≠ v.ownBlock := by
  rcases h with h | h
  · rw [h]; simp [Value.ownBlock]
  · rw [h]; simp
theorem new_ge6 {wr : World} {o : Obj} {v : Value} {n k : Nat} (h : v.ownBlock = (Value.slice none 0 0).ownBlock ∨ v.ownBlock = some (wr.alloc o).heap.size) (hn : n ≤ wr.heap.size) (e : v.ownBlock = some k) : n ≤ k := by
  rcases h with h | h
  · rw [h] at e; cases e
  · rw [h] at e
    have := Option.some.inj e
    simp at this
    omega
theorem was6 {w : World} {base j : Nat} {L : List PV} {v : Value} (hj : j < L.length) (h : w.ownsRow base 39 8 v (0 + j + (L.length - (j + 1))) ([] ++ flatL (L.take j) ++ flatL (L.drop (j + 1)))) : WasAt w base v (L.take j ++ L.drop (j + 1)) := by
  have e : (L.take j ++ L.drop (j + 1)).length = 0 + j + (L.length - (j + 1)) := by simp; omega
  unfold WasAt
  rw [e, flatL_append]
  exact h

section
variable {w : World} {base q : Nat} {L : List PV} {g : Int}
set_option maxRecDepth 100000 in
set_option maxHeartbeats 4000000 in
theorem rwait {r cap : Nat} (h : RT w base q r cap L g) (ho : TOk L g) (k : Int) (hpos : 0 < (waL L k).length) : Calls Try.prog 28 #[.pointer (some ⟨q, 0, none⟩), .int .i64 k] w fun e w' => e = .returned (.tuple #[.int .i64 (waQ L k).pid, .int .i64 (waQ L k).stat, .int .i64 (waE L k)]) ∧ RTab w' base q (waL L k) g ∧ Turn q r w w' := by
  have hn := ho.len
  cases e : getL L k with
  | none =>
    have hE : waE L k = 60 := by unfold waE runE; rw [e]; rfl
    rw [waL_no (by rw [hE]; decide), waQ_no (by rw [hE]; decide), hE]
    have HA := Lib.hid (rat_none h hn (getL_none e))
    have HR := Lib.hid h
    clear h e hE hpos
    unfold PV.zero
    go_enter Try.func28, Try.ntmps28
    go_wp2_with (go_at_call 47; refine HA.out.mono ?_; rintro e w' ⟨rfl, rfl⟩)
    exact bodyPost_ret (v := .tuple #[.int .i64 0, .int .i64 0, .int .i64 60]) (by simp [results, Try.results28, go_sem]) rfl ⟨rfl, ⟨_, _, HR.out⟩, Turn.refl _⟩
  | some x0 =>
    obtain ⟨i, hil, hi, hx, hlo⟩ := getL_idx e
    have HA := Lib.hid (rat_some h hn hil hi hx hlo)
    have c0 := h.c0; have y2 := h.at hi 2 rfl
    have hbr := h.br; have hbq := h.bq
    have hcap : L.length ≤ cap := by obtain ⟨_, _, _, h1, _⟩ := h.blk; exact h1
    by_cases hs : x0.st = 1
    · have hR0 : runE L k = 0 := by unfold runE; rw [e]; simp [hs]
      have HWE : Hid (waE L k = zomE L k) := by unfold Hid waE; rw [hR0]; rfl
      have HR := Lib.hid h
      clear h e hlo hi hx hR0
      obtain ⟨a0, a1, a2, a3, a4, a5, a6, a7⟩ := x0
      dsimp only at hs y2
      subst hs
      obtain ⟨i0, hi0, hz0, hz1, hz2⟩ := info_parts Try.infoProc
      have HI0 := Lib.hid hi0; have HZ0 := Lib.hid hz0; have HZ1 := Lib.hid hz1; have HZ2 := Lib.hid hz2
      have HPOS := Lib.hid hpos
      clear hi0 hz0 hz1 hz2 hpos
      go_enter Try.func28, Try.ntmps28
      go_wp2_with (go_at_call 47; refine HA.out.mono ?_; rintro e w' ⟨rfl, rfl⟩)
      clear c0 y2
      go_loopw [8, 9] (fun E y wr => ∃ j : Nat, j ≤ L.length ∧ y = .int .i64 j ∧ E = .int .i64 (anyE (L.take j) k) ∧ (∀ i x, i < j → L[i]? = some x → (x.par == k && x.st == 3) = false) ∧ RT wr base q r cap L g ∧ Turn q r w wr) (fun _ y _ => L.length - (intOf y).toNat)
      case atStart => exact ⟨0, by omega, rfl, rfl, fun i x hi => absurd hi (by omega), HR.out, Turn.refl _⟩
      case round =>
        obtain ⟨j, hj, rfl, rfl, hno, hR, hB⟩ := hrel
        have c0 := hR.c0
        have HB := Lib.hid hB; have HNO := Lib.hid hno
        by_cases hjl : j < L.length
        · obtain ⟨x, hx⟩ : ∃ x, L[j]? = some x := ⟨_, List.getElem?_eq_getElem hjl⟩
          have y0 : wr.cell? ⟨r, j * 8, none⟩ = some (.int .i64 x.pid) := hR.at hx 0 rfl
          have y1 := hR.at hx 1 rfl; have y2 := hR.at hx 2 rfl; have y3 := hR.at hx 3 rfl; have y4 := hR.at hx 4 rfl; have y5 := hR.at hx 5 rfl; have y6 := hR.at hx 6 rfl; have y7 := hR.at hx 7 rfl
          have HSN := Lib.hid (take_snocP hx)
          have HX := Lib.hid hx
          have hbs : base ≤ wr.heap.size := Nat.le_trans hbr (Nat.le_of_lt hR.rlt)
          have HRw := Lib.hid hR
          clear hR hB hno hx HR
          by_cases hp : x.par = k
          · by_cases h3 : x.st = 3
            · have hz : zomO L k = some x := by
                refine find_at HX.out ?_ HNO.out
                simp [hp, h3]
              have hE : waE L k = 0 := by rw [HWE.out]; unfold zomE; rw [hz]
              have hQ : waQ L k = x := by unfold waQ; rw [if_pos hE, hz]; rfl
              have hL : waL L k = L.take j ++ L.drop (j + 1) := by unfold waL; rw [if_pos hE, hQ]; exact del_at ho HX.out
              rw [hL] at HPOS
              have HE := Lib.hid hE; have HQ := Lib.hid hQ; have HL := Lib.hid hL
              clear hz hE hQ hL
              obtain ⟨a0, a1, a2, a3, a4, a5, a6, a7⟩ := x
              dsimp only at hp h3 y0 y1 y2 y3 y4 y5 y6 y7
              subst hp; subst h3
              have hRb := HRw.out.below ((Below.refl _ _).alloc (Nat.le_refl _) (.cells #[.int .i64 a0, .int .i64 a1, .int .i64 3, .int .i64 a3, .int .i64 a4, .string a5, .int .i64 a6, .bool a7] 39))
              have b0 := hRb.c0
              have HRb := Lib.hid hRb
              have HBX := Lib.hid (BoxA.new wr 39 #[.int .i64 a0, .int .i64 a1, .int .i64 3, .int .i64 a3, .int .i64 a4, .string a5, .int .i64 a6, .bool a7])
              have hj0 : (0 : Int) ≤ (j : Int) := by omega
              have hj1 : (j : Int) ≤ (cap : Int) := by omega
              have hj2 : (0 : Int) ≤ (j : Int) + 1 := by omega
              have hj3 : (j : Int) + 1 ≤ (L.length : Int) := by omega
              clear hRb
              obtain ⟨A, hA⟩ : ∃ A, A = L.take j ++ L.drop (j + 1) := ⟨_, rfl⟩
              rw [← hA] at HPOS HL
              have HAE := Lib.hid hA
              clear hA
              by_cases hcj : cap = j + 1
              · subst hcj
                have hLj : L.length = j + 1 := by omega
                have HD0 : Hid (L.drop (j + 1) = []) := by unfold Hid; rw [← hLj, List.drop_length]
                have HLJ := Lib.hid hLj
                clear hLj
                go_wp2_with (first
                  | (at_builtin; refine wpList_append_own_at _ rfl (.tmp 49) (.tmp 55) 35 rfl base 39 i0 PV.zero.val 8 72 Try.underlying35 HI0.out HZ0.out HZ1.out HZ2.out rfl (by decide) (.slice none 0 0) 0 [] rfl (World.ownsRow_nil _ _ _ _) ⟨r, 0, none⟩ j (j + 1) (flatL (L.take j)) rfl (by rw [flatL_len]; simp; omega) (HRb.out.news0 j) (flatL_one' _) (by unfold maxLen; omega) (by omega) (by simp; omega) ?_; intro v5 w5 hown5 hgrow5 _ hat5; have HR5 := Lib.hid (HRb.out.keep (hgrow5.block q HRb.out.qlt (fun e => by cases e)) (hgrow5.block r HRb.out.rlt (fun e => by cases e))); have k0 := HR5.out.c0; have HO5 := Lib.hid hown5; have HG5 := Lib.hid hgrow5; have HAT5 := Lib.hid hat5; have HBX5 := Lib.hid (HBX.out.keep (hgrow5.block wr.heap.size (by simp) (fun e => by cases e))); clear hown5 hgrow5 hat5)
                  | (at_builtin; refine wpList_append_own _ rfl (.tmp 58) (.tmp 65) 35 rfl base 39 i0 PV.zero.val 8 72 Try.underlying35 HI0.out HZ0.out HZ1.out HZ2.out rfl (by decide) v5 (0 + j) ([] ++ flatL (L.take j)) rfl HO5.out _ 0 _ (flatL (L.drop (j + 1))) rfl (by rw [flatL_len, List.length_drop]; omega) (by rw [HD0.out]; intro _ _ h; simp [flatL] at h) (flatL_one' _) (by unfold maxLen; omega) (by omega) (Nat.le_trans hbr (Nat.le_of_lt HR5.out.rlt)) ?_; intro v6 w6 hown6 hgrow6 _; have hq6 := hgrow6.block q HR5.out.qlt (own_ne HO5.out HR5.out); have HW6 := Lib.hid (show WasAt w6 base v6 A by rw [HAE.out]; refine was6 hjl ?_; rw [HLJ.out, Nat.sub_self]; exact hown6); have k6 := (World.cell?_of_block (a := ⟨q, 0, none⟩) hq6).trans k0; have kf := (World.frozen?_of_block (a := ⟨q, 0, none⟩) hq6).trans (HR5.out.fq 0); have HBX6 := Lib.hid (HBX5.out.keep (hgrow6.block wr.heap.size HBX5.out.lt (new_ne6 HAT5.out))); have HG6 := Lib.hid hgrow6; have HQ6 := Lib.hid hq6; clear hown6 hgrow6 hq6; obtain ⟨gg, cap', rfl, -, -⟩ := HW6.out.open HPOS.out))
                have HRF := Lib.hid (HR5.out.put0 HQ6.out HW6.out HPOS.out)
                have HBF := Lib.hid ((((HB.out.alloc (.cells #[.int .i64 a0, .int .i64 a1, .int .i64 3, .int .i64 a3, .int .i64 a4, .string a5, .int .i64 a6, .bool a7] 39)).grown HG5.out (fun k e => by cases e)).grown HG6.out (fun k e => .inr (new_ge6 HAT5.out HB.out.size e))).setP 0 (.slice (some ⟨gg, 0, none⟩) A.length cap'))
                have bF := HBX6.out.setOther (q := q) 0 (.slice (some ⟨gg, 0, none⟩) A.length cap') (by have := HRw.out.qlt; omega)
                have x0 := bF.at 0 rfl; have x6 := bF.at 6 rfl
                clear bF k0 k6 kf b0 c0
                generalize w6.setCell ⟨q, 0, none⟩ (.slice (some ⟨gg, 0, none⟩) A.length cap') = W7 at *
                go_quiet (fail)
                go_wp2
                exact bodyPost_ret (v := .tuple #[.int .i64 a0, .int .i64 a6, .int .i64 0]) (by simp [results, Try.results28, go_sem]) rfl ⟨by rw [HQ.out, HE.out], by rw [HL.out]; exact ⟨_, _, HRF.out.keep rfl rfl⟩, HBF.out.drewN⟩
              · have hcj1 : j + 1 ≤ cap := by omega
                go_wp2_with (first
                  | (at_builtin; refine wpList_append_own_at _ rfl (.tmp 49) (.tmp 55) 35 rfl base 39 i0 PV.zero.val 8 72 Try.underlying35 HI0.out HZ0.out HZ1.out HZ2.out rfl (by decide) (.slice none 0 0) 0 [] rfl (World.ownsRow_nil _ _ _ _) ⟨r, 0, none⟩ j cap (flatL (L.take j)) rfl (by rw [flatL_len]; simp; omega) (HRb.out.news0 j) (flatL_one' _) (by unfold maxLen; omega) (by omega) (by simp; omega) ?_; intro v5 w5 hown5 hgrow5 _ hat5; have HR5 := Lib.hid (HRb.out.keep (hgrow5.block q HRb.out.qlt (fun e => by cases e)) (hgrow5.block r HRb.out.rlt (fun e => by cases e))); have k0 := HR5.out.c0; have HO5 := Lib.hid hown5; have HG5 := Lib.hid hgrow5; have HAT5 := Lib.hid hat5; have HBX5 := Lib.hid (HBX.out.keep (hgrow5.block wr.heap.size (by simp) (fun e => by cases e))); clear hown5 hgrow5 hat5)
                  | (at_builtin; refine wpList_append_own _ rfl (.tmp 58) (.tmp 65) 35 rfl base 39 i0 PV.zero.val 8 72 Try.underlying35 HI0.out HZ0.out HZ1.out HZ2.out rfl (by decide) v5 (0 + j) ([] ++ flatL (L.take j)) rfl HO5.out ⟨r, (j + 1) * 8, none⟩ (L.length - (j + 1)) (cap - (j + 1)) (flatL (L.drop (j + 1))) rfl (by rw [flatL_len, List.length_drop]) (HR5.out.news1 (by omega)) (flatL_one' _) (by unfold maxLen; omega) (by omega) (Nat.le_trans hbr (Nat.le_of_lt HR5.out.rlt)) ?_; intro v6 w6 hown6 hgrow6 _; have hq6 := hgrow6.block q HR5.out.qlt (own_ne HO5.out HR5.out); have HW6 := Lib.hid (show WasAt w6 base v6 A by rw [HAE.out]; exact was6 hjl hown6); have k6 := (World.cell?_of_block (a := ⟨q, 0, none⟩) hq6).trans k0; have kf := (World.frozen?_of_block (a := ⟨q, 0, none⟩) hq6).trans (HR5.out.fq 0); have HBX6 := Lib.hid (HBX5.out.keep (hgrow6.block wr.heap.size HBX5.out.lt (new_ne6 HAT5.out))); have HG6 := Lib.hid hgrow6; have HQ6 := Lib.hid hq6; clear hown6 hgrow6 hq6; obtain ⟨gg, cap', rfl, -, -⟩ := HW6.out.open HPOS.out))
                have HRF := Lib.hid (HR5.out.put0 HQ6.out HW6.out HPOS.out)
                have HBF := Lib.hid ((((HB.out.alloc (.cells #[.int .i64 a0, .int .i64 a1, .int .i64 3, .int .i64 a3, .int .i64 a4, .string a5, .int .i64 a6, .bool a7] 39)).grown HG5.out (fun k e => by cases e)).grown HG6.out (fun k e => .inr (new_ge6 HAT5.out HB.out.size e))).setP 0 (.slice (some ⟨gg, 0, none⟩) A.length cap'))
                have bF := HBX6.out.setOther (q := q) 0 (.slice (some ⟨gg, 0, none⟩) A.length cap') (by have := HRw.out.qlt; omega)
                have x0 := bF.at 0 rfl; have x6 := bF.at 6 rfl
                clear bF k0 k6 kf b0 c0
                generalize w6.setCell ⟨q, 0, none⟩ (.slice (some ⟨gg, 0, none⟩) A.length cap') = W7 at *
                go_quiet (fail)
                go_wp2
                exact bodyPost_ret (v := .tuple #[.int .i64 a0, .int .i64 a6, .int .i64 0]) (by simp [results, Try.results28, go_sem]) rfl ⟨by rw [HQ.out, HE.out], by rw [HL.out]; exact ⟨_, _, HRF.out.keep rfl rfl⟩, HBF.out.drewN⟩
            · have b3 : (x.st == 3) = false := by simpa using h3
              have HAN := Lib.hid (anyE_yes (L := L.take j) hp)
              have HP3 := Lib.hid (show (x.par == k && x.st == 3) = false by rw [b3, Bool.and_false])
              obtain ⟨a0, a1, a2, a3, a4, a5, a6, a7⟩ := x
              dsimp only at hp b3 y0 y1 y2 y3 y4 y5 y6 y7
              clear h3
              have bp : (a1 == k) = true := by simpa using hp
              subst hp
              go_wp2
              go_roundw
              case rel => exact ⟨j + 1, by omega, by go_num, by rw [HSN.out, HAN.out], no_next HNO.out HX.out HP3.out, HRw.out.below ((Below.refl _ _).alloc (Nat.le_refl _) _), HB.out.alloc _⟩
              case measure => simp [intOf]; omega
          · have bp : (x.par == k) = false := by simpa using hp
            have HAN := Lib.hid (anyE_no (L := L.take j) hp)
            have HP3 := Lib.hid (show (x.par == k && x.st == 3) = false by rw [bp, Bool.false_and])
            obtain ⟨a0, a1, a2, a3, a4, a5, a6, a7⟩ := x
            dsimp only at hp bp y0 y1 y2 y3 y4 y5 y6 y7
            clear hp
            go_wp2
            go_roundw
            case rel => exact ⟨j + 1, by omega, by go_num, by rw [HSN.out, HAN.out], no_next HNO.out HX.out HP3.out, HRw.out.below ((Below.refl _ _).alloc (Nat.le_refl _) _), HB.out.alloc _⟩
            case measure => simp [intOf]; omega
        · obtain rfl : j = L.length := by omega
          have hz : zomO L k = none := find_no HNO.out
          have hE : waE L k = anyE L k := by rw [HWE.out]; unfold zomE anyE; rw [hz]
          have hne : waE L k ≠ 0 := by rw [hE]; unfold anyE; split <;> decide
          have HL := Lib.hid (waL_no hne); have HQ := Lib.hid (waQ_no hne); have HE := Lib.hid hE
          rw [List.take_length]
          have HRw := Lib.hid hR
          clear hz hE hne hR hB hno HPOS HR
          generalize anyE L k = E at HE ⊢
          go_wp2
          exact bodyPost_ret (v := .tuple #[.int .i64 0, .int .i64 0, .int .i64 E]) (by simp [results, Try.results28, go_sem]) rfl ⟨by rw [HQ.out, HE.out]; rfl, by rw [HL.out]; exact ⟨_, _, HRw.out⟩, HB.out⟩
    · have hE : waE L k = 2 := by unfold waE runE; rw [e]; simp [hs]
      rw [waL_no (by rw [hE]; decide), waQ_no (by rw [hE]; decide), hE]
      have b2 : (x0.st == 1) = false := by simpa using hs
      have HR := Lib.hid h
      clear h e hE hpos hlo hi hx hs
      unfold PV.zero
      go_enter Try.func28, Try.ntmps28
      go_wp2_with (go_at_call 47; refine HA.out.mono ?_; rintro e w' ⟨rfl, rfl⟩)
      exact bodyPost_ret (v := .tuple #[.int .i64 0, .int .i64 0, .int .i64 2]) (by simp [results, Try.results28, go_sem]) rfl ⟨rfl, ⟨_, _, HR.out⟩, Turn.refl _⟩
end
end Go.Proofs.Ytonllnbincgdpaa
