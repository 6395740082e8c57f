/- The document's own descriptors of layer 9: Fork, walked. -/
import Derived.Test.YtfgigofmmapbmaaRef9Close
import Derived.Lib.AppendZeros
namespace Go.Proofs.Ytfgigofmmapbmaa
open Go.RowKit Go.Lib

def mine9 (p c : Int) (x : FV) : Option FV := if x.pid = p then some { x with pid := c } else none
/-- what a child gets. -/
def moreL (L : List FV) (p c : Int) : List FV := L.filterMap (mine9 p c)
def fork9E (L : List FV) (p c : Int) : Int := if p < 1 ∨ c < 1 then 2 else if ∃ x ∈ L, x.pid = c then 2 else 0
def fork9L (L : List FV) (p c : Int) : List FV := if fork9E L p c = 0 then L ++ moreL L p c else L
theorem more_yes {L : List FV} {p c : Int} {x : FV} (h : x.pid = p) : moreL (L ++ [x]) p c = moreL L p c ++ [{ x with pid := c }] := by
  unfold moreL mine9
  rw [List.filterMap_append]
  simp [h]
theorem more_no {L : List FV} {p c : Int} {x : FV} (h : x.pid ≠ p) : moreL (L ++ [x]) p c = moreL L p c := by
  unfold moreL mine9
  rw [List.filterMap_append]
  simp [h]
theorem more_len (L : List FV) (p c : Int) : (moreL L p c).length ≤ L.length := List.length_filterMap_le ..

/-- a list of rows appended to another. -/
theorem run_app9 {w : World} {base lo : Nat} {v u : Value} {A B : List FV} (h : FsAt w base v A) (hb : FsAt w lo u B) (hlen : A.length + B.length ≤ 1000000) (hbase : base ≤ w.heap.size) (ty : TypeId) :
    ∃ a cap w', (Builtin.append_ #[27, 27] ty #[v, u]).run Try.prog w = .ok (.slice a (A.length + B.length) cap) w' ∧ FsAt w' base (.slice a (A.length + B.length) cap) (A ++ B) ∧ w.grownBy w' v.ownBlock ∧
      ((Value.slice a (A.length + B.length) cap).ownBlock = v.ownBlock ∨ (Value.slice a (A.length + B.length) cap).ownBlock = some w.heap.size) := by
  obtain ⟨i0, hi0, hz0, hz1, hz2⟩ := info_parts Try.infoFd
  have fin : ∀ v' w', w'.ownsRow base 67 5 v' (A.length + B.length) (flat9 A ++ flat9 B) → FsAt w' base v' (A ++ B) := fun v' w' h' => by
    unfold FsAt
    rw [flat9_append, List.length_append]
    exact h'
  by_cases hB : B.length = 0
  · have hB' : B = [] := List.eq_nil_of_length_eq_zero hB
    subst hB'
    obtain ⟨a, cap, rfl, hc, -⟩ := h.open
    obtain ⟨a', cap', rfl, hc', -⟩ := hb.open
    refine ⟨a, cap, w, ?_, by simpa using h, ⟨rfl, rfl, rfl, Nat.le_refl _, fun _ _ _ => rfl⟩, .inl rfl⟩
    cases a <;> cases a' <;> simp [Builtin.append_, run_underlying Try.underlying27, sizeOf, typeInfo, hi0, Builtin.lenOf, Builtin.firstCells, loadCells, loadCellsFrom, storeCells, hc]
  · obtain ⟨a', cap', rfl, hc', ha'⟩ := hb.open
    obtain ⟨r, rfl⟩ := ha' (by omega)
    obtain ⟨v', w', hr, h2, h3, h4, h5⟩ := run_append_own_at (P := Try.prog) w base 27 ty 67 i0 (.agg FV.zero.cells) 5 40 Try.underlying27 hi0 hz0 hz1 hz2 rfl (by decide) v A.length (flat9 A) h ⟨r, 0, none⟩ B.length cap' (flat9 B) (flat9_len B) (fun i u hu => World.ownsRow.cells hb rfl i u hu) (flat9_cells B) (by unfold maxLen; omega) (by omega) hbase
    have h6 := fin v' w' h2
    obtain ⟨a, cap, rfl, -, -⟩ := h6.open
    rw [List.length_append] at *
    exact ⟨a, cap, w', hr, h6, h3, h5⟩

section
variable {w : World} {base q : Nat} {v : Value} {L : List FV} {g : Int}
theorem FsAt.row_other {b : Nat} {u : Value} {A : List FV} (h : FsAt w base v A) (hb : v.ownBlock ≠ some b) (o : Nat) : FsAt (w.setCell ⟨b, o, none⟩ u) base v A := h.keep (fun k e => heap_setCell_other _ _ _ _ (fun c => hb (by rw [e, c])))
theorem R9.grown {w' : World} {row : Option Nat} (h : R9 w base q v L g) (hg : w.grownBy w' row) (hq : row ≠ some q) (hr : ∀ k, v.ownBlock = some k → row ≠ some k) : R9 w' base q v L g :=
  h.keep (hg.block q h.lt (fun e => hq e.symm)) (fun k e => hg.block k (h.row.lt k e).2 (fun c => hr k e c.symm))

set_option maxRecDepth 100000 in
set_option maxHeartbeats 4000000 in
theorem fork9 (h : R9 w base q v L g) (hn : L.length ≤ 90000) (p c : Int) : Calls Try.prog 26 #[.pointer (some ⟨q, 0, none⟩), .int .i64 p, .int .i64 c] w fun e w' =>
    e = .returned (.int .i64 (fork9E L p c)) ∧ ∃ v', R9 w' base q v' (fork9L L p c) g ∧ Mv9 q v v' w w' := by
  by_cases h1 : p < 1
  · have hE : fork9E L p c = 2 := by unfold fork9E; rw [if_pos (.inl h1)]
    have hL : fork9L L p c = L := by unfold fork9L; rw [hE]; rfl
    rw [hE, hL]
    have HR := Lib.hid h
    clear h hE hL
    go_enter Try.func26, Try.ntmps26
    go_wp2
    go_ret
    exact ⟨rfl, _, HR.out, Mv9.refl _⟩
  by_cases h2 : c < 1
  · have hE : fork9E L p c = 2 := by unfold fork9E; rw [if_pos (.inr h2)]
    have hL : fork9L L p c = L := by unfold fork9L; rw [hE]; rfl
    rw [hE, hL]
    have HR := Lib.hid h
    clear h hE hL
    go_enter Try.func26, Try.ntmps26
    go_wp2
    go_ret
    exact ⟨rfl, _, HR.out, Mv9.refl _⟩
  have HE1 : Hid ((∃ x ∈ L, x.pid = c) → fork9E L p c = 2 ∧ fork9L L p c = L) := fun hx => by
    have hE : fork9E L p c = 2 := by unfold fork9E; rw [if_neg (by omega), if_pos hx]
    exact ⟨hE, by unfold fork9L; rw [hE]; rfl⟩
  have HE0 : Hid ((¬ ∃ x ∈ L, x.pid = c) → fork9E L p c = 0 ∧ fork9L L p c = L ++ moreL L p c) := fun hx => by
    have hE : fork9E L p c = 0 := by unfold fork9E; rw [if_neg (by omega), if_neg hx]
    exact ⟨hE, by unfold fork9L; rw [hE]; rfl⟩
  obtain ⟨i0, hi0, hz0, hz1, hz2⟩ := info_parts Try.infoFd
  have HI0 := Lib.hid hi0; have HZ0 := Lib.hid hz0; have HZ1 := Lib.hid hz1; have HZ2 := Lib.hid hz2
  have c0 := h.c0
  have hqlt := h.lt
  have hrow := h.row.lt
  obtain ⟨a0, cap, rfl, hcap, ha⟩ := h.row.open
  have HR := Lib.hid h
  have HROW := Lib.hid hrow
  clear h hi0 hz0 hz1 hz2 hrow
  generalize fork9E L p c = E at *
  generalize fork9L L p c = LL at *
  go_enter Try.func26, Try.ntmps26
  go_wp2
  clear c0
  go_loopw [7, 8] (fun u t wr => ∃ j : Nat, j ≤ L.length ∧ t = .int .i64 j ∧ FsAt wr w.heap.size u (moreL (L.take j) p c) ∧ (∀ i x, i < j → L[i]? = some x → x.pid ≠ c) ∧ R9 wr base q (.slice a0 L.length cap) L g ∧ Below w.heap.size w wr) (fun _ t _ => L.length - (intOf t).toNat)
  case atStart => exact ⟨0, by omega, rfl, FsAt.nil _ _, fun i x hi => absurd hi (by omega), HR.out, Below.refl _ _⟩
  case round =>
    obtain ⟨j, hj, rfl, hmore, hno, hR, hB⟩ := hrel
    have c0 := hR.c0
    have HB := Lib.hid hB; have HNO := Lib.hid hno; have HMORE := Lib.hid hmore
    have hws := hB.size
    by_cases hjl : j < L.length
    · obtain ⟨x, hx⟩ : ∃ x, L[j]? = some x := ⟨_, List.getElem?_eq_getElem hjl⟩
      obtain ⟨r, rfl⟩ := ha (by omega)
      clear ha
      have y0 : wr.cell? ⟨r, j * 5, none⟩ = some (.int .i64 x.pid) := hR.row.cell hx 0 rfl
      have y1 := hR.row.cell hx 1 rfl; have y2 := hR.row.cell hx 2 rfl; have y3 := hR.row.cell hx 3 rfl; have y4 := hR.row.cell hx 4 rfl
      have HSN := Lib.hid (take_snoc9 hx)
      have HX := Lib.hid hx
      have HRw := Lib.hid hR
      have hml : (moreL (L.take j) p c).length ≤ 90000 := Nat.le_trans (more_len _ _ _) (by simp; omega)
      clear hR hB hno hx hmore
      by_cases hc : x.pid = c
      · have b0 : (x.pid == c) = true := by simpa using hc
        have HEE := Lib.hid (HE1.out ⟨x, List.mem_of_getElem? HX.out, hc⟩)
        clear hc
        go_wp2
        go_ret
        exact ⟨by rw [HEE.out.1]; rfl, _, HEE.out.2 ▸ HRw.out, Mv9.of_below HB.out⟩
      · have b0 : (x.pid == c) = false := by simpa using hc
        have HNN := Lib.hid (fun (i : Nat) (y : FV) (hi : i < j + 1) (hy : L[i]? = some y) => show y.pid ≠ c from by
          rcases Nat.lt_or_ge i j with k | k
          · exact HNO.out i y k hy
          · obtain rfl : i = j := by omega
            rw [HX.out] at hy; cases hy; exact hc)
        by_cases hp : x.pid = p
        · have b1 : (x.pid == p) = true := by simpa using hp
          have HMO := Lib.hid (more_yes (L := L.take j) (c := c) hp)
          clear hp hc
          obtain ⟨x0, x1, x2, x3, x4⟩ := x
          dsimp only at y0 y1 y2 y3 y4 b0 b1
          have hown : ((wr.alloc (.cells #[.int .i64 c, .int .i64 x1, .int .i64 x2, .int .i64 x3, .int .i64 x4] 67)).alloc (.cells #[.int .i64 c, .int .i64 x1, .int .i64 x2, .int .i64 x3, .int .i64 x4] 67)).ownsRow w.heap.size 67 5 u7 (moreL (L.take j) p c).length (flat9 (moreL (L.take j) p c)) := (HMORE.out.below ((Below.refl _ _).alloc (Nat.le_refl _) _)).below ((Below.refl _ _).alloc (Nat.le_refl _) _)
          have HOWN := Lib.hid hown
          have hnew := cell_five_new (wr.alloc (.cells #[.int .i64 c, .int .i64 x1, .int .i64 x2, .int .i64 x3, .int .i64 x4] 67)) (FV.mk c x1 x2 x3 x4) 67
          rw [World.size_alloc] at hnew
          have HNEW := Lib.hid hnew
          clear hnew
          have hlt0 := HMORE.out.lt
          have HLT0 := Lib.hid hlt0
          clear hown hlt0
          go_wp2_with (at_builtin; go_loud (refine wpList_append_own _ rfl (.tmp 54) (.tmp 56) 27 rfl w.heap.size 67 i0 (.agg FV.zero.cells) 5 40 Try.underlying27 HI0.out HZ0.out HZ1.out HZ2.out rfl (by decide) u7 (moreL (L.take j) p c).length (flat9 (moreL (L.take j) p c)) rfl HOWN.out ⟨wr.heap.size + 1, 0, none⟩ 1 1 (FV.mk c x1 x2 x3 x4).cells.toList rfl rfl HNEW.out (by simp [FV.cells, Value.oneCell']) (by unfold maxLen; omega) (by omega) (by simp; omega) ?_; intro v7 w7 hown7 hgrow7 _; have HO7 := Lib.hid hown7; have HG7 := Lib.hid hgrow7; clear hown7 hgrow7))
          go_roundw
          case rel =>
            have hal : Below wr.heap.size wr ((wr.alloc (.cells #[.int .i64 c, .int .i64 x1, .int .i64 x2, .int .i64 x3, .int .i64 x4] 67)).alloc (.cells #[.int .i64 c, .int .i64 x1, .int .i64 x2, .int .i64 x3, .int .i64 x4] 67)) := ((Below.refl _ _).alloc (Nat.le_refl _) _).alloc (by simp) _
            refine ⟨j + 1, by omega, by go_num, ?_, HNN.out, (HRw.out.below hal).grown HG7.out (fun e => ?_) (fun k e e' => ?_), (HB.out.trans (hal.mono hws)).grown HG7.out ?_ (fun k e => (HLT0.out k e).1)⟩
            · rw [HSN.out, HMO.out]
              unfold FsAt
              rw [flat9_append, flat9_one, List.length_append]
              exact HO7.out
            · have := (HLT0.out q e).1; omega
            · have h1 := (HLT0.out k e').1; have h2 := (HROW.out k e).2; omega
            · exact Nat.le_trans hws hal.size
          case measure => simp [intOf]; omega
        · have b1 : (x.pid == p) = false := by simpa using hp
          have HMO := Lib.hid (more_no (L := L.take j) (c := c) hp)
          clear hp hc
          go_wp2
          go_roundw
          case rel => exact ⟨j + 1, by omega, by go_num, by rw [HSN.out, HMO.out]; exact HMORE.out, HNN.out, HRw.out, HB.out⟩
          case measure => simp [intOf]; omega
    · obtain rfl : j = L.length := by omega
      rw [List.take_length] at HMORE
      have HEE := Lib.hid (HE0.out (fun ⟨x, hx, hc⟩ => by
        obtain ⟨i, hi, rfl⟩ := List.mem_iff_getElem.1 hx
        exact HNO.out i _ hi (List.getElem?_eq_getElem hi) hc))
      have hml : (moreL L p c).length ≤ 90000 := Nat.le_trans (more_len _ _ _) hn
      obtain ⟨a7, cap7, w7, hr7, hF7, hG7, hv7⟩ := run_app9 hR.row HMORE.out (by omega) (Nat.le_of_lt (Nat.lt_of_le_of_lt hR.bq hR.lt)) 27
      have hq7 := hG7.block q hR.lt (fun e => hR.ne e.symm)
      have k0 := (World.cell?_of_block (a := ⟨q, 0, none⟩) hq7).trans hR.c0
      have kf := (World.frozen?_of_block (a := ⟨q, 0, none⟩) hq7).trans (hR.f 0)
      have HR7 := Lib.hid (hR.put hq7 hF7 (fun e => by
        rcases hv7 with c | c
        · exact hR.ne (c ▸ e)
        · rw [c] at e; have h1 := Option.some.inj e; have h2 := hR.lt; omega))
      have HM7 := Lib.hid (((Mv9.of_below (q := q) (v := .slice a0 L.length cap) HB.out).grown (v'' := .slice a7 (L.length + (moreL L p c).length) cap7) hG7 (fun k e => .inl e) (fun k e => by
        rcases hv7 with c | c
        · exact .inl (c ▸ e)
        · rw [c] at e; have h1 := Option.some.inj e; exact .inr (by omega))).set 0 (.slice a7 (L.length + (moreL L p c).length) cap7))
      have HRUN := Lib.hid hr7
      clear hr7 hF7 hG7 hv7 hq7 hR hB hno hmore ha
      go_wp2_with (at_builtin; refine wpList_append_run _ rfl (.tmp 62) (.tmp 63) _ _ rfl _ _ rfl rfl _ _ HRUN.out ?_)
      go_ret
      exact ⟨by rw [HEE.out.1]; rfl, _, HEE.out.2 ▸ HR7.out, HM7.out⟩
end
end Go.Proofs.Ytfgigofmmapbmaa
