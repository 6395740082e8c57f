/- Package slots, of int: Ids, walked. -/
import Derived.Test.YteannfenkmejjaaSlUseI
import Derived.Test.YteannfenkmejjaaSlDoI
import Derived.Test.YteannfenkmejjaaQuLs
import Derived.Maps.OwnIn
namespace Go.Proofs.Yteannfenkmejjaa
open Go.RowKit Go.Shelf Go.Maps

attribute [local go_sem] Oper.semAt_some

/-- the numbers of those of some slots that hold a thing. -/
def idsPI (L : SlT Int) (A : List Nat) : List Int := A.filterMap fun i => if hasS L i then some (idS i (seqS L i)) else none
theorem idsPI_all (L : SlT Int) : idsPI L (List.range 8) = idsL L := rfl
theorem idsPI_yes {L : SlT Int} {A : List Nat} {i : Nat} (h : hasS L i = true) : idsPI L (A ++ [i]) = idsPI L A ++ [idS i (seqS L i)] := by
  unfold idsPI
  rw [List.filterMap_append]
  simp [h]
theorem idsPI_no {L : SlT Int} {A : List Nat} {i : Nat} (h : hasS L i = false) : idsPI L (A ++ [i]) = idsPI L A := by
  unfold idsPI
  rw [List.filterMap_append]
  simp [h]
theorem idsPI_len (L : SlT Int) (A : List Nat) : (idsPI L A).length ≤ A.length := List.length_filterMap_le _ _
theorem row_farI {W w7 : World} {tmp : Obj} {v u : Value} {h k : Nat} (hg : (W.alloc tmp).grownBy w7 v.ownBlock) (hk : k < W.heap.size) (hne : some k ≠ v.ownBlock) (hh : k ≠ h) : (w7.setCell ⟨h, 0, none⟩ u).heap[k]? = W.heap[k]? :=
  (heap_setCell_other _ _ _ _ hh).trans ((hg.block k (by rw [World.size_alloc]; omega) hne).trans (Below.heap_alloc W tmp k hk))

theorem Try.infoInt11I : (Try.prog.info? 3).map (fun i => (i.zero, i.size, i.bytes)) = some (some (.int .i64 0), 1, 8) := by kernel_rfl

section
variable {w : World} {p : Nat} {L : SlT Int}

set_option maxRecDepth 100000 in
set_option maxHeartbeats 2000000 in
theorem ids_inI (h : MemI w p L) : CallsIn Fence.wide 8 Try.prog 22 #[.pointer (some ⟨p, 0, none⟩)] w fun e w' =>
    ∃ v, e = .returned v ∧ w'.ownsRow w.heap.size 3 1 v (idsL L).length ((idsL L).map encI) ∧ Below w.heap.size w w' := by
  refine callsIn_of_wp_marks Try.func22 rfl trivial ?_ rfl
  simp only [Try.ntmps22, List.size_toArray, List.length_cons, List.length_nil, Nat.reduceAdd, Nat.reduceSub, Array.replicate_succ, Array.replicate_zero, List.push_toArray, List.append_toArray, List.nil_append, List.cons_append]
  have HM := Lib.hid h
  have hpl := h.lt
  clear h
  gi_wp2_with (refine ⟨trivial, ?_⟩; gi_at_call 37; refine (numbered_inI _ _ _ ⟨_, rfl⟩ ⟨_, _, _, rfl⟩ _).mono ?_; rintro e w' ⟨rfl, rfl⟩)
  have bL := ((Boxed.new w 34 (.slice none 0 0)).alloc (.cells #[.pointer (some ⟨p, 0, none⟩)] 24)).alloc (.cells #[.slice none 0 0] 34)
  have bS := (Boxed.new (w.alloc (.cells #[.slice none 0 0] 34)) 24 (.pointer (some ⟨p, 0, none⟩))).alloc (.cells #[.slice none 0 0] 34)
  have bI := Boxed.new ((w.alloc (.cells #[.slice none 0 0] 34)).alloc (.cells #[.pointer (some ⟨p, 0, none⟩)] 24)) 34 (.slice none 0 0)
  have hB0 : Below w.heap.size w (((w.alloc (.cells #[.slice none 0 0] 34)).alloc (.cells #[.pointer (some ⟨p, 0, none⟩)] 24)).alloc (.cells #[.slice none 0 0] 34)) := (((Below.refl _ w).alloc (Nat.le_refl _) _).alloc (by simp) _).alloc (by simp; omega) _
  have hsz : (((w.alloc (.cells #[.slice none 0 0] 34)).alloc (.cells #[.pointer (some ⟨p, 0, none⟩)] 24)).alloc (.cells #[.slice none 0 0] 34)).heap.size = w.heap.size + 1 + 1 + 1 := by simp
  simp only [World.size_alloc] at bL bS bI
  generalize (((w.alloc (.cells #[.slice none 0 0] 34)).alloc (.cells #[.pointer (some ⟨p, 0, none⟩)] 24)).alloc (.cells #[.slice none 0 0] 34)) = W0 at *
  obtain ⟨i0, hi, hz0, hz1, hz2⟩ := info_parts Try.infoInt11I
  have HI := Lib.hid hi; have HZ0 := Lib.hid hz0; have HZ1 := Lib.hid hz1; have HZ2 := Lib.hid hz2
  clear hi hz0 hz1 hz2
  refine wpIn_rangeFunc_ownG (F := Fence.wide) (n := 8) rfl (by omega) (gf := 45) (lb := #[.pointer (some ⟨w.heap.size + 1, 0, none⟩), .pointer (some ⟨w.heap.size + 1 + 1, 0, none⟩)]) rfl trivial (enters_of Try.func45 (by kernel_rfl) rfl)
    (numbered_stopsI 7 (by omega) p (w.heap.size + 1) (w.heap.size + 1 + 1) p L (.slice none 0 0) (fun _ => true) W0 (.inl ⟨rfl, fun _ => rfl⟩) (by omega) (HM.out.below hB0) bS bI) Kp4.trans (fun W l o o' hl _ _ _ => Kp4.put W l o' (by omega) (by omega) (by omega) (by omega)) (Below.refl _ _) (fun _ => rfl)
    (fun pre W => ((∃ v, Boxed W w.heap.size 34 v ∧ W.ownsRow w.heap.size 3 1 v (idsPI L (pre.map Fin.val)).length ((idsPI L (pre.map Fin.val)).map encI) ∧ True) ∧ Boxed W (w.heap.size + 1) 24 (.pointer (some ⟨p, 0, none⟩)) ∧ Boxed W (w.heap.size + 1 + 1) 34 (.slice none 0 0)) ∧ Below w.heap.size w W)
    (fun _ _ _ => False)
    (OwnFrom.and (OwnFrom.and (Own.from (holdsRow_own w.heap.size w.heap.size 34 3 1 (fun pre : List (Fin 8) => (idsPI L (pre.map Fin.val)).length) (fun pre => (idsPI L (pre.map Fin.val)).map encI) (fun _ v => True)) _) (Own.from (fun s A B row hs hg hr => ⟨boxed_keep7 hs.1 hg hr, boxed_keep7 hs.2 hg hr⟩) _)) (ownFrom_below (Nat.le_refl _) (by omega)))
    (fun _ _ _ _ _ hs _ _ => hs)
    ⟨⟨⟨_, bL, World.ownsRow_nil _ _ _ _, trivial⟩, bS, bI⟩, hB0⟩
    (fun y => { tmps := #[.pointer (some ⟨p, 0, none⟩), undef, .slice none 0 0, .pointer (some ⟨w.heap.size, 0, none⟩), .int .i64 (idS y.1 (seqS L y.1)), .pointer (some ⟨p, y.1 * 3, none⟩), .pointer (some ⟨p, 0, none⟩), .func (.func 45) #[] #[.pointer (some ⟨w.heap.size + 1, 0, none⟩), .pointer (some ⟨w.heap.size + 1 + 1, 0, none⟩)], .int .i64 (idS y.1 (seqS L y.1)), .pointer (some ⟨p, y.1 * 3, none⟩), undef, undef, undef, undef, undef, undef, undef, undef, undef], defers := [] }) ?assign ?body ?done ?stop
  case assign =>
    intro l y W K hK
    unfold numVI
    gi_wp2
    exact hK
  case body =>
    rintro l pre y W ⟨⟨⟨v, bL1, hrow, _⟩, bS1, bI1⟩, hB⟩ hlen
    have hsW : w.heap.size ≤ W.heap.size := hB.size
    have q1 := (HM.out.below hB).c1 y.2
    have hlL := idsPI_len L (pre.map Fin.val)
    rw [List.length_map] at hlL
    have HROW := Lib.hid hrow
    have HB := Lib.hid hB
    have HS := Lib.hid bS1; have HI1 := Lib.hid bI1
    clear hrow hB bS1 bI1
    cases hh : hasS L y.1 with
    | true =>
      have hy := idsPI_yes (A := pre.map Fin.val) hh
      have HY := Lib.hid hy
      rw [hh] at q1
      clear hh hy
      generalize idS y.1 (seqS L y.1) = a at *
      have k0 := bL1.cell
      gi_wp2_with (gi_at_builtin; refine wpListIn_append_own_at _ rfl _ _ 34 rfl w.heap.size 3 i0 (.int .i64 0) 1 8 Try.underlying34 HI.out HZ0.out HZ1.out HZ2.out rfl (by decide) _ _ _ rfl (HROW.out.alloc _) ⟨W.heap.size, 0, none⟩ 1 1 [.int .i64 a] rfl rfl (cell_one_new _ _ _) (by simp [Value.oneCell']) (by unfold maxLen; omega) (by omega) (by simp; omega) ?_; intro v7 w7 hown7 hgrow7 _ hat7; obtain ⟨g7, cap7, rfl⟩ := ownsRow_succ hown7; obtain ⟨hv71, hv72, hr7, hk7, hb7⟩ := bL1.appended (by decide) HROW.out (by omega) (by omega) hown7 hgrow7; have hc7 := hv71.cell; have hf7 := hv71.frozen; have HO := Lib.hid hr7; have HG := Lib.hid hgrow7; clear hr7 hat7 hgrow7 hown7)
      have nS := HS.out.not_row (e := 3) (by decide) HROW.out
      have nI := HI1.out.not_row (e := 3) (by decide) HROW.out
      have nP : some p ≠ v.ownBlock := by
        rcases HROW.out.2 with ⟨rfl, _⟩ | ⟨g, cap, cur, rfl, hb, _⟩
        · simp [Value.ownBlock]
        · simp [Value.ownBlock]; omega
      have fS := row_farI (u := .slice (some ⟨g7, 0, none⟩) ((idsPI L (pre.map Fin.val)).length + 1) cap7) HG.out HS.out.lt nS (show w.heap.size + 1 ≠ w.heap.size by omega)
      have fI := row_farI (u := .slice (some ⟨g7, 0, none⟩) ((idsPI L (pre.map Fin.val)).length + 1) cap7) HG.out HI1.out.lt nI (show w.heap.size + 1 + 1 ≠ w.heap.size by omega)
      have fP := row_farI (u := .slice (some ⟨g7, 0, none⟩) ((idsPI L (pre.map Fin.val)).length + 1) cap7) HG.out (show p < W.heap.size by omega) nP (show p ≠ w.heap.size by omega)
      refine ⟨hk7.from _, ⟨fP, fS, fI, fP⟩, ⟨⟨⟨_, hv72, ?_, trivial⟩, fS.trans HS.out, fI.trans HI1.out⟩, HB.out.trans hb7⟩⟩
      rw [List.map_append, show List.map Fin.val [y] = [y.1] from rfl, HY.out, List.length_append, List.map_append]
      exact HO.out
    | false =>
      have hy := idsPI_no (A := pre.map Fin.val) hh
      have HY := Lib.hid hy
      rw [hh] at q1
      clear hh hy
      generalize idS y.1 (seqS L y.1) = a at *
      gi_wp2
      refine ⟨KeepsFrom.refl _ _, Kp4.refl _ _ _ _ _, ⟨⟨⟨_, bL1, ?_, trivial⟩, HS.out, HI1.out⟩, HB.out⟩⟩
      rw [List.map_append, show List.map Fin.val [y] = [y.1] from rfl, HY.out]
      exact HROW.out
  case done =>
    rintro D ys W hD hys ⟨⟨⟨v, bL1, hrow, _⟩, _⟩, hB⟩ hK
    have c0 := bL1.cell
    have e1 : idsPI L (ys.map Fin.val) = idsL L := by
      rw [hys]; rfl
    rw [e1] at hrow
    have HR := Lib.hid hrow
    clear hys hrow e1
    gi_wp2
    refine ⟨by simp, .inl ⟨_, _, rfl, run_takeDeferred hK, ?_⟩⟩
    exact ⟨_, results_tmp rfl _ _ _, v, rfl, ownsRow_putObj HR.out _ hK rfl, below_put7 hB (by omega)⟩
  case stop =>
    rintro D c pre W _ _ h _
    exact h.elim

theorem ids_I (h : MemI w p L) : Calls Try.prog 22 #[.pointer (some ⟨p, 0, none⟩)] w fun e w' => ∃ v, e = .returned v ∧ LsI w' w.heap.size v (idsL L) ∧ Below w.heap.size w w' := by
  refine (callsIn_wide.1 (ids_inI h)).mono ?_
  rintro e w' ⟨v, rfl, hr, hb⟩
  exact ⟨v, rfl, LsI.own hr rfl, hb⟩
end
end Go.Proofs.Yteannfenkmejjaa
