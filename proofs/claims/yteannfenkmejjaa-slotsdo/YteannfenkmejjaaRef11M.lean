/- The document's own slots of layer 11: Add, Get, Set, Remove. -/
import Derived.Test.YteannfenkmejjaaRef11
namespace Go.Proofs.Yteannfenkmejjaa
open Go.RowKit
section
variable {w w' : World} {q i : Nat} {R : RT11} {x : Bool × Int × Nat} {id : Int}

theorem at_cases (h : R11 w q R) (id : Int) : (∃ i x, i < 8 ∧ R[i]? = some x ∧ x.1 = true ∧ x.2.2 < 4096 ∧ atS (absT R) id = some i) ∨ atS (absT R) id = none := by
  cases e : atS (absT R) id with
  | none => exact .inr rfl
  | some i =>
    obtain ⟨h1, h2, _⟩ := atS_some e
    obtain ⟨x, hx, hq⟩ := h.some h1
    rw [absT_has hx] at h2
    exact .inl ⟨i, x, h1, hx, h2, hq, rfl⟩

set_option maxRecDepth 100000 in
set_option maxHeartbeats 1000000 in
theorem rget11 (h : R11 w q R) (id : Int) : Calls Try.prog 16 #[.pointer (some ⟨q, 0, none⟩), .int .i64 id] w fun e w' => e = .returned (.tuple #[.int .i64 (getV 0 (absT R) id), .int .i64 (getE (absT R) id)]) ∧ w' = w := by
  have A := Lib.hid (rat11 h id)
  rcases at_cases h id with ⟨i, x, hi, hx, h1, hq, ha⟩ | ha
  · have cv := h.box.at (8 + i) (refV_v h.len hx)
    rw [show getE (absT R) id = 0 by unfold getE; rw [ha]; rfl, show getV 0 (absT R) id = x.2.1 by unfold getV; rw [ha]; show (valS (absT R) i).getD 0 = _; rw [absT_val hx, h1]; rfl]
    rw [show atI (absT R) id = (i : Int) by unfold atI; rw [ha]] at A
    have hi8 : (i : Int) < 8 := by omega
    clear h hx ha h1 hq
    generalize x.2.1 = z at *
    go_enter Try.func16, Try.ntmps16
    go_wp2_with (go_at_call 33; refine A.out.mono ?_; rintro e w' ⟨rfl, rfl⟩)
    exact bodyPost_ret (v := .tuple #[.int .i64 z, .int .i64 0]) (by simp [results, Try.results16, go_sem]) rfl ⟨rfl, rfl⟩
  · rw [show getE (absT R) id = 100 by unfold getE; rw [ha]; rfl, show getV 0 (absT R) id = 0 by unfold getV; rw [ha]]
    rw [show atI (absT R) id = -1 by unfold atI; rw [ha]] at A
    clear h ha
    go_enter Try.func16, Try.ntmps16
    go_wp2_with (go_at_call 33; refine A.out.mono ?_; rintro e w' ⟨rfl, rfl⟩)
    exact bodyPost_ret (v := .tuple #[.int .i64 0, .int .i64 100]) (by simp [results, Try.results16, go_sem]) rfl ⟨rfl, rfl⟩

set_option maxRecDepth 100000 in
set_option maxHeartbeats 1000000 in
theorem rset11 (h : R11 w q R) (id v : Int) : Calls Try.prog 18 #[.pointer (some ⟨q, 0, none⟩), .int .i64 id, .int .i64 v] w fun e w' => e = .returned (.int .i64 (getE (absT R) id)) ∧ (∃ R', R11 w' q R' ∧ absT R' = setL (absT R) id v) ∧ Tur q w w' := by
  have A := Lib.hid (rat11 h id)
  rcases at_cases h id with ⟨i, x, hi, hx, h1, hq, ha⟩ | ha
  · have cv := h.box.at (8 + i) (refV_v h.len hx)
    have fv := h.box.f (8 + i)
    have hR : R11 (w.setCell ⟨q, 8 + i, none⟩ (.int .i64 v)) q (R.set i (x.1, v, x.2.2)) := h.set (refV_set_v h.len hx v) hq
    have hL : absT (R.set i (x.1, v, x.2.2)) = setL (absT R) id v := by
      unfold setL
      rw [ha, ← absT_set, h1]
      show _ = (absT R).set i (some v, seqS (absT R) i)
      rw [absT_seq hx]
      rfl
    have HR : Hid (∃ R', R11 (w.setCell ⟨q, 8 + i, none⟩ (.int .i64 v)) q R' ∧ absT R' = setL (absT R) id v) := ⟨_, hR, hL⟩
    have HT := Lib.hid ((Tur.refl (q := q) w).set (8 + i) (.int .i64 v))
    rw [show getE (absT R) id = 0 by unfold getE; rw [ha]; rfl]
    rw [show atI (absT R) id = (i : Int) by unfold atI; rw [ha]] at A
    have hi8 : (i : Int) < 8 := by omega
    clear h hx ha h1 hq hR hL
    go_enter Try.func18, Try.ntmps18
    go_wp2_with (go_at_call 33; refine A.out.mono ?_; rintro e w' ⟨rfl, rfl⟩)
    go_ret
    exact ⟨rfl, HR.out, HT.out⟩
  · have HR : Hid (∃ R', R11 w q R' ∧ absT R' = setL (absT R) id v) := ⟨R, h, by unfold setL; rw [ha]⟩
    rw [show getE (absT R) id = 100 by unfold getE; rw [ha]; rfl]
    rw [show atI (absT R) id = -1 by unfold atI; rw [ha]] at A
    clear h ha
    go_enter Try.func18, Try.ntmps18
    go_wp2_with (go_at_call 33; refine A.out.mono ?_; rintro e w' ⟨rfl, rfl⟩)
    go_ret
    exact ⟨rfl, HR.out, Tur.refl _⟩

set_option maxRecDepth 100000 in
set_option maxHeartbeats 2000000 in
theorem radd11 (h : R11 w q R) (v : Int) : Calls Try.prog 14 #[.pointer (some ⟨q, 0, none⟩), .int .i64 v] w fun e w' => e = .returned (.tuple #[.int .i64 (addN (absT R)), .int .i64 (addE (absT R))]) ∧ (∃ R', R11 w' q R' ∧ absT R' = addL (absT R) v) ∧ Tur q w w' := by
  have H := Lib.hid h
  clear h
  go_enter Try.func14, Try.ntmps14
  go_wp2
  go_loopw [6] (fun i wr => ∃ k : Nat, k ≤ 8 ∧ i = .int .i64 (k : Int) ∧ wr = w ∧ ∀ t, t < k → hasS (absT R) t = true) (fun i _ => 8 - (intOf i).toNat)
  case atStart => exact ⟨0, by omega, rfl, rfl, fun t ht => by omega⟩
  case round =>
    obtain ⟨k, hk, rfl, rfl, hall⟩ := hrel
    have HALL := Lib.hid hall
    clear hall
    by_cases hk8 : k < 8
    · have hkl : (k : Int) < 8 := by omega
      obtain ⟨x, hx, hq⟩ := H.out.some hk8
      have ci := H.out.box.at k (refV_is hx)
      have fi := H.out.box.f k
      have hh := Lib.hid (absT_has hx)
      obtain ⟨b, hb⟩ : ∃ b, x.1 = b := ⟨_, rfl⟩
      have HB := Lib.hid hb
      rw [hb] at ci
      cases b with
      | true =>
        clear hx hq hb
        go_wp2
        go_roundw
        case rel => exact ⟨k + 1, by omega, by go_num, by first | trivial | rfl, fun t ht => by
          by_cases c : t = k
          · rw [c, hh.out, HB.out]
          · exact HALL.out t (by omega)⟩
        case measure => simp [intOf]; omega
      | false =>
        have hl := H.out.len
        have hf := freeS_first (L := absT R) hk8 (by rw [hh.out, hb]) HALL.out
        have hR1 : R11 (wr.setCell ⟨q, k, none⟩ (.bool true)) q (R.set k (true, x.2.1, x.2.2)) := H.out.set (refV_set_is hx true) hq
        have hx1 : (R.set k (true, x.2.1, x.2.2))[k]? = some (true, x.2.1, x.2.2) := by rw [List.getElem?_set]; simp; omega
        have hR2 : R11 ((wr.setCell ⟨q, k, none⟩ (.bool true)).setCell ⟨q, 8 + k, none⟩ (.int .i64 v)) q ((R.set k (true, x.2.1, x.2.2)).set k (true, v, x.2.2)) := hR1.set (refV_set_v hR1.len hx1 v) hq
        have hx2 : ((R.set k (true, x.2.1, x.2.2)).set k (true, v, x.2.2))[k]? = some (true, v, x.2.2) := by rw [List.getElem?_set]; simp; omega
        have f2 := hR1.box.f (8 + k)
        have c2 := hR1.box.at (8 + k) (refV_v hR1.len hx1)
        have ID := Lib.hid (rid11 hR2 hx2 hk8 hq)
        have hL : absT ((R.set k (true, x.2.1, x.2.2)).set k (true, v, x.2.2)) = addL (absT R) v := by
          unfold addL
          rw [hf, List.set_set, ← absT_set]
          show _ = (absT R).set k (some v, seqS (absT R) k)
          rw [absT_seq hx]
          rfl
        have eN : addN (absT R) = idS k x.2.2 := by unfold addN; rw [hf]; show idS k (seqS (absT R) k) = _; rw [absT_seq hx]
        have eE : addE (absT R) = 0 := by unfold addE; rw [hf]; rfl
        have HR : Hid (∃ R', R11 ((wr.setCell ⟨q, k, none⟩ (.bool true)).setCell ⟨q, 8 + k, none⟩ (.int .i64 v)) q R' ∧ absT R' = addL (absT R) v) := ⟨_, hR2, hL⟩
        have HT := Lib.hid (((Tur.refl (q := q) wr).set k (.bool true)).set (8 + k) (.int .i64 v))
        have HNE := Lib.hid (And.intro eN eE)
        generalize idS k x.2.2 = y at *
        clear hx hq hb hR1 hR2 hx1 hx2 hL hf eN eE
        go_wp2_with (go_at_call 29; refine ID.out.mono ?_; rintro e w' ⟨rfl, rfl⟩)
        refine bodyPost_ret (v := .tuple #[.int .i64 y, .int .i64 0]) (by simp [results, Try.results14, go_sem]) rfl ⟨?_, HR.out, HT.out⟩
        rw [HNE.out.1, HNE.out.2]
    · obtain rfl : k = 8 := by omega
      have hf := freeS_none HALL.out
      have eN : addN (absT R) = 0 := by unfold addN; rw [hf]
      have eE : addE (absT R) = 101 := by unfold addE; rw [hf]; rfl
      have HR : Hid (∃ R', R11 wr q R' ∧ absT R' = addL (absT R) v) := ⟨R, H.out, by unfold addL; rw [hf]⟩
      have HNE := Lib.hid (And.intro eN eE)
      clear hf eN eE
      go_wp2
      refine bodyPost_ret (v := .tuple #[.int .i64 0, .int .i64 101]) (by simp [results, Try.results14, go_sem]) rfl ⟨?_, HR.out, Tur.refl _⟩
      rw [HNE.out.1, HNE.out.2]

set_option maxRecDepth 100000 in
set_option maxHeartbeats 2000000 in
theorem rrem11 (h : R11 w q R) (id : Int) : Calls Try.prog 20 #[.pointer (some ⟨q, 0, none⟩), .int .i64 id] w fun e w' => e = .returned (.tuple #[.int .i64 (getV 0 (absT R) id), .int .i64 (getE (absT R) id)]) ∧ (∃ R', R11 w' q R' ∧ absT R' = remL (absT R) id) ∧ Tur q w w' := by
  have A := Lib.hid (rat11 h id)
  rcases at_cases h id with ⟨i, x, hi, hx, h1, hq, ha⟩ | ha
  · have hl := h.len
    have fi := h.box.f i
    have ci := h.box.at i (refV_is hx)
    have hR1 : R11 (w.setCell ⟨q, i, none⟩ (.bool false)) q (R.set i (false, x.2.1, x.2.2)) := h.set (refV_set_is hx false) hq
    have hx1 : (R.set i (false, x.2.1, x.2.2))[i]? = some (false, x.2.1, x.2.2) := by rw [List.getElem?_set]; simp; omega
    have c1 := hR1.box.at (16 + i) (refV_q hR1.len hx1)
    have f1 := hR1.box.f (16 + i)
    obtain ⟨y, hy⟩ : ∃ y, (x.2.2 + 1) % 4096 = y := ⟨_, rfl⟩
    have hR1d : R11 (w.setCell ⟨q, i, none⟩ (.bool false)).drew q (R.set i (false, x.2.1, x.2.2)) := hR1.keep rfl
    have hR2 : R11 ((w.setCell ⟨q, i, none⟩ (.bool false)).drew.setCell ⟨q, 16 + i, none⟩ (.int .i64 (y : Int))) q ((R.set i (false, x.2.1, x.2.2)).set i (false, x.2.1, y)) := hR1d.set (refV_set_q hR1.len hx1 y) (by show y < 4096; omega)
    have hx2 : ((R.set i (false, x.2.1, x.2.2)).set i (false, x.2.1, y))[i]? = some (false, x.2.1, y) := by rw [List.getElem?_set]; simp; omega
    have hR3 : R11 ((w.setCell ⟨q, i, none⟩ (.bool false)).setCell ⟨q, 16 + i, none⟩ (.int .i64 (y : Int))) q ((R.set i (false, x.2.1, x.2.2)).set i (false, x.2.1, y)) := hR1.set (refV_set_q hR1.len hx1 y) (by show y < 4096; omega)
    have c2 := hR3.box.at (8 + i) (refV_v hR3.len hx2)
    have hL : absT ((R.set i (false, x.2.1, x.2.2)).set i (false, x.2.1, y)) = remL (absT R) id := by
      unfold remL
      rw [ha, List.set_set, ← absT_set]
      show _ = (absT R).set i (none, (seqS (absT R) i + 1) % 4096)
      rw [absT_seq hx, hy]
      rfl
    have HR : Hid (∃ R', R11 ((w.setCell ⟨q, i, none⟩ (.bool false)).drew.setCell ⟨q, 16 + i, none⟩ (.int .i64 (y : Int))) q R' ∧ absT R' = remL (absT R) id) := ⟨_, hR2, hL⟩
    have hT1 := (Tur.refl (q := q) w).set i (.bool false)
    have HT := Lib.hid ((⟨hT1.os, hT1.tape, hT1.output, hT1.size, hT1.block⟩ : Tur q w (w.setCell ⟨q, i, none⟩ (.bool false)).drew).set (16 + i) (.int .i64 (y : Int)))
    rw [show getE (absT R) id = 0 by unfold getE; rw [ha]; rfl, show getV 0 (absT R) id = x.2.1 by unfold getV; rw [ha]; show (valS (absT R) i).getD 0 = _; rw [absT_val hx, h1]; rfl]
    rw [show atI (absT R) id = (i : Int) by unfold atI; rw [ha]] at A
    have hi8 : (i : Int) < 8 := by omega
    have w1 : IntKind.i64.wrap ((x.2.2 : Int) + 1) = (x.2.2 : Int) + 1 := by rw [IntKind.wrap_i64]; omega
    have w2 : ((x.2.2 : Int) + 1).tmod 4096 = (y : Int) := by rw [Int.tmod_eq_emod_of_nonneg (by omega)]; omega
    dsimp only at c1 c2
    clear h hx ha h1 hR1 hR1d hT1 hR2 hR3 hx1 hx2 hL hy hl
    generalize x.2.1 = z at *
    generalize x.2.2 = u at *
    go_enter Try.func20, Try.ntmps20
    go_wp2_with (go_at_call 33; refine A.out.mono ?_; rintro e w' ⟨rfl, rfl⟩)
    generalize hW : w'.setCell ⟨q, i, none⟩ (.bool false) = W1 at *
    clear hW
    go_still_tail 13, (by kernel_rfl)
    change wpList _ _ _ _ _ W1.drew
    go_wp2
    exact bodyPost_ret (v := .tuple #[.int .i64 z, .int .i64 0]) (by simp [results, Try.results20, go_sem]) rfl ⟨rfl, HR.out, HT.out⟩
  · have HR : Hid (∃ R', R11 w q R' ∧ absT R' = remL (absT R) id) := ⟨R, h, by unfold remL; rw [ha]⟩
    rw [show getE (absT R) id = 100 by unfold getE; rw [ha]; rfl, show getV 0 (absT R) id = 0 by unfold getV; rw [ha]]
    rw [show atI (absT R) id = -1 by unfold atI; rw [ha]] at A
    clear h ha
    go_enter Try.func20, Try.ntmps20
    go_wp2_with (go_at_call 33; refine A.out.mono ?_; rintro e w' ⟨rfl, rfl⟩)
    exact bodyPost_ret (v := .tuple #[.int .i64 0, .int .i64 100]) (by simp [results, Try.results20, go_sem]) rfl ⟨rfl, HR.out, Tur.refl _⟩
end
end Go.Proofs.Yteannfenkmejjaa
