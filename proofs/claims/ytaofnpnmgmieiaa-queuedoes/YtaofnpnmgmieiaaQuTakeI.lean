/- Package queue, of int: take, Pop, walked. -/
import Derived.Test.YtaofnpnmgmieiaaQuLeafI
namespace Go.Proofs.Ytaofnpnmgmieiaa
open Go.RowKit

section
variable {w : World} {q f n : Nat} {L : List Int}
theorem place0I (hc : w.cell? ⟨q, 64, none⟩ = some (.int .i64 (f : Int))) (hf : f < 64) :
    Calls Try.prog 25 #[.pointer (some ⟨q, 0, none⟩), .int .i64 0] w fun e w' => e = .returned (.pointer (some ⟨q, f, none⟩)) ∧ Below w.heap.size w w' := by
  have h := placeI 0 hc hf (by omega)
  rw [show (f + 0) % 64 = f by omega] at h
  exact h

set_option maxRecDepth 100000 in
set_option maxHeartbeats 2000000 in
theorem takeI (h : QAt encI w q 53 f L) (idx : Nat) (x : Int) (hx : L[idx]? = some x) : Calls Try.prog 26 #[.pointer (some ⟨q, 0, none⟩), .int .i64 (idx : Int)] w fun e w' => e = .returned (.int .i64 x) ∧ QAt encI w' q 53 ((f + 1) % 64) (L.eraseIdx idx) ∧ Tur q w w' := by
  have hi : idx < L.length := (List.getElem?_eq_some_iff.1 hx).1
  have hl := h.hl
  have hf := h.hf
  have HX := Lib.hid hx
  have HH := Lib.hid h
  have hq := h.lt
  have c64 := h.c64
  have cx : w.cell? ⟨q, (f + idx) % 64, none⟩ = some (.int .i64 x) := h.at hx
  clear h hx
  go_enter Try.func26, Try.ntmps26
  go_wp2_with (go_at_call 25; refine (placeI idx c64 hf (by omega)).mono ?_; rintro e w1 ⟨rfl, hB⟩; have c1 := (hB.cell (p := ⟨q, (f + idx) % 64, none⟩) hq).trans cx; have H1 := Lib.hid (HH.out.below' hB); have HT := Lib.hid (Tur.of_below (q := q) hB); clear hB c64 cx)
  go_loopw [6] (fun i wr => ∃ k : Nat, k ≤ idx ∧ i = .int .i64 (k : Int) ∧ ∃ M, Mid L idx k M ∧ QAt encI wr q 53 f M ∧ Tur q w wr) (fun i _ => (intOf i).toNat)
  case atStart => exact ⟨idx, Nat.le_refl _, rfl, L, Mid.start L idx, H1.out, HT.out⟩
  case round =>
    obtain ⟨k, hk, rfl, M, hM, hQ, hT⟩ := hrel
    have hlen := hM.1
    have HM := Lib.hid hM; have HQ := Lib.hid hQ; have HT2 := Lib.hid hT
    have c64 := hQ.c64
    have hq2 := hQ.lt
    clear hM hT
    by_cases hk0 : 0 < (k : Int)
    · obtain ⟨y, hy⟩ : ∃ y, M[k - 1]? = some y := ⟨_, List.getElem?_eq_getElem (by omega)⟩
      have e1 : (k : Int) - 1 = ((k - 1 : Nat) : Int) := by omega
      have P1 := placeI k c64 hf (by omega)
      go_wp2_with (first
        | (go_at_call 25; refine P1.mono ?_; clear P1; rintro e w2 ⟨rfl, hB⟩; have H2 := Lib.hid (HQ.out.below' hB); have HT3 := Lib.hid (HT2.out.trans (Tur.of_below hB)); have c65 := H2.out.c64; have P2 := placeI (k - 1) c65 hf (by omega); clear hB)
        | (go_at_call 25; refine P2.mono ?_; clear P2; rintro e w3 ⟨rfl, hB⟩; have H3 := Lib.hid (H2.out.below' hB); have HT4 := Lib.hid (HT3.out.trans (Tur.of_below hB)); have cy := H3.out.at hy; have f3 := H3.out.fr; obtain ⟨old, ho⟩ := H3.out.some_at (i := (f + k) % 64) (by omega); clear hB))
      have hHM : Mid L idx ((k - 1) + 1) M := by have := HM.out; rwa [show k - 1 + 1 = k by omega]
      have hQ4 := H3.out.set (i := k) (by omega) y
      have hM4 := hHM.step (by omega) (by omega) hy
      rw [show k - 1 + 1 = k by omega] at hM4
      exact ⟨⟨k - 1, by omega, rfl, M.set k y, hM4, hQ4, HT4.out.set _ _⟩, by simp [intOf]; omega⟩
    · obtain ⟨y, hy⟩ := (show Mid L idx 0 M from (by have := HM.out; rwa [show k = 0 by omega] at this)).done hi
      obtain ⟨old, ho⟩ := hQ.some_at (i := f) (by omega)
      rw [hy] at HQ
      have HL := Lib.hid (List.length_eraseIdx_of_lt hi)
      have HY : Hid (M.length = (L.eraseIdx idx).length + 1) := by unfold Hid; rw [hy]; rfl
      have hL1 : ((y :: L.eraseIdx idx).length : Int) = (L.length : Int) := by rw [List.length_cons]; have := HL.out; omega
      clear hQ hy
      go_wp2_with (go_at_call 25; refine (place0I c64 hf).mono ?_; rintro e w2 ⟨rfl, hB⟩; have o1 := (hB.cell (p := ⟨q, f, none⟩) hq2).trans ho; have H2 := HQ.out.below' hB; have f2 := H2.fr; have HH2 := Lib.hid H2; have HT3 := Lib.hid (Tur.of_below (q := q) hB); have c2 : (w2.setCell ⟨q, f, none⟩ (.int .i64 0)).cell? ⟨q, 64, none⟩ = some (.int .i64 (f : Int)) := (by rw [cell_set_ne _ (by omega)]; exact H2.c64); have c3 : ((w2.setCell ⟨q, f, none⟩ (.int .i64 0)).setCell ⟨q, 64, none⟩ (.int .i64 (((f : Int) + 1) % 64))).cell? ⟨q, 65, none⟩ = some (.int .i64 (L.length : Int)) := (by rw [cell_set_ne _ (by omega), cell_set_ne _ (by omega), H2.c65, hL1]); clear hB H2)
      go_ret
      have s1 := HH2.out.set (i := 0) (by simp) (0 : Int)
      rw [show (f + 0) % 64 = f by omega] at s1
      have s2 := QAt.shift (L := L.eraseIdx idx) s1
      have e1 : (((f + 1) % 64 : Nat) : Int) = ((f : Int) + 1) % 64 := by omega
      have e2 : ((L.eraseIdx idx).length : Int) = (L.length : Int) - 1 := by have := HL.out; omega
      rw [e1, e2] at s2
      exact ⟨rfl, s2, (((HT2.out.trans HT3.out).set _ _).set _ _).set _ _⟩

set_option maxHeartbeats 400000 in
theorem pop_nilI (w : World) : Calls Try.prog 13 #[.pointer none] w fun e w' => e = .returned (.tuple #[(.int .i64 0), .int .i64 1]) ∧ w' = w := by
  go_enter Try.func13, Try.ntmps13
  go_wp2
  go_ret2
  exact ⟨rfl, rfl⟩

set_option maxHeartbeats 1000000 in
theorem pop_noI (h : QAt encI w q 53 f []) : Calls Try.prog 13 #[.pointer (some ⟨q, 0, none⟩)] w fun e w' => e = .returned (.tuple #[(.int .i64 0), .int .i64 70]) ∧ w' = w := by
  have c : w.cell? ⟨q, 65, none⟩ = some (.int .i64 0) := h.c65
  clear h
  go_enter Try.func13, Try.ntmps13
  go_wp2
  go_ret2
  exact ⟨rfl, rfl⟩

set_option maxHeartbeats 1000000 in
theorem popI {x : Int} (h : QAt encI w q 53 f (x :: L)) : Calls Try.prog 13 #[.pointer (some ⟨q, 0, none⟩)] w fun e w' => e = .returned (.tuple #[(.int .i64 x), .int .i64 0]) ∧ QAt encI w' q 53 ((f + 1) % 64) L ∧ Tur q w w' := by
  have c : w.cell? ⟨q, 65, none⟩ = some (.int .i64 ((L.length : Int) + 1)) := h.c65
  have hne : ¬ ((L.length : Int) + 1) = 0 := by omega
  have T := takeI h 0 x rfl
  go_enter Try.func13, Try.ntmps13
  go_wp2_with (go_at_call 26; refine T.mono ?_; rintro e w1 ⟨rfl, h1, h2⟩; have H1 := Lib.hid h1; have H2 := Lib.hid h2; clear h1 h2)
  go_ret2
  exact ⟨rfl, H1.out, H2.out⟩
end
end Go.Proofs.Ytaofnpnmgmieiaa
