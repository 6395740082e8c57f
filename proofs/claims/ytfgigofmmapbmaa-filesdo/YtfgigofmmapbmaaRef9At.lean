/- The document's own descriptors of layer 9: at, refs, free, Count, Get, walked. -/
import Derived.Test.YtfgigofmmapbmaaRef9Base
namespace Go.Proofs.Ytfgigofmmapbmaa
open Go.RowKit

/-! ### pure -/
def atI (L : List FV) (p d : Int) : Int := match L.findIdx? (FV.is p d) with
  | some i => i
  | none => -1
def refsN (L : List FV) (f : Int) : Nat := L.countP (fun x => x.file == f)
def freeI (L : List FV) (p : Int) : Int := match (List.range 8).find? (fun d : Nat => (L.findIdx? (FV.is p d)).isNone) with
  | some d => d
  | none => -1
/-- open files of numbers 1 to n. -/
def cntN (L : List FV) : Nat → Nat
  | 0 => 0
  | n + 1 => cntN L n + (if 0 < refsN L (n + 1 : Nat) then 1 else 0)
theorem cntN_le (L : List FV) : ∀ n, cntN L n ≤ n
  | 0 => Nat.le_refl _
  | n + 1 => by have := cntN_le L n; unfold cntN; split <;> omega
theorem idx_some {L : List FV} {P : FV → Bool} {j : Nat} {x : FV} (hx : L[j]? = some x) (hP : P x = true) (hlo : ∀ i y, i < j → L[i]? = some y → P y = false) : L.findIdx? P = some j := by
  obtain ⟨hl, rfl⟩ := List.getElem?_eq_some_iff.1 hx
  refine List.findIdx?_eq_some_iff_getElem.2 ⟨hl, hP, fun i hi => ?_⟩
  rw [hlo i _ hi (List.getElem?_eq_getElem (by omega))]
  decide
theorem idx_none {L : List FV} {P : FV → Bool} (hlo : ∀ i y, i < L.length → L[i]? = some y → P y = false) : L.findIdx? P = none := by
  refine List.findIdx?_eq_none_iff.2 fun y hy => ?_
  obtain ⟨i, hi, rfl⟩ := List.mem_iff_getElem.1 hy
  exact hlo i _ hi (List.getElem?_eq_getElem hi)
theorem idx_next {P : FV → Bool} {L : List FV} {j : Nat} {x : FV} (h : ∀ i y, i < j → L[i]? = some y → P y = false) (hx : L[j]? = some x) (hP : P x = false) : ∀ i y, i < j + 1 → L[i]? = some y → P y = false := by
  intro i y hi hy
  rcases Nat.lt_or_ge i j with c | c
  · exact h i y c hy
  · obtain rfl : i = j := by omega
    rw [hx] at hy; cases hy; exact hP
theorem atI_some {L : List FV} {p d : Int} {i : Nat} (h : L.findIdx? (FV.is p d) = some i) : atI L p d = i := by unfold atI; rw [h]
theorem atI_none {L : List FV} {p d : Int} (h : L.findIdx? (FV.is p d) = none) : atI L p d = -1 := by unfold atI; rw [h]
theorem refsN_le (L : List FV) (f : Int) : refsN L f ≤ L.length := List.countP_le_length
theorem refs_yes {L : List FV} {x : FV} {f : Int} (h : x.file = f) : refsN (L ++ [x]) f = refsN L f + 1 := by
  unfold refsN
  rw [List.countP_append]
  simp [h]
theorem refs_no {L : List FV} {x : FV} {f : Int} (h : x.file ≠ f) : refsN (L ++ [x]) f = refsN L f := by
  unfold refsN
  rw [List.countP_append]
  simp [h]

section
variable {w : World} {base q : Nat} {v : Value} {L : List FV} {g : Int}
set_option maxRecDepth 100000 in
set_option maxHeartbeats 1000000 in
theorem at9 (h : R9 w base q v L g) (hn : L.length ≤ 100000) (p d : Int) : Calls Try.prog 31 #[.pointer (some ⟨q, 0, none⟩), .int .i64 p, .int .i64 d] w fun e w' => e = .returned (.int .i64 (atI L p d)) ∧ w = w' := by
  have c0 := h.c0
  obtain ⟨a, cap, rfl, hcap, ha⟩ := h.row.open
  have HR := Lib.hid h
  clear h
  go_enter Try.func31, Try.ntmps31
  go_wp2
  go_loop [7] (fun t => ∃ j : Nat, j ≤ L.length ∧ t = .int .i64 j ∧ (∀ i y, i < j → L[i]? = some y → FV.is p d y = false)) (fun t => L.length - (intOf t).toNat)
  case atStart => exact ⟨0, by omega, rfl, fun i y hi => absurd hi (by omega)⟩
  case round =>
    obtain ⟨j, hj, rfl, hno⟩ := hrel
    have HNO := Lib.hid hno
    clear hno
    by_cases hjl : j < L.length
    · obtain ⟨y, hy⟩ : ∃ y, L[j]? = some y := ⟨_, List.getElem?_eq_getElem hjl⟩
      obtain ⟨r, rfl⟩ := ha (by omega)
      clear ha
      have y0 : w.cell? ⟨r, j * 5, none⟩ = some (.int .i64 y.pid) := HR.out.row.cell hy 0 rfl
      have y1 := HR.out.row.cell hy 1 rfl
      have HY := Lib.hid hy
      clear hy
      by_cases hp : y.pid = p
      · have b0 : (y.pid == p) = true := by simpa using hp
        by_cases hd : y.fd = d
        · have b1 : (y.fd == d) = true := by simpa using hd
          have HE := Lib.hid (atI_some (idx_some (P := FV.is p d) HY.out (by unfold FV.is; rw [b0, b1]; rfl) HNO.out))
          clear hp hd
          go_wp2
          go_ret
          exact ⟨by rw [HE.out]; rfl, rfl⟩
        · have b1 : (y.fd == d) = false := by simpa using hd
          have HF := Lib.hid (show FV.is p d y = false by unfold FV.is; rw [b1, Bool.and_false])
          clear hp hd
          go_wp2
          go_round
          case rel => exact ⟨j + 1, by omega, by go_num, idx_next HNO.out HY.out HF.out⟩
          case measure => simp [intOf]; omega
      · have b0 : (y.pid == p) = false := by simpa using hp
        have HF := Lib.hid (show FV.is p d y = false by unfold FV.is; rw [b0, Bool.false_and])
        clear hp
        go_wp2
        go_round
        case rel => exact ⟨j + 1, by omega, by go_num, idx_next HNO.out HY.out HF.out⟩
        case measure => simp [intOf]; omega
    · obtain rfl : j = L.length := by omega
      have HE := Lib.hid (atI_none (p := p) (d := d) (idx_none HNO.out))
      go_wp2
      go_ret
      exact ⟨by rw [HE.out]; rfl, rfl⟩

set_option maxRecDepth 100000 in
set_option maxHeartbeats 1000000 in
theorem refs9 (h : R9 w base q v L g) (hn : L.length ≤ 100000) (f : Int) : Calls Try.prog 29 #[.pointer (some ⟨q, 0, none⟩), .int .i64 f] w fun e w' => e = .returned (.int .i64 (refsN L f)) ∧ w = w' := by
  have c0 := h.c0
  obtain ⟨a, cap, rfl, hcap, ha⟩ := h.row.open
  have HR := Lib.hid h
  clear h
  go_enter Try.func29, Try.ntmps29
  go_wp2
  go_loop [5, 6] (fun n t => ∃ j : Nat, j ≤ L.length ∧ t = .int .i64 j ∧ n = .int .i64 (refsN (L.take j) f)) (fun _ t => L.length - (intOf t).toNat)
  case atStart => exact ⟨0, by omega, rfl, rfl⟩
  case round =>
    obtain ⟨j, hj, rfl, rfl⟩ := hrel
    by_cases hjl : j < L.length
    · obtain ⟨y, hy⟩ : ∃ y, L[j]? = some y := ⟨_, List.getElem?_eq_getElem hjl⟩
      obtain ⟨r, rfl⟩ := ha (by omega)
      clear ha
      have y2 := HR.out.row.cell hy 2 rfl
      have HS := Lib.hid (take_snoc9 hy)
      have hle : refsN (L.take j) f ≤ j := Nat.le_trans (refsN_le _ f) (by simp; omega)
      clear hy
      by_cases hp : y.file = f
      · have b0 : (y.file == f) = true := by simpa using hp
        have HF := Lib.hid (refs_yes (L := L.take j) hp)
        clear hp
        generalize refsN (L.take j) f = n at *
        go_wp2
        go_round
        case rel => exact ⟨j + 1, by omega, by go_num, by rw [HS.out, HF.out]; go_num⟩
        case measure => simp [intOf]; omega
      · have b0 : (y.file == f) = false := by simpa using hp
        have HF := Lib.hid (refs_no (L := L.take j) hp)
        clear hp
        generalize refsN (L.take j) f = n at *
        go_wp2
        go_round
        case rel => exact ⟨j + 1, by omega, by go_num, by rw [HS.out, HF.out]⟩
        case measure => simp [intOf]; omega
    · obtain rfl : j = L.length := by omega
      rw [List.take_length]
      go_wp2
      go_ret
      exact ⟨rfl, rfl⟩

/-- which is free. -/
theorem free_no {L : List FV} {p : Int} {j : Nat} (h : j ≤ 8) (hlo : ∀ i : Nat, i < j → ∃ k, L.findIdx? (FV.is p i) = some k) (hj : j = 8) : freeI L p = -1 := by
  subst hj
  unfold freeI
  rw [List.find?_eq_none.2]
  intro i hi
  obtain ⟨k, hk⟩ := hlo i (by simpa using hi)
  simp [hk]
theorem free_yes {L : List FV} {p : Int} {j : Nat} (h : j < 8) (hlo : ∀ i : Nat, i < j → ∃ k, L.findIdx? (FV.is p i) = some k) (hj : L.findIdx? (FV.is p j) = none) : freeI L p = j := by
  unfold freeI
  rw [show (List.range 8).find? (fun d : Nat => (L.findIdx? (FV.is p d)).isNone) = some j from ?_]
  rw [List.find?_range_eq_some]
  refine ⟨by simp [hj], List.mem_range.2 h, fun i hi => ?_⟩
  obtain ⟨k, hk⟩ := hlo i hi
  simp [hk]

set_option maxRecDepth 100000 in
set_option maxHeartbeats 1000000 in
theorem free9 (h : R9 w base q v L g) (hn : L.length ≤ 100000) (p : Int) : Calls Try.prog 38 #[.pointer (some ⟨q, 0, none⟩), .int .i64 p] w fun e w' => e = .returned (.int .i64 (freeI L p)) ∧ w = w' := by
  have HA : Hid (∀ d, Calls Try.prog 31 #[.pointer (some ⟨q, 0, none⟩), .int .i64 p, .int .i64 d] w fun e w' => e = .returned (.int .i64 (atI L p d)) ∧ w = w') := fun d => at9 h hn p d
  clear h
  go_enter Try.func38, Try.ntmps38
  go_wp2
  go_loop [5] (fun t => ∃ j : Nat, j ≤ 8 ∧ t = .int .i64 j ∧ (∀ i : Nat, i < j → ∃ k, L.findIdx? (FV.is p i) = some k)) (fun t => 8 - (intOf t).toNat)
  case atStart => exact ⟨0, by omega, rfl, fun i hi => absurd hi (by omega)⟩
  case round =>
    obtain ⟨j, hj, rfl, hno⟩ := hrel
    have HNO := Lib.hid hno
    clear hno
    by_cases hjl : j < 8
    · cases e : L.findIdx? (FV.is p j) with
      | none =>
        have HE := Lib.hid (free_yes hjl HNO.out e)
        have HT := Lib.hid (atI_none e)
        clear e
        go_wp2_with (go_at_call 31; refine (HA.out _).mono ?_; rintro e w' ⟨rfl, rfl⟩; rw [HT.out])
        go_ret
        exact ⟨by rw [HE.out]; rfl, rfl⟩
      | some k =>
        have HT := Lib.hid (atI_some e)
        have HK := Lib.hid e
        have hk0 : ¬ ((k : Int) < 0) := by omega
        clear e
        go_wp2_with (go_at_call 31; refine (HA.out _).mono ?_; rintro e w' ⟨rfl, rfl⟩; rw [HT.out])
        go_round
        case rel => exact ⟨j + 1, by omega, by go_num, fun i hi => by
          rcases Nat.lt_or_ge i j with c | c
          · exact HNO.out i c
          · obtain rfl : i = j := by omega
            exact ⟨k, HK.out⟩⟩
        case measure => simp [intOf]; omega
    · obtain rfl : j = 8 := by omega
      have HE := Lib.hid (free_no (Nat.le_refl _) HNO.out rfl)
      go_wp2
      go_ret
      exact ⟨by rw [HE.out]; rfl, rfl⟩

set_option maxRecDepth 100000 in
set_option maxHeartbeats 1000000 in
theorem count9 {n : Nat} (h : R9 w base q v L n) (hn : L.length ≤ 100000) (hg : n ≤ 100000) : Calls Try.prog 14 #[.pointer (some ⟨q, 0, none⟩)] w fun e w' => e = .returned (.int .i64 (cntN L n)) ∧ w = w' := by
  have HA : Hid (∀ d, Calls Try.prog 29 #[.pointer (some ⟨q, 0, none⟩), .int .i64 d] w fun e w' => e = .returned (.int .i64 (refsN L d)) ∧ w = w') := fun d => refs9 h hn d
  have c1 := h.c1
  clear h
  go_enter Try.func14, Try.ntmps14
  go_wp2
  go_loop [3, 4] (fun c t => ∃ j : Nat, j ≤ n ∧ t = .int .i64 ((j : Int) + 1) ∧ c = .int .i64 (cntN L j)) (fun _ t => n + 1 - (intOf t).toNat)
  case atStart => exact ⟨0, by omega, rfl, rfl⟩
  case round =>
    obtain ⟨j, hj, rfl, rfl⟩ := hrel
    have hle := cntN_le L j
    by_cases hjl : j < n
    · have HW := Lib.hid (show cntN L (j + 1) = cntN L j + (if 0 < refsN L ((j : Int) + 1) then 1 else 0) by rw [cntN]; rfl)
      by_cases hr : 0 < refsN L ((j : Int) + 1)
      · rw [if_pos hr] at HW
        obtain ⟨m, hm0⟩ : ∃ m, m = refsN L ((j : Int) + 1) := ⟨_, rfl⟩
        rw [← hm0] at hr
        have hm : (0 : Int) < (m : Int) := by omega
        have HM := Lib.hid hm0.symm
        clear hm0
        generalize cntN L j = c at *
        go_wp2_with (go_at_call 29; refine (HA.out _).mono ?_; rintro e w' ⟨rfl, rfl⟩; rw [HM.out])
        go_round
        case rel => exact ⟨j + 1, by omega, by go_num, by rw [HW.out]; go_num⟩
        case measure => simp [intOf]; omega
      · rw [if_neg hr] at HW
        have hm0 : refsN L ((j : Int) + 1) = 0 := by omega
        have HM := Lib.hid hm0
        clear hr hm0
        generalize cntN L j = c at *
        go_wp2_with (go_at_call 29; refine (HA.out _).mono ?_; rintro e w' ⟨rfl, rfl⟩; rw [HM.out])
        go_round
        case rel => exact ⟨j + 1, by omega, by go_num, by rw [HW.out]; go_num⟩
        case measure => simp [intOf]; omega
    · obtain rfl : j = n := by omega
      go_wp2
      go_ret
      exact ⟨rfl, rfl⟩
end
end Go.Proofs.Ytfgigofmmapbmaa
