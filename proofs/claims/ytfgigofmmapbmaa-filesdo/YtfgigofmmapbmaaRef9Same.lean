/- The document's own descriptors of layer 9: Same (two lists of what was opened). -/
import Derived.Test.YtfgigofmmapbmaaRef9Drop
namespace Go.Proofs.Ytfgigofmmapbmaa
open Go.RowKit Go.Lib

set_option maxRecDepth 100000 in
theorem neq_opened (a b a' b' : Int) (w : World) : (binOp .neq 32 (.agg #[.int .i64 a, .int .i64 b]) (.agg #[.int .i64 a', .int .i64 b'])).run Try.prog w = .ok (.bool (!((a == a') && (b == b')))) w := by
  cases h1 : (a == a') <;> cases h2 : (b == b') <;> simp [go_sem, h1, h2]

theorem same_next {A B : List (Int × Int)} {j : Nat} (h : ∀ i, i < j → A[i]? = B[i]?) (hx : A[j]? = B[j]?) : ∀ i, i < j + 1 → A[i]? = B[i]? := fun i hi => by
  rcases Nat.lt_or_ge i j with c | c
  · exact h i c
  · obtain rfl : i = j := by omega
    exact hx

set_option maxRecDepth 100000 in
set_option maxHeartbeats 4000000 in
theorem same9 {w : World} {lo : Nat} {v u : Value} {A B : List (Int × Int)} (h : OsIn w lo v A) (hb : OsIn w lo u B) (hn : A.length ≤ 100000) : Calls Try.prog 27 #[v, u] w fun e w' =>
    e = .returned (.bool (decide (A = B))) ∧ Below w.heap.size w w' := by
  obtain ⟨a, cap, rfl, ha⟩ := h
  obtain ⟨b, cap', rfl, hb⟩ := hb
  by_cases hl : A.length = B.length
  · have hlI : (A.length : Int) = (B.length : Int) := by omega
    have HA := Lib.hid ha; have HB := Lib.hid hb; have HL := Lib.hid hl
    have HY : Hid ((∀ i, i < A.length → A[i]? = B[i]?) → decide (A = B) = true) := fun h => by
      refine decide_eq_true (List.ext_getElem? fun i => ?_)
      rcases Nat.lt_or_ge i A.length with c | c
      · exact h i c
      · rw [List.getElem?_eq_none c, List.getElem?_eq_none (by omega)]
    have HN : Hid (∀ i : Nat, A[i]? ≠ B[i]? → decide (A = B) = false) := fun i h => decide_eq_false (fun e => h (by rw [e]))
    clear ha hb hl
    generalize decide (A = B) = D at *
    go_enter Try.func27, Try.ntmps27
    go_wp2
    go_loopw [5] (fun t wr => ∃ j : Nat, j ≤ A.length ∧ t = .int .i64 j ∧ (∀ i, i < j → A[i]? = B[i]?) ∧ Below w.heap.size w wr) (fun t _ => A.length - (intOf t).toNat)
    case atStart => exact ⟨0, by omega, rfl, fun i hi => absurd hi (by omega), Below.refl _ _⟩
    case round =>
      obtain ⟨j, hj, rfl, hno, hB⟩ := hrel
      have HBW := Lib.hid hB; have HNO := Lib.hid hno
      clear hno hB
      by_cases hjl : j < A.length
      · have hjb : (j : Int) < (B.length : Int) := by omega
        have hjB : j < B.length := by omega
        obtain ⟨r, o, rfl, -, hr1, hr2⟩ := HA.out (by omega)
        obtain ⟨s, z, rfl, -, hs1, hs2⟩ := HB.out (by omega)
        obtain ⟨x, hx⟩ : ∃ x, A[j]? = some x := ⟨_, List.getElem?_eq_getElem hjl⟩
        obtain ⟨y, hy⟩ : ∃ y, B[j]? = some y := ⟨_, List.getElem?_eq_getElem hjB⟩
        obtain ⟨x1, x2⟩ := x
        obtain ⟨y1, y2⟩ := y
        have k1 := (HBW.out.cell (p := ⟨r, o + j * 2, none⟩) hr1).trans (hr2 j _ hx).1
        have k2 := (HBW.out.cell (p := ⟨r, o + j * 2 + 1, none⟩) hr1).trans (hr2 j _ hx).2
        have k3 := (HBW.out.cell (p := ⟨s, z + j * 2, none⟩) hs1).trans (hs2 j _ hy).1
        have k4 := (HBW.out.cell (p := ⟨s, z + j * 2 + 1, none⟩) hs1).trans (hs2 j _ hy).2
        have hq := neq_opened x1 x2 y1 y2
        have HX := Lib.hid hx; have HYY := Lib.hid hy
        clear hx hy hr2 hs2
        dsimp only at k1 k2 k3 k4
        cases e : ((x1 == y1) && (x2 == y2)) with
        | true =>
          rw [e] at hq
          have HE := Lib.hid (show A[j]? = B[j]? by
            simp at e
            rw [HX.out, HYY.out, e.1, e.2])
          go_wp2
          go_quiet (fail)
          go_wp2
          go_roundw
          case rel => exact ⟨j + 1, by omega, by go_num, same_next HNO.out HE.out, below_drewN' HBW.out⟩
          case measure => simp [intOf]; omega
        | false =>
          rw [e] at hq
          have HE := Lib.hid (HN.out j (by
            rw [HX.out, HYY.out]
            intro c
            cases c
            simp at e))
          go_wp2
          go_quiet (fail)
          go_wp2
          go_ret
          exact ⟨by rw [HE.out]; rfl, below_drewN' HBW.out⟩
      · obtain rfl : j = A.length := by omega
        have HE := Lib.hid (HY.out HNO.out)
        go_wp2
        go_ret
        exact ⟨by rw [HE.out]; rfl, HBW.out⟩
  · have hlI : ¬ (A.length : Int) = (B.length : Int) := by omega
    rw [decide_eq_false (fun e => hl (by rw [e]))]
    clear ha hb
    go_enter Try.func27, Try.ntmps27
    go_wp2
    go_ret
    exact ⟨rfl, Below.refl _ _⟩
end Go.Proofs.Ytfgigofmmapbmaa
