/- SlotsPlaces, under Works11: a thing's slot is its number modulo eight, and the first free one. -/
import Derived.Test.YteannfenkmejjaaSlotsGoneOf
import Derived.Test.YteannfenkmejjaaSlHeld
import Derived.Test.YteannfenkmejjaaSlNumber
import Derived.Test.YteannfenkmejjaaSlActs
import Derived.Test.YteannfenkmejjaaAnd
namespace Go.Proofs.Yteannfenkmejjaa
open Go.RowKit

def marksV (M : List Bool) : Array Value := (M.map Value.bool).toArray
theorem marks_at {M : List Bool} {i : Nat} {b : Bool} (h : M[i]? = some b) : (marksV M)[i]? = some (.bool b) := by simp [marksV, h]
theorem marks_set (M : List Bool) (i : Nat) : (marksV M).setIfInBounds i (.bool true) = marksV (M.set i true) := by simp [marksV, List.map_set]

set_option maxRecDepth 100000 in
set_option maxHeartbeats 16000000 in
theorem places_of {g : Nat} {Sl : World → (Nat → Prop) → Nat → SlT Int → Prop} {Sl2 : World → (Nat → Prop) → Nat → SlT ByteArray → Prop} (K : Works11I g Sl) (K2 : Works11S g Sl2) (w0 : World) (N : New11I g Sl w0) (N2 : New11S g Sl2 w0) (a : Option Addr) (len cap : Nat) (hA : ActsAt w0 a len) :
    Calls Try.prog 8 #[.slice a len cap] w0 fun e w' => e = .returned (.bool true) ∧ Below w0.heap.size w0 w' := by
  have HA := Lib.hid hA.2
  have hlen := hA.1
  have HS := Lib.hid (shown11 K2 w0 N2)
  have HK := Lib.hid K
  have HN := Lib.hid N
  unfold maxLen at hlen
  clear hA K N K2 N2
  go_enter Try.func8, Try.ntmps8
  go_wp2_with (first
    | (go_at_call 9; refine HS.out.mono ?_; rintro e w1 ⟨rfl, hB⟩; have HB := Lib.hid hB; clear hB)
    | (go_at_call 10; refine (ss_newI HN.out HB.out).mono ?_; rintro e w2 ⟨p, rfl, h2⟩; have H2 := Lib.hid h2; clear h2))
  go_loopw [5] (fun i wr => ∃ j : Nat, j ≤ len ∧ j ≤ 150 ∧ i = .int .i64 (j : Int) ∧ ∃ L : SlT Int, SsI g Sl w0 wr p L) (fun i _ => 150 - (intOf i).toNat)
  case atStart => exact ⟨0, Nat.zero_le _, by omega, rfl, _, H2.out⟩
  case round =>
    obtain ⟨j, hj, hj2, rfl, L, hR⟩ := hrel
    have HR := Lib.hid hR
    have HO := Lib.hid (hR.ok HK.out)
    clear hR
    by_cases hlt : j < len ∧ j < 150
    · obtain ⟨l1, l2⟩ := hlt
      have l3 : (j : Int) < (len : Int) := by omega
      have l4 : (j : Int) < 150 := by omega
      obtain ⟨b, off, rfl, hb, hcs⟩ := HA.out (by omega)
      obtain ⟨d, k, pl, z, hA⟩ := hcs j l1
      have HA1 := Lib.hid hA
      clear hcs hA
      have hn8 := idsL_len L
      obtain ⟨n, hn⟩ : ∃ n, (idsL L).length = n := ⟨_, rfl⟩
      have I1 : Calls Try.prog 22 #[.pointer (some ⟨p, 0, none⟩)] wr fun e w3 => ∃ ia icap, e = .returned (.slice ia n icap) ∧ LsI w3 0 (.slice ia n icap) (idsL L) ∧ SsI g Sl w0 w3 p L := by
        refine (ss_idsI HK.out HR.out).mono ?_
        rintro e w3 ⟨v, rfl, hl, h3, -⟩
        have hl' := hl
        obtain ⟨ia, icap, rfl, -⟩ := hl
        rw [hn] at hl' ⊢
        exact ⟨ia, icap, rfl, hl'.mono (Nat.zero_le _), h3⟩
      have HI1 := Lib.hid I1
      have HNN := Lib.hid hn
      rw [hn] at hn8
      clear I1 hn
      go_wp2_with (go_at_call 22; refine HI1.out.mono ?_; rintro e w3 ⟨ia, icap, rfl, hls, h3⟩; have H3 := Lib.hid h3; have HLS := Lib.hid hls; clear h3 hls)
      have hbx : BoxA (w3.alloc (.cells #[.bool false, .bool false, .bool false, .bool false, .bool false, .bool false, .bool false, .bool false] 27)) w3.heap.size 27 (marksV (heldK (idsL L) 0)) := by
        rw [heldK_zero]; exact BoxA.new _ _ _
      have HBX := Lib.hid hbx
      have HBW := Lib.hid ((Below.refl w3.heap.size w3).alloc (Nat.le_refl _) (.cells #[.bool false, .bool false, .bool false, .bool false, .bool false, .bool false, .bool false, .bool false] 27))
      clear hbx
      obtain ⟨hbk, hhb⟩ : ∃ k, w3.heap.size = k := ⟨_, rfl⟩
      rw [hhb] at HBX HBW ⊢
      have HHB := Lib.hid hhb
      clear hhb
      go_loopw [8] (fun i wm => ∃ m : Nat, m ≤ n ∧ i = .int .i64 (m : Int) ∧ Below hbk w3 wm ∧ BoxA wm hbk 27 (marksV (heldK (idsL L) m))) (fun i _ => n - (intOf i).toNat)
      case atStart => exact ⟨0, Nat.zero_le _, rfl, HBW.out, HBX.out⟩
      case round =>
        obtain ⟨m, hm, rfl, hBm, hXm⟩ := hrel
        have HBm := Lib.hid hBm; have HXm := Lib.hid hXm
        clear hBm hXm
        by_cases hmn : m < n
        · have hml : (m : Int) < (n : Int) := by omega
          obtain ⟨x, hx⟩ : ∃ x, (idsL L)[m]? = some x := ⟨_, List.getElem?_eq_getElem (by rw [HNN.out]; exact hmn)⟩
          obtain ⟨hx0, hx8⟩ := idsL_low (List.mem_of_getElem? hx)
          obtain ⟨i, hi⟩ : ∃ i : Nat, x % 8 = (i : Int) := ⟨(x % 8).toNat, by omega⟩
          have hi8 : (i : Int) < 8 := by omega
          have hand : bits .and .i64 x 7 = (i : Int) := by rw [i64_and7, hi]
          have hxn : ¬ x < 0 := by omega
          have cm := HXm.out.at i (marks_at (held_no hx (by omega) hi))
          have fm := HXm.out.f i
          have hnx := Lib.hid (heldK_next hx (i := i) (by omega) hi)
          obtain ⟨_, _, e, hc⟩ := HLS.out
          obtain ⟨r, o, e2, -, hr, hcs⟩ := hc (by rw [HNN.out]; omega)
          cases e
          subst e2
          have ci := (HBm.out.cell (p := ⟨r, o + m, none⟩) (by rw [← HHB.out]; exact hr)).trans (hcs m x hx)
          clear hc hcs hx hi hx0 hx8
          go_wp2
          refine ⟨⟨m + 1, by omega, by go_num, HBm.out.setCell (p := ⟨hbk, i, none⟩) (Nat.le_refl _) _, ?_⟩, by simp [intOf]; omega⟩
          have := HXm.out.set i (.bool true)
          rw [marks_set, hnx.out] at this
          exact this
        · obtain rfl : m = n := by omega
          have hM : ∀ u, u < 8 → wr.cell? ⟨hbk, u, none⟩ = some (.bool (hasS L u)) := fun u hu => by
            have := held_all (L := L) hu
            rw [HNN.out] at this
            exact HXm.out.at u (marks_at this)
          have HM := Lib.hid hM
          have hB3 : Below w3.heap.size w3 wr := by rw [HHB.out]; exact HBm.out
          have T3 := Lib.hid (H3.out.below HK.out hB3)
          have HL3 := Lib.hid (HLS.out.below hB3)
          have hA0 := HA1.out.below T3.out.bel hb
          have c0 := hA0.c0
          have c1 := hA0.c1
          have c2 := hA0.c2
          have c3 := hA0.c3
          obtain ⟨y, hy, hd⟩ := mod6 d
          have hx := six d y hd
          clear hA0 hd hM hB3
          obtain ⟨x0, x1, x2, x3, x4, x5⟩ := hx
          rcases (show (y = 0 ∨ y = 1 ∨ y = 2) ∨ (y = 3 ∨ y = 4 ∨ y = 5) by omega) with hyy | hyy
          · have hsel : ((IntKind.u64.wrap d).tmod 6 == 0) = true ∨ ((IntKind.u64.wrap d).tmod 6 == 0) = false ∧ ((IntKind.u64.wrap d).tmod 6 == 1) = true ∨ ((IntKind.u64.wrap d).tmod 6 == 0) = false ∧ ((IntKind.u64.wrap d).tmod 6 == 1) = false ∧ ((IntKind.u64.wrap d).tmod 6 == 2) = true := by
              rw [x0, x1, x2]
              simp
              omega
            clear x0 x1 x2 x3 x4 x5 hyy hy
            rcases hsel with y0 | ⟨y0, y1⟩ | ⟨y0, y1, y2⟩
            all_goals
              go_wp2
              go_loopw [9] (fun i wv => ∃ u : Nat, u ≤ 8 ∧ i = .int .i64 (u : Int) ∧ wv = wr ∧ ∀ t, t < u → hasS L t = true) (fun i _ => 8 - (intOf i).toNat)
              case atStart => exact ⟨0, by omega, rfl, rfl, fun t ht => by omega⟩
              case round =>
                obtain ⟨u, hu, rfl, rfl, hall⟩ := hrel
                have HALL := Lib.hid hall
                clear hall
                by_cases hu8 : u < 8
                · have hul : (u : Int) < 8 := by omega
                  have cu := HM.out u hu8
                  by_cases hh : hasS L u = true
                  · have HH := Lib.hid hh
                    rw [hh] at cu
                    clear hh
                    go_wp2
                    go_roundw
                    case rel => exact ⟨u + 1, by omega, by go_num, by first | trivial | rfl, fun t ht => by
                      by_cases c : t = u
                      · rw [c]; exact HH.out
                      · exact HALL.out t (by omega)⟩
                    case measure => simp [intOf]; omega
                  · have hh' : hasS L u = false := by simpa using hh
                    rw [hh'] at cu
                    have hf := freeS_first hu8 hh' HALL.out
                    have A1 := ss_addI HK.out T3.out z
                    obtain ⟨id, hid⟩ : ∃ id, idS u (seqS L u) = id := ⟨_, rfl⟩
                    have hand : bits .and .i64 id 7 = (u : Int) := by rw [i64_and7, ← hid]; exact idS_mod u _ hu8
                    rw [show addE L = 0 by unfold addE; rw [hf]; rfl, show addN L = id by unfold addN; rw [hf]; exact hid] at A1
                    have HA1' := Lib.hid A1
                    clear A1 hh hh' hf hid
                    go_wp2_with (go_at_call 13; refine HA1'.out.mono ?_; rintro e w5 ⟨rfl, h5⟩; have H5 := Lib.hid h5; clear h5)
                    go_roundw
                    case rel => exact ⟨j + 1, by omega, by omega, by go_num, _, H5.out⟩
                    case measure => simp [intOf]; omega
                · obtain rfl : u = 8 := by omega
                  have hf := freeS_none HALL.out
                  have A1 := ss_addI HK.out T3.out z
                  rw [show addE L = 101 by unfold addE; rw [hf]; rfl, show addN L = 0 by unfold addN; rw [hf]] at A1
                  have HA1' := Lib.hid A1
                  clear A1 hf
                  go_wp2_with (go_at_call 13; refine HA1'.out.mono ?_; rintro e w5 ⟨rfl, h5⟩; have H5 := Lib.hid h5; clear h5)
                  go_roundw
                  case rel => exact ⟨j + 1, by omega, by omega, by go_num, _, H5.out⟩
                  case measure => simp [intOf]; omega
          · have d0 : decide (y = 0) = false := decide_eq_false (by omega)
            have d1 : decide (y = 1) = false := decide_eq_false (by omega)
            have d2 : decide (y = 2) = false := decide_eq_false (by omega)
            rw [d0] at x0
            rw [d1] at x1
            rw [d2] at x2
            have hNum := Lib.hid (number11 HL3.out (by rw [HNN.out]; omega) d k pl z)
            obtain ⟨id, hid⟩ : ∃ id, numX (idsL L) pl k = id := ⟨_, rfl⟩
            rw [hid] at hNum
            clear x3 x4 x5 d0 d1 d2 hid
            go_wp2_with (first
              | (go_at_call 11; refine hNum.out.mono ?_; rintro e w4 ⟨rfl, h4⟩; have T4 := Lib.hid (T3.out.below HK.out h4); clear h4)
              | (go_at_call 19; refine (ss_remI HK.out T4.out id).mono ?_; rintro e w5 ⟨rfl, h5⟩; have H5 := Lib.hid h5; clear h5))
            go_roundw
            case rel => exact ⟨j + 1, by omega, by omega, by go_num, _, H5.out⟩
            case measure => simp [intOf]; omega
    · have hor : ¬ ((j : Int) < (len : Int)) ∨ ((j : Int) < (len : Int) ∧ ¬ ((j : Int) < 150)) := by omega
      clear hlt
      rcases hor with e1 | ⟨e1, e2⟩
      all_goals
        go_wp2
        go_ret
        exact ⟨rfl, HR.out.bel⟩
end Go.Proofs.Yteannfenkmejjaa
