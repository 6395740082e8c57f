/- QueueOwn: for every list of numbers the law answers true: what All answers shares nothing with the queue. No conditions. -/
import Derived.Test.YtaofnpnmgmieiaaQuPure2
import Derived.Deep.RegionHeld3
import Derived.Deep.AppendSrc
namespace Go.Proofs.Ytaofnpnmgmieiaa
open Go.RowKit Go.ChangeShapes Go.WideShapes Go.ChangeAt Go.Lib

/-- n numbers lie in the block g. -/
def RowAt (w : World) (g n : Nat) : Prop := ∃ cur : Array Value, w.heap[g]? = some (.cells cur 3 (0, 0)) ∧ n ≤ cur.size ∧ ∀ i, i < n → ∃ x : Int, cur[i]? = some (.int .i64 x)
theorem AllAt.row {w : World} {base g n : Nat} {L : List Int} (h : AllAt w base (.slice (some ⟨g, 0, none⟩) n n) L) (hn : n = L.length) : RowAt w g n := by
  rcases h with ⟨_, e⟩ | ⟨g', cur, e, hb, hg, hl, ht⟩
  · cases e
  · cases e
    refine ⟨cur, hg, by omega, fun i hi => ?_⟩
    have := congrArg (fun l => l[i]?) ht
    simp only [List.getElem?_map] at this
    rw [List.getElem?_take_of_lt (by omega)] at this
    obtain ⟨y, hy⟩ : ∃ y, L[i]? = some y := ⟨_, List.getElem?_eq_getElem (by omega)⟩
    rw [hy] at this
    exact ⟨y, by simpa using this⟩
theorem RowAt.cell {w : World} {g n i : Nat} (h : RowAt w g n) (hi : i < n) : ∃ x : Int, w.cell? ⟨g, i, none⟩ = some (.int .i64 x) := by
  obtain ⟨cur, hg, _, hc⟩ := h
  obtain ⟨x, hx⟩ := hc i hi
  exact ⟨x, by simp [World.cell?, hg, hx]⟩
theorem RowAt.fr {w : World} {g n : Nat} (h : RowAt w g n) (o : Nat) : w.frozen? ⟨g, o, none⟩ = false := by
  obtain ⟨cur, hg, _⟩ := h
  simp [World.frozen?, hg]
theorem RowAt.set {w : World} {g n i : Nat} (h : RowAt w g n) (y : Int) : RowAt (w.setCell ⟨g, i, none⟩ (.int .i64 y)) g n := by
  obtain ⟨cur, hg, hl, hc⟩ := h
  refine ⟨_, heap_setCell_same w g _ _ _ _ hg, by simpa using hl, fun k hk => ?_⟩
  by_cases e : i = k
  · subst e
    exact ⟨y, by rw [Array.getElem?_setIfInBounds_self_of_lt (by omega)]⟩
  · obtain ⟨x, hx⟩ := hc k hk
    exact ⟨x, by rw [Array.getElem?_setIfInBounds_ne e]; exact hx⟩

theorem append_row (ty : TypeId) {w : World} {g n : Nat} (h : RowAt w g n) (hn : n ≤ 60) (x : Int) : ∃ c w', (Builtin.append_ #[26, 26] ty #[.slice (some ⟨g, 0, none⟩) n n, .slice (some ⟨w.heap.size, 0, none⟩) 1 1]).run Try.prog (w.alloc (.cells #[.int .i64 x] 3)) = .ok (.slice (some ⟨w.heap.size + 1, 0, none⟩) (n + 1) c) w' ∧ Below w.heap.size w w' := by
  obtain ⟨i0, hi, hz0, hz1, hz2⟩ := info_parts Try.infoInt7
  have hg0 : g < w.heap.size := by obtain ⟨cur, hg, _⟩ := h; exact (Array.getElem?_eq_some_iff.1 hg).1
  obtain ⟨cur, hg, hl, hc⟩ := h
  have hr := run_append_grow (P := Try.prog) (w.alloc (.cells #[.int .i64 x] 3)) 26 ty 3 i0 (.int .i64 0) Try.underlying26 hi hz0 ⟨g, 0, none⟩ n n (cur.toList.take n) (by rw [List.length_take, hz1]; simp; omega) (by
    intro j u hu
    have hj : j < n := by have := (List.getElem?_eq_some_iff.1 hu).1; rw [List.length_take] at this; omega
    rw [List.getElem?_take_of_lt hj] at hu
    rw [Addr.add_mid]
    have hg' := (Below.heap_alloc w (.cells #[.int .i64 x] 3) g hg0).trans hg
    simp [World.cell?, hg']
    simpa using hu) ⟨w.heap.size, 0, none⟩ 1 1 [.int .i64 x] (by rw [hz1]; rfl) (cell_one_new _ _ _) (by omega) (by omega) (growslice_fits (by omega) (by rw [hz2]; omega))
  refine ⟨_, _, hr.trans (by rw [World.size_alloc]), ?_⟩
  exact Below.alloc (below_drew7 ((Below.refl _ _).alloc (Nat.le_refl _) _)) (by simp) _
theorem append_nil7 (ty : TypeId) (w : World) (x : Int) : ∃ c w', (Builtin.append_ #[26, 26] ty #[.slice none 0 0, .slice (some ⟨w.heap.size, 0, none⟩) 1 1]).run Try.prog (w.alloc (.cells #[.int .i64 x] 3)) = .ok (.slice (some ⟨w.heap.size + 1, 0, none⟩) 1 c) w' ∧ Below w.heap.size w w' := by
  obtain ⟨i0, hi, hz0, hz1, hz2⟩ := info_parts Try.infoInt7
  have hr := run_append_nil (P := Try.prog) (w.alloc (.cells #[.int .i64 x] 3)) 26 ty 3 i0 (.int .i64 0) Try.underlying26 hi hz0 ⟨w.heap.size, 0, none⟩ 1 1 [.int .i64 x] (by rw [hz1]; rfl) (cell_one_new _ _ _) (by omega) (by omega) (by rw [hz2]; omega)
  refine ⟨_, _, hr.trans (by rw [World.size_alloc]), ?_⟩
  exact Below.alloc (below_drew7 ((Below.refl _ _).alloc (Nat.le_refl _) _)) (by simp) _

set_option maxRecDepth 100000 in
set_option maxHeartbeats 4000000 in
theorem own_walk (a : Option Addr) (cap : Nat) (X : List Int) (w : World) (hX : LsI w 0 (.slice a X.length cap) X) (hm : X.length ≤ maxLen) (hcap : X.length ≤ cap) :
    Calls Try.prog 6 #[.slice a X.length cap] w fun e w' => e = .returned (.bool true) ∧ Below w.heap.size w w' := by
  have S := shown7 w
  have HX := Lib.hid hX
  obtain ⟨N, hN⟩ : ∃ N : Nat, N = min X.length 60 := ⟨_, rfl⟩
  have hN1 : N ≤ 60 := by omega
  have hN2 : N ≤ X.length := by omega
  have HN3 : Hid (∀ j : Nat, ¬ j < N → ¬ (j : Int) < (X.length : Int) ∨ ((j : Int) < (X.length : Int) ∧ ¬ (j : Int) < 60)) := fun j hj => by omega
  have HN4 : Hid (N = min X.length 60) := hN
  unfold maxLen at hm
  clear hX hN
  obtain ⟨i0, hi, hz0, hz1, hz2⟩ := info_parts Try.infoInt7
  have HI := Lib.hid hi; have HZ0 := Lib.hid hz0; have HZ1 := Lib.hid hz1; have HZ2 := Lib.hid hz2
  clear hi hz0 hz1 hz2
  go_enter Try.func6, Try.ntmps6
  go_wp2_with (first
    | (go_at_call 9; refine S.mono ?_; clear S; rintro e w0 ⟨rfl, hB0⟩; have B0 := Lib.hid hB0; have NW := newI w0; clear hB0)
    | (go_at_call 10; refine NW.mono ?_; clear NW; rintro e w1 ⟨rfl, hq, hB⟩; have Q1 := Lib.hid hq; have B1 := Lib.hid (B0.out.trans (hB.mono B0.out.size)); have hq0 := B0.out.size; clear hq hB))
  generalize w0.heap.size = q at Q1 hq0 ⊢
  go_loopw [5] (fun i wr => ∃ j : Nat, j ≤ N ∧ i = .int .i64 (j : Int) ∧ (∃ f, QAt encI wr q 53 f (X.take j)) ∧ Below w.heap.size w wr) (fun i _ => N - (intOf i).toNat)
  case atStart => exact ⟨0, by omega, rfl, ⟨0, Q1.out⟩, B1.out⟩
  case round =>
    obtain ⟨j, hj, rfl, ⟨f, hQ⟩, hB⟩ := hrel
    have HQ := Lib.hid hQ; have HB := Lib.hid hB
    clear hQ hB
    by_cases hlt : j < N
    · obtain ⟨b, o, rfl, hb, hc⟩ := HX.out.arg (by omega)
      obtain ⟨x, hx⟩ : ∃ x, X[j]? = some x := ⟨_, List.getElem?_eq_getElem (by omega)⟩
      have cx := (HB.out.cell (p := ⟨b, o + j, none⟩) hb).trans (hc j x hx)
      have k1 : (j : Int) < (X.length : Int) := by omega
      have k2 : (j : Int) < 60 := by omega
      have HP := Lib.hid (push_lt HQ.out (by rw [List.length_take]; omega) x)
      rw [take_push hx] at HP
      clear hx hc
      go_wp2_with (go_at_call 11; refine HP.out.mono ?_; rintro e w2 ⟨rfl, h3, t3⟩; have HQ3 := Lib.hid h3; have HB2 := Lib.hid (t3.below HB.out hq0 HB.out.size); clear h3 t3)
      go_roundw
      case rel => exact ⟨j + 1, by omega, by go_num, ⟨_, HQ3.out⟩, HB2.out⟩
      case measure => simp [intOf]; omega
    · obtain rfl : j = N := by omega
      have h3 := HN3.out j hlt
      have HTL : Hid ((X.take j).length = j) := by unfold Hid; rw [List.length_take]; omega
      clear hj
      by_cases hj0 : j = 0
      · subst hj0
        have hX0 : X = [] := List.eq_nil_of_length_eq_zero (by have := HN4.out; omega)
        subst hX0
        clear h3
        go_wp2_with (go_at_call 18; refine (all7 HQ.out).mono ?_; rintro e w2 ⟨va, rfl, ha, ba⟩; have HQ2 := Lib.hid (HQ.out.below' ba); have HB2 := Lib.hid (HB.out.trans (ba.mono HB.out.size)); have HA := Lib.hid ha; clear ha ba)
        rcases id HA.out with ⟨e1, rfl⟩ | ⟨g, cur, rfl, hb, _⟩
        · go_loopw [7] (fun i wr2 => i = .int .i64 0 ∧ w2 = wr2) (fun _ _ => 0)
          case atStart => exact ⟨rfl, rfl⟩
          case round =>
            obtain ⟨rfl, rfl⟩ := hrel
            obtain ⟨c7, w7, hr7, hB7⟩ := append_nil7 26 w2 7
            go_wp2_with (at_builtin; refine wpList_append_run _ rfl _ _ _ _ rfl _ _ rfl rfl _ _ hr7 ?_)
            have HQ7 := Lib.hid (HQ2.out.below' hB7)
            have HB7 := Lib.hid (HB2.out.trans (hB7.mono HB2.out.size))
            clear hB7 hr7
            have s0 : w7.cell? ⟨q, 65, none⟩ = some (.int .i64 0) := HQ7.out.c65
            have hw1 : IntKind.i64.wrap 1 = 1 := by decide
            have hq7 := HQ7.out.lt
            clear e1 hm hcap
            go_region_held3 (fun w' => w'.cell? ⟨q, 65, none⟩ = some (.int .i64 0)) (first | exact s0 | exact s1 | exact s2) (first
              | (go_at_call 18; refine (all7 (HQ7.out.keep (by rfl))).mono ?_; rintro e wa ⟨v3, rfl, h3, b3⟩; have HA3 : Hid (LsI wa 0 v3 []) := h3.ls.mono (Nat.zero_le _); have s1 := (b3.cell (p := ⟨q, 65, none⟩) hq7).trans s0; have HB3 := Lib.hid (HB7.out.trans ((drew_below' b3).mono HB7.out.size)); have hqa := Nat.lt_of_lt_of_le hq7 b3.size; clear h3 b3)
              | (go_at_call 17; refine (ints7 (xs := []) (n := 0) (n' := 0) (by simp) HA3.out ⟨a, cap, rfl, fun h => absurd h (by simp)⟩).mono ?_; rintro e wb ⟨rfl, b4⟩; have s2 := (b4.cell (p := ⟨q, 65, none⟩) hqa).trans s1; have HB4 := Lib.hid (HB3.out.trans (b4.mono HB3.out.size)); clear b4))
            all_goals
              go_wp2
              go_ret
              exact ⟨rfl, HB4.out⟩
        · go_loopw [7] (fun i wr2 => i = .int .i64 0 ∧ w2 = wr2) (fun _ _ => 0)
          case atStart => exact ⟨rfl, rfl⟩
          case round =>
            obtain ⟨rfl, rfl⟩ := hrel
            obtain ⟨c7, w7, hr7, hB7⟩ := append_row 26 (HA.out.row (n := 0) rfl) (by omega) 7
            go_wp2_with (at_builtin; refine wpList_append_run _ rfl _ _ _ _ rfl _ _ rfl rfl _ _ hr7 ?_)
            have HQ7 := Lib.hid (HQ2.out.below' hB7)
            have HB7 := Lib.hid (HB2.out.trans (hB7.mono HB2.out.size))
            clear hB7 hr7
            have s0 : w7.cell? ⟨q, 65, none⟩ = some (.int .i64 0) := HQ7.out.c65
            have hw1 : IntKind.i64.wrap 1 = 1 := by decide
            have hq7 := HQ7.out.lt
            clear hb hm hcap
            go_region_held3 (fun w' => w'.cell? ⟨q, 65, none⟩ = some (.int .i64 0)) (first | exact s0 | exact s1 | exact s2) (first
              | (go_at_call 18; refine (all7 (HQ7.out.keep (by rfl))).mono ?_; rintro e wa ⟨v3, rfl, h3, b3⟩; have HA3 : Hid (LsI wa 0 v3 []) := h3.ls.mono (Nat.zero_le _); have s1 := (b3.cell (p := ⟨q, 65, none⟩) hq7).trans s0; have HB3 := Lib.hid (HB7.out.trans ((drew_below' b3).mono HB7.out.size)); have hqa := Nat.lt_of_lt_of_le hq7 b3.size; clear h3 b3)
              | (go_at_call 17; refine (ints7 (xs := []) (n := 0) (n' := 0) (by simp) HA3.out ⟨a, cap, rfl, fun h => absurd h (by simp)⟩).mono ?_; rintro e wb ⟨rfl, b4⟩; have s2 := (b4.cell (p := ⟨q, 65, none⟩) hqa).trans s1; have HB4 := Lib.hid (HB3.out.trans (b4.mono HB3.out.size)); clear b4))
            all_goals
              go_wp2
              go_ret
              exact ⟨rfl, HB4.out⟩
      · rcases h3 with c | ⟨c, c2⟩
        all_goals
          go_wp2_with (go_at_call 18; refine (all7 HQ.out).mono ?_; rintro e w2 ⟨va, rfl, ha, ba⟩; have HQ2 := Lib.hid (HQ.out.below' ba); have hql := HQ.out.lt; have hw2 := ba.size; have hwr := HB.out.size; have HB2 := Lib.hid (HB.out.trans (ba.mono HB.out.size)); have HA := Lib.hid ha; clear ha ba)
          rcases id HA.out with ⟨e1, _⟩ | ⟨g, cur, rfl, hb, _⟩
          · exact absurd (by have := HTL.out; rw [e1] at this; simpa using this.symm) hj0
          · rw [HTL.out] at HA ⊢
            have HR := Lib.hid (HA.out.row HTL.out.symm)
            have hgq : q ≠ g := by omega
            have hwg : w.heap.size ≤ g := by omega
            clear hb
            go_loopw [7] (fun i wr2 => ∃ k : Nat, k ≤ j ∧ i = .int .i64 (k : Int) ∧ RowAt wr2 g j ∧ Tur g w2 wr2) (fun i _ => j - (intOf i).toNat)
            case atStart => exact ⟨0, by omega, rfl, HR.out, Tur.refl _⟩
            case round =>
              obtain ⟨k, hk, rfl, hrow, ht⟩ := hrel
              have HROW := Lib.hid hrow; have HT := Lib.hid ht
              by_cases hkj : k < j
              · obtain ⟨x, hx⟩ := hrow.cell hkj
                have hfr := hrow.fr k
                have kk : (k : Int) < (j : Int) := by omega
                clear hrow ht
                go_wp2
                go_roundw
                case rel => exact ⟨k + 1, by omega, by go_num, HROW.out.set _, HT.out.set _ _⟩
                case measure => simp [intOf]; omega
              · obtain rfl : k = j := by omega
                obtain ⟨c7, w7, hr7, hB7⟩ := append_row 26 hrow hN1 7
                go_wp2_with (at_builtin; refine wpList_append_run _ rfl _ _ _ _ rfl _ _ rfl rfl _ _ hr7 ?_)
                have HBW := Lib.hid (HT.out.below HB2.out hwg HB2.out.size)
                have HQ7 := Lib.hid ((HQ2.out.tur HT.out hgq).below' hB7)
                have HB7 := Lib.hid (HBW.out.trans (hB7.mono HBW.out.size))
                have HX7 := Lib.hid (HX.out.below HB7.out)
                clear hB7 hr7 hrow ht
                have hq7 := HQ7.out.lt
                have s0 : w7.cell? ⟨q, 65, none⟩ = some (.int .i64 ((X.take k).length : Int)) := HQ7.out.c65
                obtain ⟨b0, o0, rfl, hb0, hc0⟩ := HX7.out.arg (by omega)
                have HC0 := Lib.hid hc0
                have hcz : ¬ cap = 0 := by omega
                have hkc : (k : Int) ≤ (cap : Int) := by omega
                have HE : Hid ((k : Int) = min (X.length : Int) 60) := by unfold Hid; have := HN4.out; omega
                clear hc0 hcap
                have hl1 : IntKind.i64.wrap ((k : Int) + 1) = (k : Int) + 1 := by rw [IntKind.wrap_i64]; omega
                have hl2 : IntKind.i64.wrap 61 = 61 := by decide
                have HIS : Hid (∀ W : World, Below w7.heap.size w7 W → LsI W 0 (.slice (some ⟨b0, o0, none⟩) k cap) (X.take k)) := fun W hW =>
                  ⟨_, cap, by rw [HTL.out], fun _ => ⟨b0, o0, rfl, Nat.zero_le _, Nat.lt_of_lt_of_le hb0 hW.size, fun j x hx => by
                    have hj : j < k := by have := (List.getElem?_eq_some_iff.1 hx).1; rw [HTL.out] at this; exact this
                    rw [List.getElem?_take_of_lt hj] at hx
                    exact (hW.cell (p := ⟨b0, o0 + j, none⟩) hb0).trans (HC0.out j x hx)⟩⟩
                rcases (show X.length = k ∨ (60 < (X.length : Int) ∧ k = 60) by have := HN4.out; omega) with hXk | ⟨h60, hk60⟩
                · try (exfalso; omega)
                  all_goals
                    have h60 : ¬ ((60 : Int) < (k : Int)) := by omega
                    have hit : (if (60 : Int) < (k : Int) then (60 : Int) else (k : Int)) = (k : Int) := if_neg h60
                    rw [hXk]
                    try clear c
                    try clear c2
                    clear hXk
                    go_region_held3 (fun w' => w'.cell? ⟨q, 65, none⟩ = some (.int .i64 ((X.take k).length : Int))) (first | exact s0 | exact s1 | exact s2) (first
                      | (go_at_call 18; refine (all7 (HQ7.out.keep (by rfl))).mono ?_; rintro e wa ⟨v3, rfl, h3, b3⟩; have HA3 : Hid (LsI wa 0 v3 (X.take k)) := h3.ls.mono (Nat.zero_le _); have s1 := (b3.cell (p := ⟨q, 65, none⟩) hq7).trans s0; have HB37 := Lib.hid (drew_below' b3); have HB3 := Lib.hid (HB7.out.trans ((drew_below' b3).mono HB7.out.size)); have hqa := Nat.lt_of_lt_of_le hq7 b3.size; clear h3 b3)
                      | (go_at_call 17; refine (ints7 (by rw [HTL.out]; omega) HA3.out (HIS.out _ HB37.out)).mono ?_; rintro e wb ⟨rfl, b4⟩; have s2 := (b4.cell (p := ⟨q, 65, none⟩) hqa).trans s1; have HB4 := Lib.hid (HB3.out.trans (b4.mono HB3.out.size)); clear b4))
                    all_goals
                      go_wp2
                      go_ret
                      exact ⟨rfl, HB4.out⟩
                · try (exfalso; omega)
                  all_goals
                    subst hk60
                    have hit : (if (60 : Int) < (X.length : Int) then (60 : Int) else (X.length : Int)) = 60 := if_pos h60
                    have hkc2 : (60 : Int) ≤ (cap : Int) := by omega
                    try clear c
                    try clear c2
                    go_region_held3 (fun w' => w'.cell? ⟨q, 65, none⟩ = some (.int .i64 ((X.take 60).length : Int))) (first | exact s0 | exact s1 | exact s2) (first
                      | (go_at_call 18; refine (all7 (HQ7.out.keep (by rfl))).mono ?_; rintro e wa ⟨v3, rfl, h3, b3⟩; have HA3 : Hid (LsI wa 0 v3 (X.take 60)) := h3.ls.mono (Nat.zero_le _); have s1 := (b3.cell (p := ⟨q, 65, none⟩) hq7).trans s0; have HB37 := Lib.hid (drew_below' b3); have HB3 := Lib.hid (HB7.out.trans ((drew_below' b3).mono HB7.out.size)); have hqa := Nat.lt_of_lt_of_le hq7 b3.size; clear h3 b3)
                      | (go_at_call 17; refine (ints7 (by rw [HTL.out]; omega) HA3.out (HIS.out _ HB37.out)).mono ?_; rintro e wb ⟨rfl, b4⟩; have s2 := (b4.cell (p := ⟨q, 65, none⟩) hqa).trans s1; have HB4 := Lib.hid (HB3.out.trans (b4.mono HB3.out.size)); clear b4))
                    all_goals
                      go_wp2
                      go_ret
                      exact ⟨rfl, HB4.out⟩
set_option maxRecDepth 100000 in
theorem own_lifted (os : Os) (started : os.Started) (H : Type) (enc : TypeId × Value → H) :
    ReturnsInHanded {} Try.checked os 6 .any (Rows.queueOwnSpec.pre6 enc Try.prog Try.f6 Rows.queueOwnRow.domain false) (Rows.queueOwnSpec.post enc Try.prog Try.f6 false true false false) := by
  refine returnsInHanded_of_change (C := Try.checked) own started (by kernel_rfl) Try.func6
    (ChangeSpec.witness6 (enc := enc) (C := Try.checked) false ⟨#[], #[.slice none 0 0], []⟩ 8 (by kernel_rfl) (by kernel_rfl) (by kernel_rfl) (by kernel_rfl)) ?_
  intro W base args ds gs before hval0 hW _ _
  have hval : ∀ (j : Nat) t v, Try.f6.params[j]? = some t → args[j]? = some v → Value.okWide Try.prog W .any base t v := hval0
  have hW' := hW
  obtain ⟨p, q, hA0, hV, rfl, hfz, hnd⟩ := hW
  have hA : DataW.TrodAll enc Try.prog W 0 (fun _ => true) true Try.f6.params.toList args.toList ds p := hA0
  rw [Try.params6] at hA hval
  obtain ⟨v0, vs0, d0, ds0, p0, q0, hargs, rfl, rfl, h0, r0⟩ := trodAll_cons hA
  obtain ⟨rfl, rfl, rfl⟩ := trodAll_nil r0
  obtain rfl : args = #[v0] := by cases args; simp_all
  have hk0 : ∀ (a : Option Addr) (l c : Nat), v0 = .slice a l c → l ≤ c := fun a l c e => by subst e; exact slice_cap Try.underlying26 h0
  obtain ⟨a0, cap0, X0, rfl, hX0, hm0⟩ := open_ints7 (hval 0 26 v0 rfl rfl) h0
  have hwalk : Calls Try.prog 6 #[.slice a0 X0.length cap0] W fun e w' => e = .returned (.bool true) ∧ Below W.heap.size W w' := own_walk a0 cap0 X0 W hX0 hm0 (hk0 _ _ _ rfl)
  refine hwalk.mono fun e W' ⟨he, bel⟩ => ⟨_, he, ?_⟩
  exact law_post laidOut (of_decide_eq_true (by kernel_rfl)) rfl Try.underlying4 rfl hW' (fun ds' e => by subst e; rfl) bel

theorem queueOwn_holds : Rows.QueueOwnSaid :=
  OpenClaim.holds_of_wide 6 Try.f6 rfl rfl rfl rfl rfl rfl rfl ⟨rfl, rfl, rfl, rfl, rfl⟩ rfl rfl rfl rfl rfl (by kernel_rfl) Try.func6 (by kernel_rfl)
    (of_decide_eq_true (by kernel_rfl)) (by unfold Func.isWrapper; rw [if_neg (by decide +kernel)]; exact ⟨rfl, rfl⟩)
    (fun os started H enc _ => own_lifted os started H enc)

#print axioms queueOwn_holds
end Go.Proofs.Ytaofnpnmgmieiaa
