/- Package queue, of numbers: slices.Grow of nil, slices.Concat of a queue's parts, All, walked. -/
import Derived.Test.YtaofnpnmgmieiaaQuPartsI
import Derived.Test.YtaofnpnmgmieiaaQuKeep
import Derived.Test.YtaofnpnmgmieiaaQuIterI
import Derived.Lib.AppendZeros
import Derived.Laws.AppendOwnNone
import Derived.Maps.AppendAt
import Derived.OwnWalk
namespace Go.Proofs.Ytaofnpnmgmieiaa
open Go.RowKit Go.Lib

theorem Try.infoInt7 : (Try.prog.info? 3).map (fun i => (i.zero, i.size, i.bytes)) = some (some (.int .i64 0), 1, 8) := by kernel_rfl

/-- a list of numbers: none, or its cells lie in a block from lo on. -/
def LsI (w : World) (lo : Nat) (v : Value) (L : List Int) : Prop :=
  ∃ a cap, v = .slice a L.length cap ∧ (0 < L.length → ∃ r o, a = some ⟨r, o, none⟩ ∧ lo ≤ r ∧ r < w.heap.size ∧ ∀ j x, L[j]? = some x → w.cell? ⟨r, o + j, none⟩ = some (.int .i64 x))
section
variable {w w' : World} {lo q : Nat} {v : Value} {L : List Int}
theorem LsI.below (h : LsI w lo v L) (hb : Below w.heap.size w w') : LsI w' lo v L := by
  obtain ⟨a, cap, rfl, hc⟩ := h
  refine ⟨a, cap, rfl, fun h0 => ?_⟩
  obtain ⟨r, o, rfl, h1, h2, h3⟩ := hc h0
  exact ⟨r, o, rfl, h1, Nat.lt_of_lt_of_le h2 hb.size, fun j x hx => (hb.cell (p := ⟨r, o + j, none⟩) h2).trans (h3 j x hx)⟩
theorem LsI.tur (h : LsI w lo v L) (hb : Tur q w w') (hq : q < lo) : LsI w' lo v L := by
  obtain ⟨a, cap, rfl, hc⟩ := h
  refine ⟨a, cap, rfl, fun h0 => ?_⟩
  obtain ⟨r, o, rfl, h1, h2, h3⟩ := hc h0
  exact ⟨r, o, rfl, h1, Nat.lt_of_lt_of_le h2 hb.size, fun j x hx => (hb.cell h2 (by omega)).trans (h3 j x hx)⟩
theorem LsI.mono {lo' : Nat} (h : LsI w lo v L) (hl : lo' ≤ lo) : LsI w lo' v L := by
  obtain ⟨a, cap, rfl, hc⟩ := h
  refine ⟨a, cap, rfl, fun h0 => ?_⟩
  obtain ⟨r, o, e, h1, h2, h3⟩ := hc h0
  exact ⟨r, o, e, by omega, h2, h3⟩
theorem LsI.nil (w : World) (lo : Nat) : LsI w lo (.slice none 0 0) [] := ⟨none, 0, rfl, fun h => absurd h (by simp)⟩
theorem LsI.own {base n : Nat} (h : w.ownsRow base 3 1 v n (L.map encI)) (hn : n = L.length) : LsI w base v L := by
  subst hn
  rcases h.2 with ⟨rfl, h0⟩ | ⟨g, cap, cur, rfl, hb, hg, h1, h2, h3, h4⟩
  · exact ⟨none, 0, by rw [h0], fun c => by omega⟩
  · refine ⟨_, cap, rfl, fun _ => ⟨g, 0, rfl, hb, (Array.getElem?_eq_some_iff.1 hg).1, fun j x hx => ?_⟩⟩
    have hj : j < L.length := (List.getElem?_eq_some_iff.1 hx).1
    have := h.cells (g := g) rfl j (encI x) (by simp [hx])
    rw [Addr.add_mid] at this
    exact this
end

section
variable {w : World} {q f B : Nat} {L : List Int}

set_option maxRecDepth 100000 in
set_option maxHeartbeats 1000000 in
theorem grow0 (w : World) : Calls Try.prog 36 #[.slice none 0 0, .int .i64 0] w fun e w' => e = .returned (.slice none 0 0) ∧ w' = w := by
  go_enter Try.func36, Try.ntmps36
  go_wp2
  go_ret
  exact ⟨rfl, rfl⟩

set_option maxRecDepth 100000 in
set_option maxHeartbeats 1000000 in
theorem grow (n : Nat) (h0 : 0 < n) (hn : n ≤ 64) (w : World) : Calls Try.prog 36 #[.slice none 0 0, .int .i64 (n : Int)] w fun e w' => ∃ v, e = .returned v ∧ w'.ownsRow w.heap.size 3 1 v 0 [] ∧ Below w.heap.size w w' := by
  obtain ⟨i0, hi, hz0, hz1, hz2⟩ := info_parts Try.infoInt7
  have h0' : (0 : Int) < (n : Int) := by omega
  go_enter Try.func36, Try.ntmps36
  go_wp2_with (at_builtin; refine wpList_append_run _ rfl _ _ _ _ rfl _ _ rfl rfl _ _ (run_append_nil_zeros _ 26 3 _ 3 i0 (.int .i64 0) .i64 .i64 Try.underlying26 Try.underlying3 hi hz0 n h0 (by omega) (by omega) (by rw [hz2]; omega)) ?_)
  go_ret
  refine ⟨_, rfl, ⟨by simp, .inr ⟨w.heap.size, grownCap w n 0 3, _, rfl, Nat.le_refl _, heap_alloc_new w _, Nat.zero_le _, grownCap_le_maxLen w n 0 _ (by unfold maxLen; omega), ?_, by simp⟩⟩, below_drew7 ((Below.refl _ _).alloc (Nat.le_refl _) _)⟩
  have := grownCap_ge w n 0 3
  simp [size_zeroCells]
  omega

theorem sum_take {k m s : Nat} (hs : s = k + m) : (L.take k).map encI ++ ((L.drop k).take m).map encI = (L.take s).map encI := by
  subst hs
  rw [← List.map_append, List.take_add]

set_option maxRecDepth 100000 in
set_option maxHeartbeats 2000000 in
theorem concat_nil (w : World) : Calls Try.prog 29 #[.slice none 0 0] w fun e w' => e = .returned (.slice none 0 0) ∧ w' = w := by
  go_enter Try.func29, Try.ntmps29
  go_wp2
  go_loopw [3, 11] (fun s i wr => s = .int .i64 0 ∧ i = .int .i64 0 ∧ w = wr) (fun _ _ _ => 0)
  case atStart => exact ⟨rfl, rfl, rfl⟩
  case round =>
    obtain ⟨rfl, rfl, rfl⟩ := hrel
    go_wp2_with (go_at_call 36; refine (grow0 _).mono ?_; rintro e w1 ⟨rfl, rfl⟩)
    go_loopw [6, 27] (fun v i wr2 => v = .slice none 0 0 ∧ i = .int .i64 0 ∧ w1 = wr2) (fun _ _ _ => 0)
    case atStart => exact ⟨rfl, rfl, rfl⟩
    case round =>
      obtain ⟨rfl, rfl, rfl⟩ := hrel
      go_wp2
      go_ret
      exact ⟨rfl, rfl⟩

set_option maxRecDepth 100000 in
set_option maxHeartbeats 2000000 in
theorem concat (hW : PartsAtI w q B f L) : Calls Try.prog 29 #[.slice (some ⟨B, 0, none⟩) 2 2] w fun e w' => ∃ v, e = .returned v ∧ w'.ownsRow w.heap.size 3 1 v L.length (L.map encI) ∧ Below w.heap.size w w' := by
  have HW := Lib.hid hW
  have hl := hW.qu.hl
  have hst2 : stQ f L.length 2 = L.length := rfl
  have HS : Hid (∀ k, k ≤ 2 → stQ f L.length k ≤ 64) := fun k hk => by
    match k, hk with
    | 0, _ => exact Nat.zero_le _
    | 1, _ => show min (f + L.length) 64 - f ≤ 64; omega
    | 2, _ => exact hl
  clear hW
  go_enter Try.func29, Try.ntmps29
  go_wp2
  go_loopw [3, 11] (fun s i wr => ∃ k : Nat, k ≤ 2 ∧ s = .int .i64 (stQ f L.length k : Int) ∧ i = .int .i64 (k : Int) ∧ w = wr) (fun _ i _ => 2 - (intOf i).toNat)
  case atStart => exact ⟨0, by omega, rfl, rfl, rfl⟩
  case round =>
    obtain ⟨k, hk, rfl, rfl, rfl⟩ := hrel
    by_cases hlt : k < 2
    · obtain ⟨o, m, hc, hs, hm, _⟩ := HW.out.part hlt
      have h1 := HS.out k hk
      have h2 := HS.out (k + 1) (by omega)
      have hsum : ¬ ((stQ f L.length k : Int) + (m : Int) < 0) := by omega
      have HSM := Lib.hid hs
      clear hs
      go_wp2
      go_roundw
      case rel => exact ⟨k + 1, by omega, by rw [← HSM.out]; go_num, by go_num, trivial⟩
      case measure => simp [intOf]; omega
    · obtain rfl : k = 2 := by omega
      rw [hst2]
      have hn0 : ¬ ((L.length : Int) < 0) := by omega
      have HG : Hid (Calls Try.prog 36 #[.slice none 0 0, .int .i64 (L.length : Int)] w fun e w' => ∃ v, e = .returned v ∧ w'.ownsRow w.heap.size 3 1 v 0 [] ∧ Below w.heap.size w w') := by
        by_cases e : L.length = 0
        · unfold Hid
          rw [e]
          exact (grow0 w).mono (by rintro e w' ⟨rfl, rfl⟩; exact ⟨_, rfl, World.ownsRow_nil _ _ _ _, Below.refl _ _⟩)
        · exact grow L.length (by omega) hl w
      go_wp2_with (go_at_call 36; refine HG.out.mono ?_; rintro e w1 ⟨v, rfl, hown, hB⟩; have HO1 := Lib.hid hown; have HB1 := Lib.hid hB; clear hown hB)
      go_loopw [6, 27] (fun v i wr => ∃ k : Nat, k ≤ 2 ∧ i = .int .i64 (k : Int) ∧ wr.ownsRow w.heap.size 3 1 v (stQ f L.length k) ((L.take (stQ f L.length k)).map encI) ∧ Below w.heap.size w wr) (fun _ i _ => 2 - (intOf i).toNat)
      case atStart => exact ⟨0, by omega, rfl, HO1.out, HB1.out⟩
      case round =>
        obtain ⟨k, hk, rfl, hown, hB⟩ := hrel
        have HO := Lib.hid hown
        have HB := Lib.hid hB
        clear hown hB
        by_cases hlt : k < 2
        · obtain ⟨o, m, hc, hs, hm, hcs⟩ := (HW.out.below HB.out).part hlt
          have HC := Lib.hid hcs
          have HSM := Lib.hid hs
          clear hcs hs
          have h1 := HS.out k hk
          have h2 := HS.out (k + 1) (by omega)
          have HLEN : Hid (((L.drop (stQ f L.length k)).take m).length = m) := by
            unfold Hid
            rw [List.length_take, List.length_drop]
            have h3 : stQ f L.length (k + 1) ≤ L.length := stQ_le hlt
            have := HSM.out
            omega
          obtain ⟨i0, hi, hz0, hz1, hz2⟩ := info_parts Try.infoInt7
          go_wp2_with (at_builtin; refine wpList_append_own _ rfl _ _ 26 rfl w.heap.size 3 i0 (.int .i64 0) 1 8 Try.underlying26 hi hz0 hz1 hz2 rfl (by decide) u6 _ _ rfl HO.out ⟨q, o, none⟩ m m (((L.drop (stQ f L.length k)).take m).map encI) rfl (by rw [List.length_map, HLEN.out]; omega) (by
              intro j u hu
              rw [List.getElem?_map] at hu
              obtain ⟨x, hx, rfl⟩ := Option.map_eq_some_iff.1 hu
              have hj : j < m := by have := (List.getElem?_eq_some_iff.1 hx).1; rw [HLEN.out] at this; exact this
              rw [List.getElem?_take_of_lt hj, List.getElem?_drop] at hx
              rw [Addr.add_mid]
              exact HC.out j x hj hx) (by intro u hu; obtain ⟨x, _, rfl⟩ := List.mem_map.1 hu; rfl) (by unfold maxLen; have := HSM.out; omega) (by have := HSM.out; omega) HB.out.size ?_; intro v1 w2 hown1 hgrow1 _; have HO1 := Lib.hid hown1; have HG1 := Lib.hid hgrow1; clear hown1 hgrow1)
          refine ⟨⟨k + 1, by omega, by go_num, ?_, HB.out.grown HG1.out HB.out.size (fun b e => HO.out.lt b e |>.1)⟩, by simp [intOf]; omega⟩
          have h3 := HO1.out
          rw [sum_take HSM.out.symm, HSM.out] at h3
          exact h3
        · obtain rfl : k = 2 := by omega
          go_wp2
          go_ret
          exact ⟨_, rfl, by have := HO.out; rw [hst2, List.take_length] at this; exact this, HB.out⟩
end
end Go.Proofs.Ytaofnpnmgmieiaa
