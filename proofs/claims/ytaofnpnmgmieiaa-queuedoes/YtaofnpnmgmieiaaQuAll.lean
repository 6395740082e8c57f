/- Package queue, of numbers: All, walked; Ints of two lists; the first numbers shown. -/
import Derived.Test.YtaofnpnmgmieiaaQuConcat
import Derived.Test.YtaofnpnmgmieiaaQuFindI
namespace Go.Proofs.Ytaofnpnmgmieiaa
open Go.RowKit

section
variable {w : World} {q f B : Nat} {L : List Int}

set_option maxHeartbeats 1000000 in
theorem all_nil (w : World) : Calls Try.prog 18 #[.pointer none] w fun e w' => e = .returned (.slice none 0 0) ∧ w' = w := by
  go_enter Try.func18, Try.ntmps18
  go_wp2_with (first
    | (go_at_call 28; refine (parts_nilI _).mono ?_; rintro e w1 ⟨rfl, rfl⟩)
    | (go_at_call 29; refine (concat_nil _).mono ?_; rintro e w1 ⟨rfl, rfl⟩))
  go_ret
  exact ⟨rfl, rfl⟩

/-- what All answers: a new row, cut to its length. -/
def AllAt (w : World) (base : Nat) (v : Value) (L : List Int) : Prop :=
  (L = [] ∧ v = .slice none 0 0) ∨ ∃ g cur, v = .slice (some ⟨g, 0, none⟩) L.length L.length ∧ base ≤ g ∧ w.heap[g]? = some (.cells cur 3 (0, 0)) ∧ L.length ≤ cur.size ∧ cur.toList.take L.length = L.map encI
theorem AllAt.ls {base : Nat} {v : Value} (h : AllAt w base v L) : LsI w base v L := by
  rcases h with ⟨rfl, rfl⟩ | ⟨g, cur, rfl, hb, hg, _, ht⟩
  · exact LsI.nil _ _
  · refine ⟨_, _, rfl, fun _ => ⟨g, 0, rfl, hb, (Array.getElem?_eq_some_iff.1 hg).1, fun j x hx => ?_⟩⟩
    have hj : j < L.length := (List.getElem?_eq_some_iff.1 hx).1
    have := congrArg (fun l => l[j]?) ht
    simp only [List.getElem?_map, hx, Option.map_some] at this
    rw [List.getElem?_take_of_lt hj] at this
    simp [World.cell?, hg]
    simpa using this

set_option maxRecDepth 100000 in
set_option maxHeartbeats 1000000 in
theorem all7 (h : QAt encI w q 53 f L) : Calls Try.prog 18 #[.pointer (some ⟨q, 0, none⟩)] w fun e w' => ∃ v, e = .returned v ∧ AllAt w' w.heap.size v L ∧ Below w.heap.size w w' := by
  have HH := Lib.hid h
  have P := partsI h
  clear h
  go_enter Try.func18, Try.ntmps18
  go_wp2_with (go_at_call 28; refine P.mono ?_; clear P; rintro e w1 ⟨B, o, rfl, hb, ho, hbx, hB⟩; have H1 := Lib.hid (HH.out.below' hB); have HB1 := Lib.hid hB; have C := concat ⟨H1.out, o, ho, hbx⟩; clear hB hb ho hbx)
  refine C.mono ?_
  rintro e w2 ⟨v, rfl, hown, hB⟩
  have HO := Lib.hid hown
  have HB2 := Lib.hid (HB1.out.trans (hB.mono HB1.out.size))
  have hs1 := HB1.out.size
  clear hB
  rcases hown.2 with ⟨rfl, h0⟩ | ⟨g, cap, cur, rfl, hb, hg, h1, h2, h3, h4⟩
  · have hl0 : L = [] := List.eq_nil_of_length_eq_zero h0
    go_wp2
    go_ret
    exact ⟨_, rfl, .inl ⟨hl0, rfl⟩, HB2.out⟩
  · have HG := Lib.hid hg
    clear hown hg
    go_wp2
    go_ret
    exact ⟨_, rfl, .inr ⟨g, cur, rfl, by omega, HG.out, by omega, by simpa using h4⟩, HB2.out⟩
end

set_option maxRecDepth 100000 in
set_option maxHeartbeats 1000000 in
theorem ints7_row (b b' o o' cap cap' : Nat) (xs : List Int) (w : World) (hl : xs.length ≤ 1000) (hc : ∀ j x, xs[j]? = some x → w.cell? ⟨b, o + j, none⟩ = some (.int .i64 x)) (hc' : ∀ j x, xs[j]? = some x → w.cell? ⟨b', o' + j, none⟩ = some (.int .i64 x)) (hb : b < w.heap.size) (hb' : b' < w.heap.size) :
    Calls Try.prog 17 #[.slice (some ⟨b, o, none⟩) xs.length cap, .slice (some ⟨b', o', none⟩) xs.length cap'] w fun e w' => e = .returned (.bool true) ∧ Below w.heap.size w w' := by
  have HC := Lib.hid hc; have HC' := Lib.hid hc'
  clear hc hc'
  go_enter Try.func17, Try.ntmps17
  go_wp2
  go_loopw [5] (fun i wr => ∃ k : Nat, k ≤ xs.length ∧ i = .int .i64 k ∧ Below w.heap.size w wr) (fun i _ => xs.length - (intOf i).toNat)
  case atStart => exact ⟨0, Nat.zero_le _, rfl, Below.refl _ _⟩
  case round =>
    obtain ⟨k, hk, rfl, hB⟩ := hrel
    by_cases hlt : k < xs.length
    · obtain ⟨x, hx⟩ : ∃ x, xs[k]? = some x := ⟨_, List.getElem?_eq_getElem hlt⟩
      have c := (hB.cell (p := ⟨b, o + k, none⟩) hb).trans (HC.out k x hx)
      have c' := (hB.cell (p := ⟨b', o' + k, none⟩) hb').trans (HC'.out k x hx)
      have i0 : (0 : Int) ≤ (k : Int) := by omega
      have i1 : (k : Int) < (xs.length : Int) := by omega
      have HB := Lib.hid hB; clear hB hx
      go_wp2
      go_quiet (fail)
      go_wp2
      go_roundw
      case rel => exact ⟨k + 1, by omega, by go_num, below_drewN' HB.out⟩
      case measure => simp [intOf]; omega
    · obtain rfl : k = xs.length := by omega
      go_wp2
      go_ret
      exact ⟨rfl, hB⟩

set_option maxRecDepth 100000 in
set_option maxHeartbeats 1000000 in
theorem ints7_zero (a a' : Option Addr) (cap cap' : Nat) (w : World) :
    Calls Try.prog 17 #[.slice a 0 cap, .slice a' 0 cap'] w fun e w' => e = .returned (.bool true) ∧ Below w.heap.size w w' := by
  go_enter Try.func17, Try.ntmps17
  go_wp2
  go_loopw [5] (fun i wr => i = .int .i64 0 ∧ wr = w) (fun _ _ => 0)
  case atStart => exact ⟨rfl, rfl⟩
  case round =>
    obtain ⟨rfl, rfl⟩ := hrel
    go_wp2
    go_ret
    exact ⟨rfl, Below.refl _ _⟩

theorem ints7 {w : World} {n n' : Nat} {v v' : Value} {xs : List Int} (hl : xs.length ≤ 1000) (h : LsI w n v xs) (h' : LsI w n' v' xs) :
    Calls Try.prog 17 #[v, v'] w fun e w' => e = .returned (.bool true) ∧ Below w.heap.size w w' := by
  obtain ⟨a, cap, rfl, hc⟩ := h
  obtain ⟨a', cap', rfl, hc'⟩ := h'
  by_cases h0 : 0 < xs.length
  · obtain ⟨r, o, rfl, _, b1, c1⟩ := hc h0
    obtain ⟨r', o', rfl, _, b2, c2⟩ := hc' h0
    exact ints7_row r r' o o' cap cap' xs w hl c1 c2 b1 b2
  · have hx : xs = [] := List.eq_nil_of_length_eq_zero (by omega)
    subst hx
    exact ints7_zero _ _ _ _ w

/-! ### the calls again, as the laws meet them -/
section
variable {w : World} {q f : Nat} {L : List Int}
theorem push_lt (h : QAt encI w q 53 f L) (hl : L.length < 64) (x : Int) : Calls Try.prog 11 #[.pointer (some ⟨q, 0, none⟩), .int .i64 x] w fun e w' => e = .returned (.int .i64 0) ∧ QAt encI w' q 53 f (L ++ [x]) ∧ Tur q w w' := by
  have := pushI h x
  unfold pushE pushL at this
  rw [if_pos hl, if_pos hl] at this
  exact this
theorem push_no (h : QAt encI w q 53 f L) (hl : ¬ L.length < 64) (x : Int) : Calls Try.prog 11 #[.pointer (some ⟨q, 0, none⟩), .int .i64 x] w fun e w' => e = .returned (.int .i64 71) ∧ QAt encI w' q 53 f L ∧ Tur q w w' := by
  have := pushI h x
  unfold pushE pushL at this
  rw [if_neg hl, if_neg hl] at this
  exact this
theorem drop_yes (h : QAt encI w q 53 f L) (x : Int) (hx : L.contains x = true) : Calls Try.prog 15 #[.pointer (some ⟨q, 0, none⟩), .int .i64 x] w fun e w' => e = .returned (.int .i64 0) ∧ (∃ f', QAt encI w' q 53 f' (L.erase x)) ∧ Tur q w w' := by
  have := dropI h x
  unfold dropE at this
  rw [if_pos hx] at this
  exact this
theorem drop_no (h : QAt encI w q 53 f L) (x : Int) (hx : L.contains x = false) : Calls Try.prog 15 #[.pointer (some ⟨q, 0, none⟩), .int .i64 x] w fun e w' => e = .returned (.int .i64 70) ∧ (∃ f', QAt encI w' q 53 f' L) ∧ Tur q w w' := by
  have := dropI h x
  unfold dropE at this
  rw [if_neg (by rw [hx]; decide), List.erase_of_not_mem (by simpa using hx)] at this
  exact this
end

/-! ### shown -/
set_option maxRecDepth 100000 in
set_option maxHeartbeats 2000000 in
theorem shown7 (w : World) : Calls Try.prog 9 #[] w fun e w' => e = .returned (.bool true) ∧ Below w.heap.size w w' := by
  have N := newI w
  have hr := Nat.le_refl w.heap.size
  go_enter Try.func9, Try.ntmps9
  go_wp2_with (first
    | (go_at_call 10; refine N.mono ?_; clear N; rintro e w1 ⟨rfl, h1, b1⟩; have Q1 := push_lt h1 (by simp) 3; have B1 := Lib.hid b1; clear h1 b1)
    | (go_at_call 11; refine Q1.mono ?_; clear Q1; rintro e w2 ⟨rfl, h1, b1⟩; have Q2 := push_lt h1 (by simp) 5; have B2 := Lib.hid (b1.below B1.out hr B1.out.size); clear h1 b1 B1)
    | (go_at_call 11; refine Q2.mono ?_; clear Q2; rintro e w3 ⟨rfl, h1, b1⟩; have Q3 := push_lt h1 (by simp) 3; have B3 := Lib.hid (b1.below B2.out hr B2.out.size); clear h1 b1 B2)
    | (go_at_call 11; refine Q3.mono ?_; clear Q3; rintro e w4 ⟨rfl, h1, b1⟩; have Q4 := drop_yes h1 3 (by decide); have B4 := Lib.hid (b1.below B3.out hr B3.out.size); clear h1 b1 B3)
    | (go_at_call 15; refine Q4.mono ?_; clear Q4; rintro e w5 ⟨rfl, ⟨f1, h1⟩, b1⟩; have Q5 := popI (x := 5) (L := [3]) h1; have B5 := Lib.hid (b1.below B4.out hr B4.out.size); clear h1 b1 B4)
    | (go_at_call 13; refine Q5.mono ?_; clear Q5; rintro e w6 ⟨rfl, h1, b1⟩; have Q6 := popI (x := 3) (L := []) h1; have B6 := Lib.hid (b1.below B5.out hr B5.out.size); clear h1 b1 B5)
    | (go_at_call 13; refine Q6.mono ?_; clear Q6; rintro e w7 ⟨rfl, h1, b1⟩; have Q7 := pop_noI h1; have B7 := Lib.hid (b1.below B6.out hr B6.out.size); clear h1 b1 B6)
    | (go_at_call 13; refine Q7.mono ?_; clear Q7; rintro e w8 ⟨rfl, rfl⟩))
  go_ret
  exact ⟨rfl, B7.out⟩
end Go.Proofs.Ytaofnpnmgmieiaa
