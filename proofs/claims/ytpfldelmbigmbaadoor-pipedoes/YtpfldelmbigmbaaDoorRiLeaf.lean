/- Package ring: brim, apart, on, New, Len, Room, stretches, walked. -/
import Derived.Test.YtpfldelmbigmbaaDoorRiMem
import Derived.StillTailTactics
namespace Go.Proofs.YtpfldelmbigmbaaDoor
open Go.RowKit

theorem BoxA.drawn {w : World} {b : Nat} {t : TypeId} {xs : Array Value} (h : BoxA w b t xs) (k : Nat) : BoxA (w.drewN k) b t xs := h.keep rfl

abbrev endV (a : Nat) (o : Bool) : Value := .agg #[.int .i64 (a : Int), .bool o]

set_option maxRecDepth 100000 in
theorem neq_end (a a' : Nat) (o o' : Bool) (w : World) : (binOp .neq 68 (.agg #[.int .i64 (a : Int), .bool o]) (.agg #[.int .i64 (a' : Int), .bool o'])).run Tryd.prog w = .ok (.bool (!((a : Int) == (a' : Int) && o == o'))) w := by
  cases h1 : ((a : Int) == (a' : Int)) <;> cases h2 : (o == o') <;> simp [go_sem, h1, h2]

section
variable {w : World} {q n fa la : Nat} {fo lo : Bool} {X : List UInt8}

set_option maxRecDepth 100000 in
set_option maxHeartbeats 1000000 in
theorem brim_any (h : RAt w q X n fa fo la lo) : Calls Tryd.prog 40 #[.pointer (some ⟨q, 0, none⟩)] w fun e w' => e = .returned (endV fa (!fo)) ∧ Below w.heap.size w w' := by
  have c5 := h.c65
  have c6 := h.c66
  have hq := h.lt
  clear h
  go_enter Tryd.func40, Tryd.ntmps40
  go_wp2
  go_region_held3 (fun w' => w'.cell? ⟨q, 65, none⟩ = some (.int .i64 (fa : Int)) ∧ w'.cell? ⟨q, 66, none⟩ = some (.bool fo)) (go_keep) (fail)
  go_wp2
  refine bodyPost_ret (v := endV fa (!fo)) (by simp [results, Tryd.results40, go_sem]) rfl ?_
  exact ⟨rfl, ((Below.refl _ _).alloc (Nat.le_refl _) _).drew⟩

/-- how far one end is behind another one. -/
def apartI (n fa : Nat) (fo : Bool) (la : Nat) (lo : Bool) : Int := if fo = lo then (la : Int) - fa else (la : Int) - fa + n

set_option maxRecDepth 100000 in
set_option maxHeartbeats 1000000 in
theorem apart_any {sa sb : Nat} {so to : Bool} (h : RAt w q X n fa fo la lo) (hn : n ≤ 64) (ha : sa ≤ 64) (hb : sb ≤ 64) : Calls Tryd.prog 42 #[.pointer (some ⟨q, 0, none⟩), endV sa so, endV sb to] w fun e w' => e = .returned (.int .i64 (apartI n sa so sb to)) ∧ Below w.heap.size w w' := by
  have c4 := h.c64
  have hq := h.lt
  clear h
  unfold apartI
  have HB := Lib.hid (((Below.refl w.heap.size w).alloc (Nat.le_refl _) (.cells #[.int .i64 (sa : Int), .bool so] 68)).alloc (by simp) (.cells #[.int .i64 (sb : Int), .bool to] 68))
  by_cases hc : so = to
  · subst hc
    rw [if_pos rfl]
    go_enter Tryd.func42, Tryd.ntmps42
    go_wp2
    go_ret
    exact ⟨rfl, HB.out⟩
  · rw [if_neg hc]
    have hne : (so == to) = false := by simpa using hc
    go_enter Tryd.func42, Tryd.ntmps42
    go_wp2
    go_ret
    exact ⟨rfl, HB.out⟩

set_option maxHeartbeats 400000 in
theorem new_no (n : Int) (h : n < 1 ∨ 64 < n) (w : World) : Calls Tryd.prog 25 #[.int .i64 n] w fun e w' => e = .returned (.tuple #[.pointer none, .int .i64 2]) ∧ w' = w := by
  have hn : n < 1 ∨ (¬ n < 1 ∧ 64 < n) := by omega
  go_enter Tryd.func25, Tryd.ntmps25
  rcases hn with h1 | ⟨h1, h2⟩
  all_goals
    go_wp2
    go_ret2
    exact ⟨rfl, rfl⟩

/-- steps: a slice of numbers, wherever it lies. -/
def StA (w : World) (v : Value) (st : List Nat) : Prop :=
  ∃ a cap, v = .slice a st.length cap ∧ (0 < st.length → ∃ r o, a = some ⟨r, o, none⟩ ∧ r < w.heap.size ∧ ∀ (j x : Nat), st[j]? = some x → w.cell? ⟨r, o + j, none⟩ = some (.int .i64 (x : Int)))
theorem StA.below' {w' : World} {v : Value} {st : List Nat} (h : StA w v st) (hb : Below w.heap.size w w') : StA w' v st := by
  obtain ⟨a, cap, e, hc⟩ := h
  refine ⟨a, cap, e, fun h0 => ?_⟩
  obtain ⟨r, o, e2, h1, h2⟩ := hc h0
  exact ⟨r, o, e2, Nat.lt_of_lt_of_le h1 hb.size, fun j x hx => (hb.cell (p := ⟨r, o + j, none⟩) h1).trans (h2 j x hx)⟩
theorem StA.own {base k : Nat} {v : Value} {st : List Nat} (h : w.ownsRow base 3 1 v k (st.map fun x : Nat => Value.int .i64 (x : Int))) : StA w v st := by
  have hk : k = st.length := by have := h.1; simp at this; omega
  subst hk
  rcases h.2 with ⟨rfl, h0⟩ | ⟨g, cap, cur, rfl, hb, hg, h1, h2, h3, h4⟩
  · exact ⟨none, 0, by rw [h0], fun c => by omega⟩
  · refine ⟨_, cap, rfl, fun _ => ⟨g, 0, rfl, (Array.getElem?_eq_some_iff.1 hg).1, fun j x hx => ?_⟩⟩
    have hj : j < st.length := (List.getElem?_eq_some_iff.1 hx).1
    have := h.cells (g := g) rfl j (.int .i64 (x : Int)) (by simp [hx])
    rw [Addr.add_mid] at this
    exact this
theorem StA.one (x : Nat) (c : Nat) : StA (w.alloc (.cells #[.int .i64 (x : Int)] 3)) (.slice (some ⟨w.heap.size, 0, none⟩) 1 c) [x] := by
  refine ⟨_, c, rfl, fun _ => ⟨w.heap.size, 0, rfl, by simp, fun j y hy => ?_⟩⟩
  have hj : j < [x].length := (List.getElem?_eq_some_iff.1 hy).1
  obtain rfl : j = 0 := by simpa using hj
  simp at hy
  subst hy
  exact (Boxed.new w 3 (.int .i64 (x : Int))).cell

theorem onL_take {n : Nat} {st : List Nat} {k x : Nat} {e : Nat × Bool} (hx : st[k]? = some x) : onL n (st.take (k + 1)) e = on1 n (onL n (st.take k) e) x := by
  rw [← onL_snoc, List.take_add_one, hx]
  rfl

set_option maxRecDepth 100000 in
set_option maxHeartbeats 2000000 in
theorem on_any {sa : Nat} {so : Bool} {v : Value} {st : List Nat} (h : RAt w q X n fa fo la lo) (ha : sa ≤ 64) (hn : n ≤ 64) (hv : StA w v st) (hst : ∀ k ∈ st, k ≤ 64) (hlen : st.length ≤ 1000) :
    Calls Tryd.prog 38 #[.pointer (some ⟨q, 0, none⟩), endV sa so, v] w fun e w' => e = .returned (endV (onL n st (sa, so)).1 (onL n st (sa, so)).2) ∧ Below w.heap.size w w' := by
  obtain ⟨a, cap, rfl, hc⟩ := hv
  have HC := Lib.hid hc
  have HH := Lib.hid h
  have HST := Lib.hid hst
  clear hc h hst
  have bR := (BoxA.new (w.alloc (.cells #[.int .i64 (sa : Int), .bool so] 68)) 68 #[.int .i64 0, .bool false]).alloc (.cells #[.int .i64 (sa : Int), .bool so] 68)
  have bT := BoxA.new ((w.alloc (.cells #[.int .i64 (sa : Int), .bool so] 68)).alloc (.cells #[.int .i64 0, .bool false] 68)) 68 #[.int .i64 (sa : Int), .bool so]
  have hB := ((((Below.refl w.heap.size w).alloc (Nat.le_refl _) (.cells #[.int .i64 (sa : Int), .bool so] 68)).alloc (by simp) (.cells #[.int .i64 0, .bool false] 68)).alloc (by simp; omega) (.cells #[.int .i64 (sa : Int), .bool so] 68))
  simp only [World.size_alloc] at bR bT
  have BR := Lib.hid bR; have BT := Lib.hid bT; have HB := Lib.hid hB
  clear bR bT hB
  go_enter Tryd.func38, Tryd.ntmps38
  go_wp2
  go_loopw [13] (fun i wr => ∃ k : Nat, k ≤ st.length ∧ i = .int .i64 (k : Int) ∧ ∃ (ta : Nat) (to : Bool), (ta, to) = onL n (st.take k) (sa, so) ∧ ta ≤ 64 + 64 * k ∧ BoxA wr (w.heap.size + 1) 68 #[.int .i64 0, .bool false] ∧ BoxA wr (w.heap.size + 1 + 1) 68 #[.int .i64 (ta : Int), .bool to] ∧ Below w.heap.size w wr) (fun i _ => st.length - (intOf i).toNat)
  case atStart => exact ⟨0, Nat.zero_le _, rfl, sa, so, rfl, by omega, BR.out, BT.out, HB.out⟩
  case round =>
    obtain ⟨k, hk, rfl, ta, to, hto, hta, bR, bT, hB⟩ := hrel
    have HTO := Lib.hid hto; have HB2 := Lib.hid hB; have BR2 := Lib.hid bR; have BT2 := Lib.hid bT
    have t0 := bT.at 0 (v := .int .i64 (ta : Int)) rfl; have t1 := bT.at 1 (v := .bool to) rfl
    have f0 := bT.f 0; have f1 := bT.f 1
    have c64 := (HH.out.below hB HH.out.lt).c64
    have hsz : w.heap.size ≤ w.heap.size + 1 + 1 := by omega
    clear hto hB
    by_cases hlt : k < st.length
    · obtain ⟨r, o, rfl, hr, hcs⟩ := HC.out (by omega)
      obtain ⟨x, hx⟩ : ∃ x, st[k]? = some x := ⟨_, List.getElem?_eq_getElem hlt⟩
      have cx := (HB2.out.cell (p := ⟨r, o + k, none⟩) hr).trans (hcs k x hx)
      have hx64 : x ≤ 64 := HST.out x (List.mem_of_getElem? hx)
      have HX := Lib.hid hx
      clear hcs hx bR bT
      have e0 : (wr.setCell ⟨w.heap.size + 1 + 1, 0, none⟩ (.int .i64 ((ta : Int) + x))).cell? ⟨w.heap.size + 1 + 1, 1, none⟩ = some (.bool to) := (cell_set_ne _ (by omega)).trans t1
      have hqne : w.heap.size + 1 + 1 ≠ q := by have := HH.out.lt; omega
      have e1 : (wr.setCell ⟨w.heap.size + 1 + 1, 0, none⟩ (.int .i64 ((ta : Int) + x))).cell? ⟨q, 64, none⟩ = some (.int .i64 (n : Int)) := (World.cell?_setCell_far _ _ _ _ hqne).trans c64
      by_cases he : ta + x = n
      · have he' : (ta : Int) + (x : Int) = (n : Int) := by omega
        go_wp2
        go_quiet (fail)
        go_wp2
        have b2 := ((((BT2.out.set 0 (.int .i64 (n : Int))).drawn nq).set 0 (.int .i64 0)).set 1 (.bool (!to)))
        have b1 := ((((BR2.out.setOther 0 (.int .i64 (n : Int)) (show w.heap.size + 1 ≠ w.heap.size + 1 + 1 by omega)).drawn nq).setOther 0 (.int .i64 0) (show w.heap.size + 1 ≠ w.heap.size + 1 + 1 by omega)).setOther 1 (.bool (!to)) (show w.heap.size + 1 ≠ w.heap.size + 1 + 1 by omega))
        have hb := ((below_drewN' (k := nq) (HB2.out.setCell (p := ⟨w.heap.size + 1 + 1, 0, none⟩) hsz (.int .i64 (n : Int)))).setCell (p := ⟨w.heap.size + 1 + 1, 0, none⟩) hsz (.int .i64 0)).setCell (p := ⟨w.heap.size + 1 + 1, 1, none⟩) hsz (.bool (!to))
        refine ⟨⟨k + 1, by omega, by go_num, 0, !to, ?_, by omega, b1, b2, hb⟩, by simp [intOf]; omega⟩
        rw [onL_take HX.out, ← HTO.out]
        unfold on1
        rw [if_pos he]
      · have he' : ¬ ((ta : Int) + (x : Int) = (n : Int)) := by omega
        go_wp2
        go_quiet (fail)
        go_wp2
        have b2 := (BT2.out.set 0 (.int .i64 ((ta : Int) + x))).drawn nq
        have b1 := (BR2.out.setOther 0 (.int .i64 ((ta : Int) + x)) (show w.heap.size + 1 ≠ w.heap.size + 1 + 1 by omega)).drawn nq
        have hb := below_drewN' (k := nq) (HB2.out.setCell (p := ⟨w.heap.size + 1 + 1, 0, none⟩) hsz (.int .i64 ((ta : Int) + x)))
        refine ⟨⟨k + 1, by omega, by go_num, ta + x, to, ?_, by omega, b1, by simpa using b2, hb⟩, by simp [intOf]; omega⟩
        rw [onL_take HX.out, ← HTO.out]
        unfold on1
        rw [if_neg he]
    · obtain rfl : k = st.length := by omega
      have r0 := bR.at 0 (v := .int .i64 0) rfl; have r1 := bR.at 1 (v := .bool false) rfl
      have g0 := bR.f 0; have g1 := bR.f 1
      have bs := (bR.set 0 (.int .i64 (ta : Int))).set 1 (.bool to)
      have s0 := bs.at 0 (v := .int .i64 (ta : Int)) rfl; have s1 := bs.at 1 (v := .bool to) rfl
      clear bR bT
      go_wp2
      refine bodyPost_ret (v := endV ta to) (by simp [results, Tryd.results38, go_sem, s0, s1]) rfl ?_
      have := HTO.out
      rw [List.take_length] at this
      rw [← this]
      exact ⟨rfl, (HB2.out.setCell (p := ⟨w.heap.size + 1, 0, none⟩) (by simp) _).setCell (p := ⟨w.heap.size + 1, 1, none⟩) (by simp) _⟩
end
end Go.Proofs.YtpfldelmbigmbaaDoor
