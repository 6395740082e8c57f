/- The law's package: did, walked: the program and the document's own table side by side. -/
import Derived.Test.YtonllnbincgdpaaRef6Bec
import Derived.Test.YtonllnbincgdpaaRef6Loop
import Derived.Test.YtonllnbincgdpaaRef6Fork
import Derived.Test.YtonllnbincgdpaaRef6Wait
namespace Go.Proofs.Ytonllnbincgdpaa
open Go.RowKit

/-! ### states -/
section
variable {L : List PV} {g : Int}
theorem CInv.set (h : CInv L) {k : Int} {x : PV} (hx : (x.st = 1 ∧ x.ch = ⟨#[]⟩) ∨ x.st = 2 ∨ x.st = 3) : CInv (setL L k x) := by
  intro y hy
  obtain ⟨z, hz, rfl⟩ := List.mem_map.1 hy
  split
  · exact hx
  · exact h z hz
theorem cinv_first : CInv [first1] := by intro y hy; simp at hy; subst hy; exact .inl ⟨rfl, rfl⟩
theorem CInv.step (h : CInv L) (g : Int) (y k t u v : Int) (s : ByteArray) : CInv (stL y k t u v s L g) := by
  unfold stL
  split
  · unfold forkL
    split
    · intro y hy
      rcases List.mem_append.1 hy with h1 | h1
      · exact h y h1
      · simp at h1; subst h1; exact .inl ⟨rfl, rfl⟩
    · exact h
  split
  · unfold becL
    split
    · rename_i c
      unfold becE at c
      split at c
      · cases c
      · rename_i x e
        rw [atL_some e]
        exact h.set (h x (getL_mem e).1)
    · exact h
  split
  · unfold exL
    split
    · have h0 : CInv (exL0 L k) := by
        intro y hy
        obtain ⟨z, hz, rfl⟩ := List.mem_map.1 hy
        split
        · exact h z hz
        · exact h z hz
      exact h0.set (.inr (.inr rfl))
    · exact h
  split
  · unfold waL
    split
    · intro y hy
      exact h y (List.mem_filter.1 hy).1
    · exact h
  split
  · unfold kiL
    split
    · rename_i c
      unfold kiE at c
      split at c
      · cases c
      · rename_i x e
        rw [atL_some e]
        have hx := h x (getL_mem e).1
        by_cases h3 : x.st = 3
        · refine h.set (.inr (.inr ?_))
          unfold killV
          rw [if_neg (by omega), if_neg (by omega)]
          exact h3
        · rw [kill_val hx h3]
          exact h.set (.inl ⟨rfl, rfl⟩)
    · exact h
  split
  · unfold slL
    split
    · exact h.set (.inr (.inl rfl))
    · exact h
  · intro y hy
    obtain ⟨z, hz, rfl⟩ := List.mem_map.1 hy
    split
    · exact .inl ⟨rfl, rfl⟩
    · exact h z hz
end

/-! ### Ints -/
set_option maxRecDepth 100000 in
set_option maxHeartbeats 1000000 in
theorem ints6_row (b b' cap cap' : Nat) (xs : List Int) (w : World) (hl : xs.length ≤ 16) (hc : ∀ j x, xs[j]? = some x → w.cell? ⟨b, j, none⟩ = some (.int .i64 x)) (hc' : ∀ j x, xs[j]? = some x → w.cell? ⟨b', j, none⟩ = some (.int .i64 x)) (hb : b < w.heap.size) (hb' : b' < w.heap.size) :
    Calls Try.prog 31 #[.slice (some ⟨b, 0, none⟩) xs.length cap, .slice (some ⟨b', 0, none⟩) xs.length cap'] w fun e w' => e = .returned (.bool true) ∧ Below w.heap.size w w' := by
  have HC := Lib.hid hc; have HC' := Lib.hid hc'
  clear hc hc'
  go_enter Try.func31, Try.ntmps31
  go_wp2
  go_loopw [5] (fun i wr => ∃ k : Nat, k ≤ xs.length ∧ i = .int .i64 k ∧ Below w.heap.size w wr) (fun i _ => xs.length - (intOf i).toNat)
  case atStart => exact ⟨0, Nat.zero_le _, rfl, Below.refl _ _⟩
  case round =>
    obtain ⟨k, hk, rfl, hB⟩ := hrel
    by_cases hlt : k < xs.length
    · obtain ⟨x, hx⟩ : ∃ x, xs[k]? = some x := ⟨_, List.getElem?_eq_getElem hlt⟩
      have c := (hB.cell (p := ⟨b, k, none⟩) hb).trans (HC.out k x hx)
      have c' := (hB.cell (p := ⟨b', k, none⟩) hb').trans (HC'.out k x hx)
      have i0 : (0 : Int) ≤ (k : Int) := by omega
      have i1 : (k : Int) < (xs.length : Int) := by omega
      have HB := Lib.hid hB; clear hB hx
      go_wp2
      go_quiet (fail)
      go_wp2
      go_roundw
      case rel => exact ⟨k + 1, by omega, by go_num, below_drewN' HB.out⟩
      case measure => simp [intOf]; omega
    · obtain rfl : k = xs.length := by omega
      go_wp2
      go_ret
      exact ⟨rfl, hB⟩

set_option maxRecDepth 100000 in
set_option maxHeartbeats 1000000 in
theorem ints6_zero (a a' : Option Addr) (cap cap' : Nat) (w : World) :
    Calls Try.prog 31 #[.slice a 0 cap, .slice a' 0 cap'] w fun e w' => e = .returned (.bool true) ∧ Below w.heap.size w w' := by
  go_enter Try.func31, Try.ntmps31
  go_wp2
  go_loopw [5] (fun i wr => i = .int .i64 0 ∧ wr = w) (fun _ _ => 0)
  case atStart => exact ⟨rfl, rfl⟩
  case round =>
    obtain ⟨rfl, rfl⟩ := hrel
    go_wp2
    go_ret
    exact ⟨rfl, Below.refl _ _⟩

theorem ints6 {w : World} {n n' : Nat} {v v' : Value} {xs : List Int} (hl : xs.length ≤ 16) (h : SlG w n v xs) (h' : SlG w n' v' xs) :
    Calls Try.prog 31 #[v, v'] w fun e w' => e = .returned (.bool true) ∧ Below w.heap.size w w' := by
  by_cases h0 : 0 < xs.length
  · obtain ⟨r, cap, rfl⟩ := h.open h0
    obtain ⟨r', cap', rfl⟩ := h'.open h0
    obtain ⟨_, _, e1, f1⟩ := h
    obtain ⟨_, _, e2, f2⟩ := h'
    have k1 : SlG w n (.slice (some ⟨r, 0, none⟩) xs.length cap) xs := ⟨_, _, e1, f1⟩
    have k2 : SlG w n' (.slice (some ⟨r', 0, none⟩) xs.length cap') xs := ⟨_, _, e2, f2⟩
    cases e1; cases e2
    obtain ⟨_, _, e3, _, b3, _⟩ := f1 h0
    obtain ⟨_, _, e4, _, b4, _⟩ := f2 h0
    cases e3; cases e4
    exact ints6_row r r' cap cap' xs w hl (fun j x hx => k1.cell_at hx) (fun j x hx => k2.cell_at hx) (Array.getElem?_eq_some_iff.1 b3).1 (Array.getElem?_eq_some_iff.1 b4).1
  · have hx : xs = [] := List.eq_nil_of_length_eq_zero (by omega)
    subst hx
    obtain ⟨a, cap, rfl, _⟩ := h
    obtain ⟨a', cap', rfl, _⟩ := h'
    exact ints6_zero _ _ _ _ w

/-! ### did -/
section
variable {w : World} {p m q r base cap n : Nat} {L : List PV} {g : Int}
set_option maxRecDepth 100000 in
set_option maxHeartbeats 4000000 in
theorem did_fork0 (hT : TabAt w p m L g) (hR : RT w base q r cap L g) (hp : p < base) (hm : m < base) (hnp : n ≤ p) (hnm : n ≤ m) (d k t u v : Int) (s : ByteArray) (hs : s.size ≤ maxLen) (x0 : ((IntKind.u64.wrap d).tmod 8 == 0) = true) :
    Calls Try.prog 13 #[.pointer (some ⟨p, 0, none⟩), .pointer (some ⟨q, 0, none⟩), .agg #[.int .i64 d, .int .i64 k, .int .i64 t, .int .i64 u, .int .i64 v, .string s]] w fun e w' => e = .returned (.bool true) ∧ TabAt w' p m (forkL L g k) (forkG L g k) ∧ RTab w' base q (forkL L g k) (forkG L g k) ∧ Below n w w' := by
  have HOK := Lib.hid hT.ok
  have hbr := hR.br; have hbq := hR.bq; have hql := hR.qlt; have hrl := hR.rlt
  have hn0 : n ≤ w.heap.size := by omega
  have hn16 := hT.ok.len
  have HB := Lib.hid ((Below.refl n w).alloc hn0 (.cells #[.int .i64 d, .int .i64 k, .int .i64 t, .int .i64 u, .int .i64 v, .string s] 32))
  have HT := Lib.hid (hT.alloc (.cells #[.int .i64 d, .int .i64 k, .int .i64 t, .int .i64 u, .int .i64 v, .string s] 32))
  have HR := Lib.hid (hR.below ((Below.refl _ _).alloc (Nat.le_refl _) (.cells #[.int .i64 d, .int .i64 k, .int .i64 t, .int .i64 u, .int .i64 v, .string s] 32)))
  have HS := Lib.hid hs
  have hpl := hT.p_lt; have hml := hT.m_lt
  have bA := BoxA.new w 32 #[.int .i64 d, .int .i64 k, .int .i64 t, .int .i64 u, .int .i64 v, .string s]
  have hc1 := bA.at 1 (v := .int .i64 k) rfl; have hc2 := bA.at 2 (v := .int .i64 t) rfl; have hc3 := bA.at 3 (v := .int .i64 u) rfl; have hc4 := bA.at 4 (v := .int .i64 v) rfl; have hc5 := bA.at 5 (v := .string s) rfl
  have hne : w.heap.size < (w.alloc (.cells #[.int .i64 d, .int .i64 k, .int .i64 t, .int .i64 u, .int .i64 v, .string s] 32)).heap.size := by simp
  clear hT hR hs bA
  have hP := fork_any HT.out k
  have hQ : ∀ w1, RT w1 base q r cap L g → Calls Try.prog 25 #[.pointer (some ⟨q, 0, none⟩), .int .i64 k] w1 _ := fun w1 h1 => rfork h1 HOK.out k
  have HP := Lib.hid hP; have HQ := Lib.hid hQ
  clear hP hQ
  go_enter Try.func13, Try.ntmps13
  go_wp2_with (first
    | (go_at_call 16; refine HP.out.mono ?_; rintro e w1 ⟨rfl, h1, t1⟩; have d1 := (t1.cell (b := w.heap.size) (o := 1) hne (by omega) (by omega)).trans hc1; have HR1 := Lib.hid (HR.out.turn t1 hp hm); have H1' := Lib.hid h1; have HB1 := Lib.hid (t1.below HB.out hnp hnm (by simp; omega)); have hs1 := t1.size; rw [World.size_alloc] at hs1; clear h1 t1)
    | (go_at_call 25; refine (HQ.out w1 HR1.out).mono ?_; rintro e w2 ⟨rfl, h2, t2⟩; have H1 := Lib.hid (H1'.out.below (t2.below (Below.refl base w1) hbq hbr (by omega)) hp hm)))
  go_ret
  exact ⟨rfl, H1.out, h2, t2.below HB1.out (by omega) (by omega) (by omega)⟩

set_option maxRecDepth 100000 in
set_option maxHeartbeats 4000000 in
theorem did_fork1 (hT : TabAt w p m L g) (hR : RT w base q r cap L g) (hp : p < base) (hm : m < base) (hnp : n ≤ p) (hnm : n ≤ m) (d k t u v : Int) (s : ByteArray) (hs : s.size ≤ maxLen) (x0 : ((IntKind.u64.wrap d).tmod 8 == 0) = false) (x1 : ((IntKind.u64.wrap d).tmod 8 == 1) = true) :
    Calls Try.prog 13 #[.pointer (some ⟨p, 0, none⟩), .pointer (some ⟨q, 0, none⟩), .agg #[.int .i64 d, .int .i64 k, .int .i64 t, .int .i64 u, .int .i64 v, .string s]] w fun e w' => e = .returned (.bool true) ∧ TabAt w' p m (forkL L g k) (forkG L g k) ∧ RTab w' base q (forkL L g k) (forkG L g k) ∧ Below n w w' := by
  have HOK := Lib.hid hT.ok
  have hbr := hR.br; have hbq := hR.bq; have hql := hR.qlt; have hrl := hR.rlt
  have hn0 : n ≤ w.heap.size := by omega
  have hn16 := hT.ok.len
  have HB := Lib.hid ((Below.refl n w).alloc hn0 (.cells #[.int .i64 d, .int .i64 k, .int .i64 t, .int .i64 u, .int .i64 v, .string s] 32))
  have HT := Lib.hid (hT.alloc (.cells #[.int .i64 d, .int .i64 k, .int .i64 t, .int .i64 u, .int .i64 v, .string s] 32))
  have HR := Lib.hid (hR.below ((Below.refl _ _).alloc (Nat.le_refl _) (.cells #[.int .i64 d, .int .i64 k, .int .i64 t, .int .i64 u, .int .i64 v, .string s] 32)))
  have HS := Lib.hid hs
  have hpl := hT.p_lt; have hml := hT.m_lt
  have bA := BoxA.new w 32 #[.int .i64 d, .int .i64 k, .int .i64 t, .int .i64 u, .int .i64 v, .string s]
  have hc1 := bA.at 1 (v := .int .i64 k) rfl; have hc2 := bA.at 2 (v := .int .i64 t) rfl; have hc3 := bA.at 3 (v := .int .i64 u) rfl; have hc4 := bA.at 4 (v := .int .i64 v) rfl; have hc5 := bA.at 5 (v := .string s) rfl
  have hne : w.heap.size < (w.alloc (.cells #[.int .i64 d, .int .i64 k, .int .i64 t, .int .i64 u, .int .i64 v, .string s] 32)).heap.size := by simp
  clear hT hR hs bA
  have hP := fork_any HT.out k
  have hQ : ∀ w1, RT w1 base q r cap L g → Calls Try.prog 25 #[.pointer (some ⟨q, 0, none⟩), .int .i64 k] w1 _ := fun w1 h1 => rfork h1 HOK.out k
  have HP := Lib.hid hP; have HQ := Lib.hid hQ
  clear hP hQ
  go_enter Try.func13, Try.ntmps13
  go_wp2_with (first
    | (go_at_call 16; refine HP.out.mono ?_; rintro e w1 ⟨rfl, h1, t1⟩; have d1 := (t1.cell (b := w.heap.size) (o := 1) hne (by omega) (by omega)).trans hc1; have HR1 := Lib.hid (HR.out.turn t1 hp hm); have H1' := Lib.hid h1; have HB1 := Lib.hid (t1.below HB.out hnp hnm (by simp; omega)); have hs1 := t1.size; rw [World.size_alloc] at hs1; clear h1 t1)
    | (go_at_call 25; refine (HQ.out w1 HR1.out).mono ?_; rintro e w2 ⟨rfl, h2, t2⟩; have H1 := Lib.hid (H1'.out.below (t2.below (Below.refl base w1) hbq hbr (by omega)) hp hm)))
  go_ret
  exact ⟨rfl, H1.out, h2, t2.below HB1.out (by omega) (by omega) (by omega)⟩

set_option maxRecDepth 100000 in
set_option maxHeartbeats 4000000 in
theorem did_become (hT : TabAt w p m L g) (hR : RT w base q r cap L g) (hp : p < base) (hm : m < base) (hnp : n ≤ p) (hnm : n ≤ m) (d k t u v : Int) (s : ByteArray) (hs : s.size ≤ maxLen) (x0 : ((IntKind.u64.wrap d).tmod 8 == 0) = false) (x1 : ((IntKind.u64.wrap d).tmod 8 == 1) = false) (x2 : ((IntKind.u64.wrap d).tmod 8 == 2) = true) :
    Calls Try.prog 13 #[.pointer (some ⟨p, 0, none⟩), .pointer (some ⟨q, 0, none⟩), .agg #[.int .i64 d, .int .i64 k, .int .i64 t, .int .i64 u, .int .i64 v, .string s]] w fun e w' => e = .returned (.bool true) ∧ TabAt w' p m (becL L k u v) (g) ∧ RTab w' base q (becL L k u v) (g) ∧ Below n w w' := by
  have HOK := Lib.hid hT.ok
  have hbr := hR.br; have hbq := hR.bq; have hql := hR.qlt; have hrl := hR.rlt
  have hn0 : n ≤ w.heap.size := by omega
  have hn16 := hT.ok.len
  have HB := Lib.hid ((Below.refl n w).alloc hn0 (.cells #[.int .i64 d, .int .i64 k, .int .i64 t, .int .i64 u, .int .i64 v, .string s] 32))
  have HT := Lib.hid (hT.alloc (.cells #[.int .i64 d, .int .i64 k, .int .i64 t, .int .i64 u, .int .i64 v, .string s] 32))
  have HR := Lib.hid (hR.below ((Below.refl _ _).alloc (Nat.le_refl _) (.cells #[.int .i64 d, .int .i64 k, .int .i64 t, .int .i64 u, .int .i64 v, .string s] 32)))
  have HS := Lib.hid hs
  have hpl := hT.p_lt; have hml := hT.m_lt
  have bA := BoxA.new w 32 #[.int .i64 d, .int .i64 k, .int .i64 t, .int .i64 u, .int .i64 v, .string s]
  have hc1 := bA.at 1 (v := .int .i64 k) rfl; have hc2 := bA.at 2 (v := .int .i64 t) rfl; have hc3 := bA.at 3 (v := .int .i64 u) rfl; have hc4 := bA.at 4 (v := .int .i64 v) rfl; have hc5 := bA.at 5 (v := .string s) rfl
  have hne : w.heap.size < (w.alloc (.cells #[.int .i64 d, .int .i64 k, .int .i64 t, .int .i64 u, .int .i64 v, .string s] 32)).heap.size := by simp
  clear hT hR hs bA
  go_enter Try.func13, Try.ntmps13
  go_wp2
  generalize w.alloc (.cells #[.int .i64 d, .int .i64 k, .int .i64 t, .int .i64 u, .int .i64 v, .string s] 32) = W0 at *
  have hW0 : w.heap.size ≤ W0.heap.size := by omega
  go_region_held3 (fun w' => w'.cell? ⟨w.heap.size, 1, none⟩ = some (.int .i64 k) ∧ w'.cell? ⟨w.heap.size, 3, none⟩ = some (.int .i64 u) ∧ w'.cell? ⟨w.heap.size, 4, none⟩ = some (.int .i64 v)) (first | exact ⟨hc1, hc3, hc4⟩ | exact ⟨d1, d3, d4⟩ | exact ⟨e1, e3, e4⟩) (first
    | (go_at_call 18; refine (become_any (HT.out.keep (w' := W0.drew) rfl rfl) k u v).mono ?_; rintro e w1 ⟨rfl, h1, t1'⟩; have t1 := t1'.drew; have d1 := (t1.cell (b := w.heap.size) (o := 1) hne (by omega) (by omega)).trans hc1; have d3 := (t1.cell (b := w.heap.size) (o := 3) hne (by omega) (by omega)).trans hc3; have d4 := (t1.cell (b := w.heap.size) (o := 4) hne (by omega) (by omega)).trans hc4; have HR1 := Lib.hid (HR.out.turn t1 hp hm); have H1' := Lib.hid h1; have HB1 := Lib.hid (t1.below HB.out hnp hnm (by omega)); have hs1 := Nat.lt_of_lt_of_le hne t1.size; clear h1 t1 t1')
    | (go_at_call 26; refine (rbecome HR1.out HOK.out k u v).mono ?_; rintro e w2 ⟨rfl, h2, t2⟩; have e1 := (t2.cell (b := w.heap.size) (o := 1) (by omega) (by omega) (by omega)).trans d1; have e3 := (t2.cell (b := w.heap.size) (o := 3) (by omega) (by omega) (by omega)).trans d3; have e4 := (t2.cell (b := w.heap.size) (o := 4) (by omega) (by omega) (by omega)).trans d4; have H1 := Lib.hid (H1'.out.below (t2.below (Below.refl base w1) hbq hbr (by omega)) hp hm)))
  go_wp2
  go_ret
  exact ⟨rfl, H1.out, h2, t2.below HB1.out (by omega) (by omega) (by omega)⟩

set_option maxRecDepth 100000 in
set_option maxHeartbeats 4000000 in
theorem did_exit (hT : TabAt w p m L g) (hR : RT w base q r cap L g) (hp : p < base) (hm : m < base) (hnp : n ≤ p) (hnm : n ≤ m) (d k t u v : Int) (s : ByteArray) (hs : s.size ≤ maxLen) (x0 : ((IntKind.u64.wrap d).tmod 8 == 0) = false) (x1 : ((IntKind.u64.wrap d).tmod 8 == 1) = false) (x2 : ((IntKind.u64.wrap d).tmod 8 == 2) = false) (x3 : ((IntKind.u64.wrap d).tmod 8 == 3) = true) :
    Calls Try.prog 13 #[.pointer (some ⟨p, 0, none⟩), .pointer (some ⟨q, 0, none⟩), .agg #[.int .i64 d, .int .i64 k, .int .i64 t, .int .i64 u, .int .i64 v, .string s]] w fun e w' => e = .returned (.bool true) ∧ TabAt w' p m (exL L k t) (g) ∧ RTab w' base q (exL L k t) (g) ∧ Below n w w' := by
  have HOK := Lib.hid hT.ok
  have hbr := hR.br; have hbq := hR.bq; have hql := hR.qlt; have hrl := hR.rlt
  have hn0 : n ≤ w.heap.size := by omega
  have hn16 := hT.ok.len
  have HB := Lib.hid ((Below.refl n w).alloc hn0 (.cells #[.int .i64 d, .int .i64 k, .int .i64 t, .int .i64 u, .int .i64 v, .string s] 32))
  have HT := Lib.hid (hT.alloc (.cells #[.int .i64 d, .int .i64 k, .int .i64 t, .int .i64 u, .int .i64 v, .string s] 32))
  have HR := Lib.hid (hR.below ((Below.refl _ _).alloc (Nat.le_refl _) (.cells #[.int .i64 d, .int .i64 k, .int .i64 t, .int .i64 u, .int .i64 v, .string s] 32)))
  have HS := Lib.hid hs
  have hpl := hT.p_lt; have hml := hT.m_lt
  have bA := BoxA.new w 32 #[.int .i64 d, .int .i64 k, .int .i64 t, .int .i64 u, .int .i64 v, .string s]
  have hc1 := bA.at 1 (v := .int .i64 k) rfl; have hc2 := bA.at 2 (v := .int .i64 t) rfl; have hc3 := bA.at 3 (v := .int .i64 u) rfl; have hc4 := bA.at 4 (v := .int .i64 v) rfl; have hc5 := bA.at 5 (v := .string s) rfl
  have hne : w.heap.size < (w.alloc (.cells #[.int .i64 d, .int .i64 k, .int .i64 t, .int .i64 u, .int .i64 v, .string s] 32)).heap.size := by simp
  clear hT hR hs bA
  go_enter Try.func13, Try.ntmps13
  go_wp2
  generalize w.alloc (.cells #[.int .i64 d, .int .i64 k, .int .i64 t, .int .i64 u, .int .i64 v, .string s] 32) = W0 at *
  have hW0 : w.heap.size ≤ W0.heap.size := by omega
  go_region_held3 (fun w' => w'.cell? ⟨w.heap.size, 1, none⟩ = some (.int .i64 k) ∧ w'.cell? ⟨w.heap.size, 2, none⟩ = some (.int .i64 t)) (first | exact ⟨hc1, hc2⟩ | exact ⟨d1, d2⟩ | exact ⟨e1, e2⟩) (first
    | (go_at_call 19; refine (exit_any (HT.out.keep (w' := W0.drew) rfl rfl) k t).mono ?_; rintro e w1 ⟨rfl, h1, t1'⟩; have t1 := t1'.drew; have d1 := (t1.cell (b := w.heap.size) (o := 1) hne (by omega) (by omega)).trans hc1; have d2 := (t1.cell (b := w.heap.size) (o := 2) hne (by omega) (by omega)).trans hc2; have HR1 := Lib.hid (HR.out.turn t1 hp hm); have H1' := Lib.hid h1; have HB1 := Lib.hid (t1.below HB.out hnp hnm (by omega)); have hs1 := Nat.lt_of_lt_of_le hne t1.size; clear h1 t1 t1')
    | (go_at_call 27; refine (rexit HR1.out HOK.out k t).mono ?_; rintro e w2 ⟨rfl, h2, t2⟩; have e1 := (t2.cell (b := w.heap.size) (o := 1) (by omega) (by omega) (by omega)).trans d1; have e2 := (t2.cell (b := w.heap.size) (o := 2) (by omega) (by omega) (by omega)).trans d2; have H1 := Lib.hid (H1'.out.below (t2.below (Below.refl base w1) hbq hbr (by omega)) hp hm)))
  go_wp2
  go_ret
  exact ⟨rfl, H1.out, h2, t2.below HB1.out (by omega) (by omega) (by omega)⟩

set_option maxRecDepth 100000 in
set_option maxHeartbeats 4000000 in
theorem did_wait (hT : TabAt w p m L g) (hR : RT w base q r cap L g) (hp : p < base) (hm : m < base) (hnp : n ≤ p) (hnm : n ≤ m) (d k t u v : Int) (s : ByteArray) (hs : s.size ≤ maxLen) (hpos : 0 < (waL L k).length) (x0 : ((IntKind.u64.wrap d).tmod 8 == 0) = false) (x1 : ((IntKind.u64.wrap d).tmod 8 == 1) = false) (x2 : ((IntKind.u64.wrap d).tmod 8 == 2) = false) (x3 : ((IntKind.u64.wrap d).tmod 8 == 3) = false) (x4 : ((IntKind.u64.wrap d).tmod 8 == 4) = true) :
    Calls Try.prog 13 #[.pointer (some ⟨p, 0, none⟩), .pointer (some ⟨q, 0, none⟩), .agg #[.int .i64 d, .int .i64 k, .int .i64 t, .int .i64 u, .int .i64 v, .string s]] w fun e w' => e = .returned (.bool true) ∧ TabAt w' p m (waL L k) (g) ∧ RTab w' base q (waL L k) (g) ∧ Below n w w' := by
  have HOK := Lib.hid hT.ok
  have hbr := hR.br; have hbq := hR.bq; have hql := hR.qlt; have hrl := hR.rlt
  have hn0 : n ≤ w.heap.size := by omega
  have hn16 := hT.ok.len
  have HB := Lib.hid ((Below.refl n w).alloc hn0 (.cells #[.int .i64 d, .int .i64 k, .int .i64 t, .int .i64 u, .int .i64 v, .string s] 32))
  have HT := Lib.hid (hT.alloc (.cells #[.int .i64 d, .int .i64 k, .int .i64 t, .int .i64 u, .int .i64 v, .string s] 32))
  have HR := Lib.hid (hR.below ((Below.refl _ _).alloc (Nat.le_refl _) (.cells #[.int .i64 d, .int .i64 k, .int .i64 t, .int .i64 u, .int .i64 v, .string s] 32)))
  have HS := Lib.hid hs
  have hpl := hT.p_lt; have hml := hT.m_lt
  have bA := BoxA.new w 32 #[.int .i64 d, .int .i64 k, .int .i64 t, .int .i64 u, .int .i64 v, .string s]
  have hc1 := bA.at 1 (v := .int .i64 k) rfl; have hc2 := bA.at 2 (v := .int .i64 t) rfl; have hc3 := bA.at 3 (v := .int .i64 u) rfl; have hc4 := bA.at 4 (v := .int .i64 v) rfl; have hc5 := bA.at 5 (v := .string s) rfl
  have hne : w.heap.size < (w.alloc (.cells #[.int .i64 d, .int .i64 k, .int .i64 t, .int .i64 u, .int .i64 v, .string s] 32)).heap.size := by simp
  clear hT hR hs bA
  have hP := wait_any HT.out k
  have hQ : ∀ w1, RT w1 base q r cap L g → Calls Try.prog 28 #[.pointer (some ⟨q, 0, none⟩), .int .i64 k] w1 _ := fun w1 h1 => rwait h1 HOK.out k hpos
  have HP := Lib.hid hP; have HQ := Lib.hid hQ
  clear hP hQ
  go_enter Try.func13, Try.ntmps13
  go_wp2_with (first
    | (go_at_call 17; refine HP.out.mono ?_; rintro e w1 ⟨rfl, h1, t1⟩; have d1 := (t1.cell (b := w.heap.size) (o := 1) hne (by omega) (by omega)).trans hc1; have HR1 := Lib.hid (HR.out.turn t1 hp hm); have H1' := Lib.hid h1; have HB1 := Lib.hid (t1.below HB.out hnp hnm (by simp; omega)); have hs1 := t1.size; rw [World.size_alloc] at hs1; clear h1 t1)
    | (go_at_call 28; refine (HQ.out w1 HR1.out).mono ?_; rintro e w2 ⟨rfl, h2, t2⟩; have H1 := Lib.hid (H1'.out.below (t2.below (Below.refl base w1) hbq hbr (by omega)) hp hm)))
  go_ret
  exact ⟨rfl, H1.out, h2, t2.below HB1.out (by omega) (by omega) (by omega)⟩

set_option maxRecDepth 100000 in
set_option maxHeartbeats 4000000 in
theorem did_kill (hT : TabAt w p m L g) (hR : RT w base q r cap L g) (hp : p < base) (hm : m < base) (hnp : n ≤ p) (hnm : n ≤ m) (d k t u v : Int) (s : ByteArray) (hs : s.size ≤ maxLen) (hci : CInv L) (x0 : ((IntKind.u64.wrap d).tmod 8 == 0) = false) (x1 : ((IntKind.u64.wrap d).tmod 8 == 1) = false) (x2 : ((IntKind.u64.wrap d).tmod 8 == 2) = false) (x3 : ((IntKind.u64.wrap d).tmod 8 == 3) = false) (x4 : ((IntKind.u64.wrap d).tmod 8 == 4) = false) (x5 : ((IntKind.u64.wrap d).tmod 8 == 5) = true) :
    Calls Try.prog 13 #[.pointer (some ⟨p, 0, none⟩), .pointer (some ⟨q, 0, none⟩), .agg #[.int .i64 d, .int .i64 k, .int .i64 t, .int .i64 u, .int .i64 v, .string s]] w fun e w' => e = .returned (.bool true) ∧ TabAt w' p m (kiL L k) (g) ∧ RTab w' base q (kiL L k) (g) ∧ Below n w w' := by
  have HOK := Lib.hid hT.ok
  have hbr := hR.br; have hbq := hR.bq; have hql := hR.qlt; have hrl := hR.rlt
  have hn0 : n ≤ w.heap.size := by omega
  have hn16 := hT.ok.len
  have HB := Lib.hid ((Below.refl n w).alloc hn0 (.cells #[.int .i64 d, .int .i64 k, .int .i64 t, .int .i64 u, .int .i64 v, .string s] 32))
  have HT := Lib.hid (hT.alloc (.cells #[.int .i64 d, .int .i64 k, .int .i64 t, .int .i64 u, .int .i64 v, .string s] 32))
  have HR := Lib.hid (hR.below ((Below.refl _ _).alloc (Nat.le_refl _) (.cells #[.int .i64 d, .int .i64 k, .int .i64 t, .int .i64 u, .int .i64 v, .string s] 32)))
  have HS := Lib.hid hs
  have hpl := hT.p_lt; have hml := hT.m_lt
  have bA := BoxA.new w 32 #[.int .i64 d, .int .i64 k, .int .i64 t, .int .i64 u, .int .i64 v, .string s]
  have hc1 := bA.at 1 (v := .int .i64 k) rfl; have hc2 := bA.at 2 (v := .int .i64 t) rfl; have hc3 := bA.at 3 (v := .int .i64 u) rfl; have hc4 := bA.at 4 (v := .int .i64 v) rfl; have hc5 := bA.at 5 (v := .string s) rfl
  have hne : w.heap.size < (w.alloc (.cells #[.int .i64 d, .int .i64 k, .int .i64 t, .int .i64 u, .int .i64 v, .string s] 32)).heap.size := by simp
  clear hT hR hs bA
  go_enter Try.func13, Try.ntmps13
  go_wp2
  generalize w.alloc (.cells #[.int .i64 d, .int .i64 k, .int .i64 t, .int .i64 u, .int .i64 v, .string s] 32) = W0 at *
  have hW0 : w.heap.size ≤ W0.heap.size := by omega
  go_region_held3 (fun w' => w'.cell? ⟨w.heap.size, 1, none⟩ = some (.int .i64 k)) (first | exact hc1 | exact d1 | exact e1) (first
    | (go_at_call 20; refine (tkill_any (HT.out.keep (w' := W0.drew) rfl rfl) k).mono ?_; rintro e w1 ⟨rfl, h1, t1'⟩; have t1 := t1'.drew; have d1 := (t1.cell (b := w.heap.size) (o := 1) hne (by omega) (by omega)).trans hc1; have HR1 := Lib.hid (HR.out.turn t1 hp hm); have H1' := Lib.hid h1; have HB1 := Lib.hid (t1.below HB.out hnp hnm (by omega)); have hs1 := Nat.lt_of_lt_of_le hne t1.size; clear h1 t1 t1')
    | (go_at_call 29; refine (rkill HR1.out HOK.out hci k).mono ?_; rintro e w2 ⟨rfl, h2, t2⟩; have e1 := (t2.cell (b := w.heap.size) (o := 1) (by omega) (by omega) (by omega)).trans d1; have H1 := Lib.hid (H1'.out.below (t2.below (Below.refl base w1) hbq hbr (by omega)) hp hm)))
  go_wp2
  go_ret
  exact ⟨rfl, H1.out, h2, t2.below HB1.out (by omega) (by omega) (by omega)⟩

set_option maxRecDepth 100000 in
set_option maxHeartbeats 4000000 in
theorem did_sleep (hT : TabAt w p m L g) (hR : RT w base q r cap L g) (hp : p < base) (hm : m < base) (hnp : n ≤ p) (hnm : n ≤ m) (d k t u v : Int) (s : ByteArray) (hs : s.size ≤ maxLen) (x0 : ((IntKind.u64.wrap d).tmod 8 == 0) = false) (x1 : ((IntKind.u64.wrap d).tmod 8 == 1) = false) (x2 : ((IntKind.u64.wrap d).tmod 8 == 2) = false) (x3 : ((IntKind.u64.wrap d).tmod 8 == 3) = false) (x4 : ((IntKind.u64.wrap d).tmod 8 == 4) = false) (x5 : ((IntKind.u64.wrap d).tmod 8 == 5) = false) (x6 : ((IntKind.u64.wrap d).tmod 8 == 6) = true) :
    Calls Try.prog 13 #[.pointer (some ⟨p, 0, none⟩), .pointer (some ⟨q, 0, none⟩), .agg #[.int .i64 d, .int .i64 k, .int .i64 t, .int .i64 u, .int .i64 v, .string s]] w fun e w' => e = .returned (.bool true) ∧ TabAt w' p m (slL L k (textS s)) (g) ∧ RTab w' base q (slL L k (textS s)) (g) ∧ Below n w w' := by
  have HOK := Lib.hid hT.ok
  have hbr := hR.br; have hbq := hR.bq; have hql := hR.qlt; have hrl := hR.rlt
  have hn0 : n ≤ w.heap.size := by omega
  have hn16 := hT.ok.len
  have HB := Lib.hid ((Below.refl n w).alloc hn0 (.cells #[.int .i64 d, .int .i64 k, .int .i64 t, .int .i64 u, .int .i64 v, .string s] 32))
  have HT := Lib.hid (hT.alloc (.cells #[.int .i64 d, .int .i64 k, .int .i64 t, .int .i64 u, .int .i64 v, .string s] 32))
  have HR := Lib.hid (hR.below ((Below.refl _ _).alloc (Nat.le_refl _) (.cells #[.int .i64 d, .int .i64 k, .int .i64 t, .int .i64 u, .int .i64 v, .string s] 32)))
  have HS := Lib.hid hs
  have hpl := hT.p_lt; have hml := hT.m_lt
  have bA := BoxA.new w 32 #[.int .i64 d, .int .i64 k, .int .i64 t, .int .i64 u, .int .i64 v, .string s]
  have hc1 := bA.at 1 (v := .int .i64 k) rfl; have hc2 := bA.at 2 (v := .int .i64 t) rfl; have hc3 := bA.at 3 (v := .int .i64 u) rfl; have hc4 := bA.at 4 (v := .int .i64 v) rfl; have hc5 := bA.at 5 (v := .string s) rfl
  have hne : w.heap.size < (w.alloc (.cells #[.int .i64 d, .int .i64 k, .int .i64 t, .int .i64 u, .int .i64 v, .string s] 32)).heap.size := by simp
  clear hT hR hs bA
  go_enter Try.func13, Try.ntmps13
  go_wp2
  generalize w.alloc (.cells #[.int .i64 d, .int .i64 k, .int .i64 t, .int .i64 u, .int .i64 v, .string s] 32) = W0 at *
  have hW0 : w.heap.size ≤ W0.heap.size := by omega
  go_region_held3 (fun w' => w'.cell? ⟨w.heap.size, 1, none⟩ = some (.int .i64 k) ∧ w'.cell? ⟨w.heap.size, 5, none⟩ = some (.string s)) (first | exact ⟨hc1, hc5⟩ | exact ⟨d1, d5⟩ | exact ⟨e1, e5⟩) (first
    | (go_at_call 24; refine (text_any s HS.out _).mono ?_; rintro e w' ⟨rfl, rfl⟩)
    | (go_at_call 21; refine (tsleep_any (HT.out.keep (w' := W0.drew) rfl rfl) k (textS s)).mono ?_; rintro e w1 ⟨rfl, h1, t1'⟩; have t1 := t1'.drew; have d1 := (t1.cell (b := w.heap.size) (o := 1) hne (by omega) (by omega)).trans hc1; have d5 := (t1.cell (b := w.heap.size) (o := 5) hne (by omega) (by omega)).trans hc5; have HR1 := Lib.hid (HR.out.turn t1 hp hm); have H1' := Lib.hid h1; have HB1 := Lib.hid (t1.below HB.out hnp hnm (by omega)); have hs1 := Nat.lt_of_lt_of_le hne t1.size; clear h1 t1 t1')
    | (go_at_call 30; refine (rsleep HR1.out HOK.out k (textS s)).mono ?_; rintro e w2 ⟨rfl, h2, t2⟩; have e1 := (t2.cell (b := w.heap.size) (o := 1) (by omega) (by omega) (by omega)).trans d1; have e5 := (t2.cell (b := w.heap.size) (o := 5) (by omega) (by omega) (by omega)).trans d5; have H1 := Lib.hid (H1'.out.below (t2.below (Below.refl base w1) hbq hbr (by omega)) hp hm)))
  go_wp2
  go_ret
  exact ⟨rfl, H1.out, h2, t2.below HB1.out (by omega) (by omega) (by omega)⟩

set_option maxRecDepth 100000 in
set_option maxHeartbeats 4000000 in
theorem did_wake (hT : TabAt w p m L g) (hR : RT w base q r cap L g) (hp : p < base) (hm : m < base) (hnp : n ≤ p) (hnm : n ≤ m) (d k t u v : Int) (s : ByteArray) (hs : s.size ≤ maxLen) (x0 : ((IntKind.u64.wrap d).tmod 8 == 0) = false) (x1 : ((IntKind.u64.wrap d).tmod 8 == 1) = false) (x2 : ((IntKind.u64.wrap d).tmod 8 == 2) = false) (x3 : ((IntKind.u64.wrap d).tmod 8 == 3) = false) (x4 : ((IntKind.u64.wrap d).tmod 8 == 4) = false) (x5 : ((IntKind.u64.wrap d).tmod 8 == 5) = false) (x6 : ((IntKind.u64.wrap d).tmod 8 == 6) = false) :
    Calls Try.prog 13 #[.pointer (some ⟨p, 0, none⟩), .pointer (some ⟨q, 0, none⟩), .agg #[.int .i64 d, .int .i64 k, .int .i64 t, .int .i64 u, .int .i64 v, .string s]] w fun e w' => e = .returned (.bool true) ∧ TabAt w' p m (wakL L (textS s)) (g) ∧ RTab w' base q (wakL L (textS s)) (g) ∧ Below n w w' := by
  have HOK := Lib.hid hT.ok
  have hbr := hR.br; have hbq := hR.bq; have hql := hR.qlt; have hrl := hR.rlt
  have hn0 : n ≤ w.heap.size := by omega
  have hn16 := hT.ok.len
  have HB := Lib.hid ((Below.refl n w).alloc hn0 (.cells #[.int .i64 d, .int .i64 k, .int .i64 t, .int .i64 u, .int .i64 v, .string s] 32))
  have HT := Lib.hid (hT.alloc (.cells #[.int .i64 d, .int .i64 k, .int .i64 t, .int .i64 u, .int .i64 v, .string s] 32))
  have HR := Lib.hid (hR.below ((Below.refl _ _).alloc (Nat.le_refl _) (.cells #[.int .i64 d, .int .i64 k, .int .i64 t, .int .i64 u, .int .i64 v, .string s] 32)))
  have HS := Lib.hid hs
  have hpl := hT.p_lt; have hml := hT.m_lt
  have bA := BoxA.new w 32 #[.int .i64 d, .int .i64 k, .int .i64 t, .int .i64 u, .int .i64 v, .string s]
  have hc1 := bA.at 1 (v := .int .i64 k) rfl; have hc2 := bA.at 2 (v := .int .i64 t) rfl; have hc3 := bA.at 3 (v := .int .i64 u) rfl; have hc4 := bA.at 4 (v := .int .i64 v) rfl; have hc5 := bA.at 5 (v := .string s) rfl
  have hne : w.heap.size < (w.alloc (.cells #[.int .i64 d, .int .i64 k, .int .i64 t, .int .i64 u, .int .i64 v, .string s] 32)).heap.size := by simp
  clear hT hR hs bA
  go_enter Try.func13, Try.ntmps13
  go_wp2
  generalize w.alloc (.cells #[.int .i64 d, .int .i64 k, .int .i64 t, .int .i64 u, .int .i64 v, .string s] 32) = W0 at *
  have hW0 : w.heap.size ≤ W0.heap.size := by omega
  have hK16 : (thoseL (wakB (textS s)) L).length ≤ 16 := Nat.le_trans (thoseL_len _ _) hn16
  go_region_held3 (fun w' => w'.cell? ⟨w.heap.size, 5, none⟩ = some (.string s)) (first | exact hc5 | exact d5 | exact e5 | exact f5) (first
    | (go_at_call 24; refine (text_any s HS.out _).mono ?_; rintro e w' ⟨rfl, rfl⟩)
    | (go_at_call 22; refine (wake_any (HT.out.keep (w' := W0.drew) rfl rfl) (textS s)).mono ?_; rintro e w1 ⟨v1, rfl, hv1, h1, t1'⟩; have t1 := t1'.drew; have d5 := (t1.cell (b := w.heap.size) (o := 5) hne (by omega) (by omega)).trans hc5; have HV1 := Lib.hid (hv1.mono (n' := W0.heap.size) (Nat.le_refl _)); have HR1 := Lib.hid (HR.out.turn t1 hp hm); have H1' := Lib.hid h1; have HB1 := Lib.hid (t1.below HB.out hnp hnm (by omega)); have hs1 := Nat.lt_of_lt_of_le hne t1.size; clear h1 t1 t1' hv1)
    | (go_at_call 32; refine (rwake HR1.out HOK.out (textS s)).mono ?_; rintro e w2 ⟨v2, rfl, hv2, h2, t2⟩; have e5 := (t2.cell (b := w.heap.size) (o := 5) (by omega) (by omega) (by omega)).trans d5; have H1 := Lib.hid (H1'.out.below (t2.below (Below.refl base w1) hbq hbr (by omega)) hp hm); have HV := Lib.hid (HV1.out.turn t2 (by omega) (by omega)); have HV2 := Lib.hid (SlG.of_row hv2); have HR2 := Lib.hid h2; have HB2 := Lib.hid (t2.below HB1.out (by omega) (by omega) (by omega)); have hs2 := Nat.lt_of_lt_of_le hs1 t2.size; clear t2 h2 hv2)
    | (go_at_call 31; refine (ints6 hK16 HV.out HV2.out).mono ?_; rintro e w3 ⟨rfl, b3⟩; have f5 := (b3.cell (p := ⟨w.heap.size, 5, none⟩) (by show w.heap.size < w2.heap.size; omega)).trans e5; have H3 := Lib.hid (H1.out.below' b3); have HR3 := Lib.hid (HR2.out.below b3); have HB3 := Lib.hid (HB2.out.trans (b3.mono (by omega))); clear b3))
  go_wp2
  go_ret
  exact ⟨rfl, H3.out, HR3.out, HB3.out⟩

theorem did_any (hT : TabAt w p m L g) (hR : RT w base q r cap L g) (hp : p < base) (hm : m < base) (hnp : n ≤ p) (hnm : n ≤ m) (hci : CInv L) (hpi : PInv L) (d k t u v : Int) (s : ByteArray) (hs : s.size ≤ maxLen) :
    Calls Try.prog 13 #[.pointer (some ⟨p, 0, none⟩), .pointer (some ⟨q, 0, none⟩), .agg #[.int .i64 d, .int .i64 k, .int .i64 t, .int .i64 u, .int .i64 v, .string s]] w fun e w' => e = .returned (.bool true) ∧ TabAt w' p m (stL ((IntKind.u64.wrap d).tmod 8) k t u v s L g) (stG ((IntKind.u64.wrap d).tmod 8) k L g) ∧ RTab w' base q (stL ((IntKind.u64.wrap d).tmod 8) k t u v s L g) (stG ((IntKind.u64.wrap d).tmod 8) k L g) ∧ Below n w w' := by
  have hpos := (hpi.wait hT.ok k).pos
  unfold stL stG
  cases x0 : ((IntKind.u64.wrap d).tmod 8 == 0) with
  | true => simpa [beq_t x0] using did_fork0 hT hR hp hm hnp hnm d k t u v s hs x0
  | false =>
    cases x1 : ((IntKind.u64.wrap d).tmod 8 == 1) with
    | true => simpa [beq_t x1] using did_fork1 hT hR hp hm hnp hnm d k t u v s hs x0 x1
    | false =>
      cases x2 : ((IntKind.u64.wrap d).tmod 8 == 2) with
      | true => simpa [beq_t x2] using did_become hT hR hp hm hnp hnm d k t u v s hs x0 x1 x2
      | false =>
        cases x3 : ((IntKind.u64.wrap d).tmod 8 == 3) with
        | true => simpa [beq_t x3] using did_exit hT hR hp hm hnp hnm d k t u v s hs x0 x1 x2 x3
        | false =>
          cases x4 : ((IntKind.u64.wrap d).tmod 8 == 4) with
          | true => simpa [beq_t x4] using did_wait hT hR hp hm hnp hnm d k t u v s hs hpos x0 x1 x2 x3 x4
          | false =>
            cases x5 : ((IntKind.u64.wrap d).tmod 8 == 5) with
            | true => simpa [beq_t x5] using did_kill hT hR hp hm hnp hnm d k t u v s hs hci x0 x1 x2 x3 x4 x5
            | false =>
              cases x6 : ((IntKind.u64.wrap d).tmod 8 == 6) with
              | true => simpa [beq_t x6] using did_sleep hT hR hp hm hnp hnm d k t u v s hs x0 x1 x2 x3 x4 x5 x6
              | false =>
                simpa [beq_f x0, beq_f x1, beq_f x2, beq_f x3, beq_f x4, beq_f x5, beq_f x6] using did_wake hT hR hp hm hnp hnm d k t u v s hs x0 x1 x2 x3 x4 x5 x6
end
end Go.Proofs.Ytonllnbincgdpaa
