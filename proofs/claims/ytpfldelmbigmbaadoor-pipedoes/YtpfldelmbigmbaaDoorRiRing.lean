/- Package ring, as functions on the bytes that a ring holds: New, Put, Get, Len, Room, Bytes. -/
import Derived.Test.YtpfldelmbigmbaaDoorRiGet
import Derived.ScopeJumps
namespace Go.Proofs.YtpfldelmbigmbaaDoor
open Go.RowKit Go.Shelf Go.Lib

/-- the ring at q, of n places, holds L. -/
def Rg (w : World) (q n : Nat) (L : List UInt8) : Prop :=
  n ≤ 64 ∧ L.length ≤ n ∧ ∃ X fa fo, fa < n ∧ RAt w q X n fa fo (advA n fa L.length) (advO n fa L.length fo) ∧ Holds n fa X L
section
variable {w w' : World} {q n m : Nat} {L : List UInt8}
theorem Rg.lt (h : Rg w q n L) : q < w.heap.size := by obtain ⟨_, _, X, fa, fo, _, hR, _⟩ := h; exact hR.lt
theorem Rg.keep (h : Rg w q n L) (e : w'.heap[q]? = w.heap[q]?) : Rg w' q n L := by
  obtain ⟨h1, h2, X, fa, fo, h3, hR, h4⟩ := h
  exact ⟨h1, h2, X, fa, fo, h3, hR.keep e, h4⟩
theorem Rg.below' (h : Rg w q n L) (hb : Below w.heap.size w w') : Rg w' q n L := h.keep (hb.block q h.lt)
theorem Rg.below (h : Rg w q n L) (hb : Below m w w') (h1 : q < m) : Rg w' q n L := h.keep (hb.block q h1)
theorem Rg.tur {p : Nat} (h : Rg w q n L) (hb : Tur p w w') (hne : q ≠ p) : Rg w' q n L := h.keep (hb.block q h.lt hne)
theorem Rg.drew (h : Rg w q n L) : Rg w.drew q n L := h.keep rfl
theorem Rg.le (h : Rg w q n L) : L.length ≤ n := h.2.1
theorem Rg.n64 (h : Rg w q n L) : n ≤ 64 := h.1

theorem rnew (n : Nat) (h1 : 1 ≤ n) (h2 : n ≤ 64) (w : World) : Calls Tryd.prog 25 #[.int .i64 (n : Int)] w fun e w' => e = .returned (.tuple #[.pointer (some ⟨w.heap.size, 0, none⟩), .int .i64 0]) ∧ Rg w' w.heap.size n [] ∧ Below w.heap.size w w' := by
  refine (new_ok n h1 h2 w).mono ?_
  rintro e w' ⟨rfl, hR, hB⟩
  refine ⟨rfl, ⟨h2, Nat.zero_le _, List.replicate 64 0, 0, false, by omega, ?_, fun i x hx => by simp at hx⟩, hB⟩
  have e1 : advA n 0 ([] : List UInt8).length = 0 := by unfold advA; simp
  have e2 : advO n 0 ([] : List UInt8).length false = false := by unfold advO; simp; omega
  rw [e1, e2]
  exact hR

theorem rlen (h : Rg w q n L) : Calls Tryd.prog 34 #[.pointer (some ⟨q, 0, none⟩)] w fun e w' => e = .returned (.int .i64 (L.length : Int)) ∧ Below w.heap.size w w' := by
  obtain ⟨hn, hL, X, fa, fo, hfa, hR, _⟩ := h
  have := len_any hR hn (by omega) (by have := advA_lt hfa hL; omega)
  rw [apart_adv] at this
  exact this
theorem rroom (h : Rg w q n L) : Calls Tryd.prog 39 #[.pointer (some ⟨q, 0, none⟩)] w fun e w' => e = .returned (.int .i64 ((n - L.length : Nat) : Int)) ∧ Below w.heap.size w w' := by
  obtain ⟨hn, hL, X, fa, fo, hfa, hR, _⟩ := h
  have := room_any hR hn (by omega) (by have := advA_lt hfa hL; omega)
  rw [apart_brim hL] at this
  exact this

theorem rput (h : Rg w q n L) (S : ByteArray) (hS : S.size ≤ 140737488355328) : Calls Tryd.prog 30 #[.pointer (some ⟨q, 0, none⟩), .string S] w fun e w' =>
    e = .returned (.tuple #[.int .i64 ((min S.size (n - L.length) : Nat) : Int), .int .i64 0]) ∧ Rg w' q n (L ++ S.data.toList.take (n - L.length)) ∧ Tur q w w' := by
  obtain ⟨hn, hL, X, fa, fo, hfa, hR, hH⟩ := h
  have hla := advA_lt hfa hL
  have e1 : advA n (advA n fa L.length) (n - L.length) = fa := by
    rw [advA_add hfa (by omega), show L.length + (n - L.length) = n by omega]
    unfold advA; rw [if_neg (by omega)]; omega
  have e2 : advO n (advA n fa L.length) (n - L.length) (advO n fa L.length fo) = !fo := by
    rw [advO_add hfa (by omega), show L.length + (n - L.length) = n by omega]
    unfold advO; rw [if_neg (by omega)]
  refine (callsIn_wide.1 (put_in hR hn hla (n - L.length) (by omega) e1.symm e2.symm S hS)).mono ?_
  rintro e w' ⟨ini, hi, hs, rfl, hR', hT⟩
  obtain ⟨P, _⟩ := put_end (o := fo) hn hfa hR.len hL hH ini hi hs
  have hsz : S.data.toList.length = S.size := (Lib.size_eq S).symm
  generalize ini.foldl putP ⟨X, S.data.toList, []⟩ = s at *
  rw [hsz] at P
  have ht : S.data.toList.take (n - L.length) = S.data.toList.take (min S.size (n - L.length)) := by
    by_cases c : n - L.length ≤ S.size
    · rw [Nat.min_eq_right c]
    · rw [Nat.min_eq_left (by omega), List.take_of_length_le (by omega), List.take_of_length_le (by omega)]
  have hlen : (L ++ S.data.toList.take (n - L.length)).length = L.length + min S.size (n - L.length) := by rw [ht, List.length_append, List.length_take, hsz]; omega
  refine ⟨?_, ⟨hn, by rw [hlen]; omega, s.X, fa, fo, hfa, ?_, by rw [ht]; exact P.holds⟩, hT⟩
  · rw [P.rest, List.length_drop, hsz, show (S.size : Int) - ((S.size - min S.size (n - L.length) : Nat) : Int) = ((min S.size (n - L.length) : Nat) : Int) by omega]
  · rw [P.st] at hR'
    rw [hlen]
    exact hR'

theorem rget (h : Rg w q n L) (N : Nat) (hN : N ≤ 9223372036854775807) : Calls Tryd.prog 28 #[.pointer (some ⟨q, 0, none⟩), .int .i64 (N : Int)] w fun e w' =>
    e = .returned (.tuple #[.string ⟨(L.take N).toArray⟩, .int .i64 0]) ∧ Rg w' q n (L.drop N) ∧ Tur q w w' := by
  obtain ⟨hn, hL, X, fa, fo, hfa, hR, hH⟩ := h
  refine (callsIn_wide.1 (get_in hR hn hfa L.length hL rfl rfl N hN)).mono ?_
  rintro e w' ⟨ini, hi, hs, rfl, hR', hT⟩
  obtain ⟨P, _⟩ := get_end (o := fo) hn hfa hR.len hL hH ini hi hs
  generalize ini.foldl (getP N) ⟨X, [], []⟩ = s at *
  obtain ⟨j, hj⟩ : ∃ j, min N L.length = j := ⟨_, rfl⟩
  rw [hj] at P
  have ht : L.take N = L.take j := by
    by_cases c : N ≤ L.length
    · rw [show j = N by omega]
    · rw [List.take_of_length_le (by omega), List.take_of_length_le (by omega)]
  have hd : L.drop N = L.drop j := by
    by_cases c : N ≤ L.length
    · rw [show j = N by omega]
    · rw [List.drop_eq_nil_of_le (by omega), List.drop_eq_nil_of_le (by omega)]
  have hlen : (L.drop j).length = L.length - j := List.length_drop
  refine ⟨by rw [P.got, ht], ⟨hn, by rw [hd, hlen]; omega, s.X, advA n fa j, advO n fa j fo, advA_lt hfa (by omega), ?_, by rw [hd]; exact holds_drop hL hfa P.holds⟩, hT⟩
  rw [P.st] at hR'
  rw [hd, hlen, advA_add hfa (by omega), advO_add hfa (by omega), show j + (L.length - j) = L.length by omega]
  exact hR'

set_option maxRecDepth 100000 in
set_option maxHeartbeats 1000000 in
theorem put_nil (S : ByteArray) (w : World) : Calls Tryd.prog 30 #[.pointer none, .string S] w fun e w' => e = .returned (.tuple #[.int .i64 0, .int .i64 1]) ∧ Below w.heap.size w w' := by
  refine (callsIn_wide (n := 2)).1 (callsIn_of_wp_marks Tryd.func30 rfl trivial ?_ rfl)
  simp only [Tryd.ntmps30, List.size_toArray, List.length_cons, List.length_nil, Nat.reduceAdd, Nat.reduceSub, Array.replicate_succ, Array.replicate_zero, List.push_toArray, List.append_toArray, List.nil_append, List.cons_append]
  gi_wp2
  refine wpIn_scope' ?_
  gi_wp2
  rw [Exit.noGoto_ret]
  exact ⟨_, by simp [results, Tryd.results30, go_sem], rfl, Below.refl _ _⟩

set_option maxRecDepth 100000 in
set_option maxHeartbeats 1000000 in
theorem get_nil (N : Int) (w : World) : Calls Tryd.prog 28 #[.pointer none, .int .i64 N] w fun e w' => e = .returned (.tuple #[.string ⟨#[]⟩, .int .i64 1]) ∧ Below w.heap.size w w' := by
  refine (callsIn_wide (n := 2)).1 (callsIn_of_wp_marks Tryd.func28 rfl trivial ?_ rfl)
  simp only [Tryd.ntmps28, List.size_toArray, List.length_cons, List.length_nil, Nat.reduceAdd, Nat.reduceSub, Array.replicate_succ, Array.replicate_zero, List.push_toArray, List.append_toArray, List.nil_append, List.cons_append]
  have HB := Lib.hid ((((Below.refl w.heap.size w).alloc (Nat.le_refl _) (.cells #[.int .i64 N] 3)).alloc (by simp) (.cells #[.slice none 0 0] 72)).alloc (by simp; omega) (.cells #[.slice none 0 0] 73))
  have bG0 := (Boxed.new (w.alloc (.cells #[.int .i64 N] 3)) 72 (.slice none 0 0)).alloc (.cells #[.slice none 0 0] 73)
  simp only [World.size_alloc] at bG0
  have HG := Lib.hid bG0
  clear bG0
  gi_wp2
  refine wpIn_wide.2 ?_
  refine wp_scope_jumps 0 (fun a w1 => a = { tmps := #[.pointer none, .int .i64 N, undef, .pointer (some ⟨w.heap.size, 0, none⟩), .string ⟨#[]⟩, .int .i64 0, .pointer (some ⟨w.heap.size + 1, 0, none⟩), .pointer (some ⟨w.heap.size + 1 + 1, 0, none⟩), .int .i64 1, undef, .bool true, .pointer none, .bool true, undef, undef, undef, undef, undef, undef, undef, undef, undef, undef, undef, undef, undef, undef, undef, undef, undef, undef, undef, undef, undef, undef, undef, undef, undef, undef, undef, undef, undef, undef, undef, undef, undef, undef, undef, undef, undef, undef, undef, undef, undef, undef, undef, undef, undef, undef, undef, undef, undef], defers := [] } ∧ w1 = ((w.alloc (.cells #[.int .i64 N] 3)).alloc (.cells #[.slice none 0 0] 72)).alloc (.cells #[.slice none 0 0] 73)) (fun _ _ => 0) (by rfl) ?first ?pass
  case first =>
    go_wp2
    go_step3
    exact ⟨rfl, rfl, rfl⟩
  case pass =>
    rintro a w1 ⟨rfl, hw1⟩
    have bG : Boxed w1 (w.heap.size + 1) 72 (.slice none 0 0) := by rw [hw1]; exact HG.out
    have HB1 : Hid (Below w.heap.size w w1) := by rw [hw1]; exact HB.out
    clear hw1
    have c1 := bG.cell
    have hcv := conv_row (W := w1) (base := 0) (k := 0) (l := []) (World.ownsRow_nil _ _ _ _) rfl
    clear bG
    go_wp2
    exact ⟨_, by simp [results, Tryd.results28, go_sem], rfl, HB1.out⟩

set_option maxRecDepth 100000 in
set_option maxHeartbeats 1000000 in
theorem get_neg (q : Nat) (N : Int) (w : World) (hN : N < 0) : Calls Tryd.prog 28 #[.pointer (some ⟨q, 0, none⟩), .int .i64 N] w fun e w' => e = .returned (.tuple #[.string ⟨#[]⟩, .int .i64 2]) ∧ Below w.heap.size w w' := by
  refine (callsIn_wide (n := 2)).1 (callsIn_of_wp_marks Tryd.func28 rfl trivial ?_ rfl)
  simp only [Tryd.ntmps28, List.size_toArray, List.length_cons, List.length_nil, Nat.reduceAdd, Nat.reduceSub, Array.replicate_succ, Array.replicate_zero, List.push_toArray, List.append_toArray, List.nil_append, List.cons_append]
  have HB := Lib.hid ((((Below.refl w.heap.size w).alloc (Nat.le_refl _) (.cells #[.int .i64 N] 3)).alloc (by simp) (.cells #[.slice none 0 0] 72)).alloc (by simp; omega) (.cells #[.slice none 0 0] 73))
  have bG0 := (Boxed.new (w.alloc (.cells #[.int .i64 N] 3)) 72 (.slice none 0 0)).alloc (.cells #[.slice none 0 0] 73)
  simp only [World.size_alloc] at bG0
  have HG := Lib.hid bG0
  clear bG0
  have cN := ((Boxed.new w 3 (.int .i64 N)).alloc (.cells #[.slice none 0 0] 72)).alloc (.cells #[.slice none 0 0] 73) |>.cell
  gi_wp2
  refine wpIn_wide.2 ?_
  refine wp_scope_jumps 0 (fun a w1 => a = { tmps := #[.pointer (some ⟨q, 0, none⟩), .int .i64 N, undef, .pointer (some ⟨w.heap.size, 0, none⟩), .string ⟨#[]⟩, .int .i64 0, .pointer (some ⟨w.heap.size + 1, 0, none⟩), .pointer (some ⟨w.heap.size + 1 + 1, 0, none⟩), .int .i64 2, undef, .bool false, .pointer (some ⟨q, 0, none⟩), .bool false, .bool true, .int .i64 N, .bool true, undef, undef, undef, undef, undef, undef, undef, undef, undef, undef, undef, undef, undef, undef, undef, undef, undef, undef, undef, undef, undef, undef, undef, undef, undef, undef, undef, undef, undef, undef, undef, undef, undef, undef, undef, undef, undef, undef, undef, undef, undef, undef, undef, undef, undef, undef], defers := [] } ∧ w1 = ((w.alloc (.cells #[.int .i64 N] 3)).alloc (.cells #[.slice none 0 0] 72)).alloc (.cells #[.slice none 0 0] 73)) (fun _ _ => 0) (by rfl) ?first ?pass
  case first =>
    go_wp2
    go_step3
    exact ⟨rfl, rfl, rfl⟩
  case pass =>
    rintro a w1 ⟨rfl, hw1⟩
    have bG : Boxed w1 (w.heap.size + 1) 72 (.slice none 0 0) := by rw [hw1]; exact HG.out
    have HB1 : Hid (Below w.heap.size w w1) := by rw [hw1]; exact HB.out
    clear hw1
    have c1 := bG.cell
    have hcv := conv_row (W := w1) (base := 0) (k := 0) (l := []) (World.ownsRow_nil _ _ _ _) rfl
    clear bG
    go_wp2
    exact ⟨_, by simp [results, Tryd.results28, go_sem], rfl, HB1.out⟩

end
end Go.Proofs.YtpfldelmbigmbaaDoor
