/- Package ring: New, Len, Room, stretches, walked; what apart comes to. -/
import Derived.Test.YtpfldelmbigmbaaDoorRiLeaf
import Derived.Test.YtpfldelmbigmbaaDoorRiIn
namespace Go.Proofs.YtpfldelmbigmbaaDoor
open Go.RowKit

theorem apart_adv {n a k : Nat} {o : Bool} : apartI n a o (advA n a k) (advO n a k o) = (k : Int) := by
  unfold apartI advA advO
  by_cases c : a + k < n
  · rw [if_pos c, if_pos c, if_pos rfl]; omega
  · rw [if_neg c, if_neg c, if_neg (by simp)]; omega
theorem apart_brim {n a k : Nat} {o : Bool} (hk : k ≤ n) : apartI n (advA n a k) (advO n a k o) a (!o) = ((n - k : Nat) : Int) := by
  unfold apartI advA advO
  by_cases c : a + k < n
  · rw [if_pos c, if_pos c, if_neg (by simp)]; omega
  · rw [if_neg c, if_neg c, if_pos rfl]; omega

section
variable {w : World} {q n fa la : Nat} {fo lo : Bool} {X : List UInt8}

theorem RAt.drew (h : RAt w q X n fa fo la lo) : RAt w.drew q X n fa fo la lo := h.keep rfl

def zeroRing : List Value := ringCells (List.replicate 64 0) 0 0 false 0 false
theorem zero_ring (w : World) : (zeroValue 70).run Tryd.prog w = .ok (.agg zeroRing.toArray) w := by
  have h : (Tryd.prog.info? 70).map (·.zero) = some (some (.agg zeroRing.toArray)) := by kernel_rfl
  obtain ⟨i, hi, hz⟩ := Option.map_eq_some_iff.1 h
  simp [zeroValue, typeInfo, hi, hz]

set_option maxRecDepth 100000 in
set_option maxHeartbeats 4000000 in
theorem new_ok (n : Nat) (h1 : 1 ≤ n) (h2 : n ≤ 64) (w : World) : Calls Tryd.prog 25 #[.int .i64 (n : Int)] w fun e w' => e = .returned (.tuple #[.pointer (some ⟨w.heap.size, 0, none⟩), .int .i64 0]) ∧ RAt w' w.heap.size (List.replicate 64 0) n 0 false 0 false ∧ Below w.heap.size w w' := by
  have hz := zero_ring
  have e1 : ¬ ((n : Int) < 1) := by omega
  have e2 : ¬ (64 < (n : Int)) := by omega
  go_enter Tryd.func25, Tryd.ntmps25
  go_wp2
  go_ret2
  exact ⟨rfl, ⟨(heap_alloc_new _ _).trans (by rfl), by simp⟩, (Below.refl _ _).alloc (Nat.le_refl _) _⟩

set_option maxRecDepth 100000 in
set_option maxHeartbeats 1000000 in
theorem len_any (h : RAt w q X n fa fo la lo) (hn : n ≤ 64) (ha : fa ≤ 64) (hb : la ≤ 64) : Calls Tryd.prog 34 #[.pointer (some ⟨q, 0, none⟩)] w fun e w' => e = .returned (.int .i64 (apartI n fa fo la lo)) ∧ Below w.heap.size w w' := by
  have c5 := h.c65; have c6 := h.c66; have c7 := h.c67; have c8 := h.c68
  have hq := h.lt
  have H := Lib.hid h.drew
  have A := Lib.hid (apart_any (so := fo) (to := lo) H.out hn ha hb)
  clear h
  generalize apartI n fa fo la lo = r at *
  go_enter Tryd.func34, Tryd.ntmps34
  go_wp2
  go_region_held3 (fun w' => w'.cell? ⟨q, 65, none⟩ = some (.int .i64 (fa : Int)) ∧ w'.cell? ⟨q, 66, none⟩ = some (.bool fo) ∧ w'.cell? ⟨q, 67, none⟩ = some (.int .i64 (la : Int)) ∧ w'.cell? ⟨q, 68, none⟩ = some (.bool lo)) (first | exact S1 | go_keep)
    ((go_at_call 42; refine A.out.mono ?_; rintro e w1 ⟨rfl, hB⟩; have H1 := H.out.below' hB; have S1 := And.intro H1.c65 (And.intro H1.c66 (And.intro H1.c67 H1.c68)); have HB1 := Lib.hid (drew_below' (show Below w.heap.size w.drew w1 from hB)); clear hB H1))
  go_wp2
  go_ret
  exact ⟨rfl, HB1.out⟩

set_option maxRecDepth 100000 in
set_option maxHeartbeats 1000000 in
theorem room_any (h : RAt w q X n fa fo la lo) (hn : n ≤ 64) (ha : fa ≤ 64) (hb : la ≤ 64) : Calls Tryd.prog 39 #[.pointer (some ⟨q, 0, none⟩)] w fun e w' => e = .returned (.int .i64 (apartI n la lo fa (!fo))) ∧ Below w.heap.size w w' := by
  have c7 := h.c67; have c8 := h.c68
  have hq := h.lt
  have H := Lib.hid h
  clear h
  go_enter Tryd.func39, Tryd.ntmps39
  go_wp2
  go_region_held3 (fun w' => w'.cell? ⟨q, 67, none⟩ = some (.int .i64 (la : Int)) ∧ w'.cell? ⟨q, 68, none⟩ = some (.bool lo)) (first | exact S2 | exact S1 | go_keep)
    (first
      | (go_at_call 40; refine (brim_any H.out.drew).mono ?_; rintro e w1 ⟨rfl, hB⟩; have H1 := H.out.drew.below' hB; have S1 := And.intro H1.c67 H1.c68; have HB1 := Lib.hid (drew_below' (show Below w.heap.size w.drew w1 from hB)); have HH1 := Lib.hid H1; clear hB H1)
      | (go_at_call 42; refine (apart_any (so := lo) (to := !fo) HH1.out hn hb ha).mono ?_; rintro e w2 ⟨rfl, hB⟩; have H2 := HH1.out.below' hB; have S2 := And.intro H2.c67 H2.c68; have HB2 := Lib.hid (HB1.out.trans (hB.mono HB1.out.size)); clear hB H2))
  go_wp2
  go_ret
  exact ⟨rfl, HB2.out⟩

set_option maxHeartbeats 400000 in
theorem len_nil (w : World) : Calls Tryd.prog 34 #[.pointer none] w fun e w' => e = .returned (.int .i64 0) ∧ w' = w := by
  go_enter Tryd.func34, Tryd.ntmps34
  go_wp2
  go_ret
  exact ⟨rfl, rfl⟩
set_option maxHeartbeats 400000 in
theorem room_nil (w : World) : Calls Tryd.prog 39 #[.pointer none] w fun e w' => e = .returned (.int .i64 0) ∧ w' = w := by
  go_enter Tryd.func39, Tryd.ntmps39
  go_wp2
  go_ret
  exact ⟨rfl, rfl⟩
end
end Go.Proofs.YtpfldelmbigmbaaDoor
