/- Package space: touches, Free (of a number of pages that may be), walked. -/
import Derived.Test.YtdkaaoboipphcaaSpShelf
import Derived.Test.YtdkaaoboipphcaaSpCheck
import Derived.BigQuiet
import Derived.Deep.QuietTactic
namespace Go.Proofs.Ytdkaaoboipphcaa
open Go.RowKit Go.Shelf

attribute [local go_sem] Oper.semAt_some

/-- an attachment: its page, how many, whether it may be written to; its cells. -/
abbrev AttV := Fin 10001 × Fin 10001 × Bool
def encA (x : AttV) : List Value := [.int .i64 x.1.val, .int .i64 x.2.1.val, .bool x.2.2]
/-- attachments, al they lie in the world. -/
def AttsAt (w : World) (v : Value) (al : List AttV) : Prop :=
  (al = [] ∧ v = .slice none 0 0) ∨ (0 < al.length ∧ ∃ b cap, v = .slice (some ⟨b, 0, none⟩) al.length cap ∧ b < w.heap.size ∧ ∀ j, j < al.length → ∀ i u, (encA al[j]!)[i]? = some u → w.cell? ⟨b, 0 + j * 3 + i, none⟩ = some u)
theorem AttsAt.below {w w' : World} {v : Value} {al : List AttV} (h : AttsAt w v al) (hb : Below w.heap.size w w') : AttsAt w' v al := by
  rcases h with h | ⟨h0, b, cap, h1, h2, h3⟩
  · exact .inl h
  · exact .inr ⟨h0, b, cap, h1, Nat.lt_of_lt_of_le h2 hb.size, fun j hj i u hu => (hb.cell (p := ⟨b, _, none⟩) h2).trans (h3 j hj i u hu)⟩
/-- does one of so many pages from the first one on touch it? -/
def hitA (first count : Nat) (a : AttV) : Bool := decide (a.1.val < first + count) && decide (first < a.1.val + a.2.1.val)

set_option maxRecDepth 100000 in
set_option maxHeartbeats 2000000 in
theorem touches1_nat (first count : Nat) (hf : first ≤ 10000) (hc : count ≤ 10000) (x y : Nat) (z : Bool) (ha : x ≤ 10000) (ha2 : y ≤ 10000) (bf bc : Nat) (w : World) (c1 : w.cell? ⟨bf, 0, none⟩ = some (.int .i64 first)) (c2 : w.cell? ⟨bc, 0, none⟩ = some (.int .i64 count)) :
    Calls Try.prog 44 #[.agg #[.int .i64 x, .int .i64 y, .bool z], .pointer (some ⟨bf, 0, none⟩), .pointer (some ⟨bc, 0, none⟩)] w fun e w' => e = .returned (.bool (decide (x < first + count) && decide (first < x + y))) ∧ Below w.heap.size w w' := by
  have d1 := cell_allocL (.cells #[.int .i64 x, .int .i64 y, .bool z] 66) c1
  have d2 := cell_allocL (.cells #[.int .i64 x, .int .i64 y, .bool z] 66) c2
  have HB : Hid (Below w.heap.size w (w.alloc (.cells #[.int .i64 x, .int .i64 y, .bool z] 66))) := (Below.refl _ w).alloc (Nat.le_refl _) _
  have b0 : (w.alloc (.cells #[.int .i64 x, .int .i64 y, .bool z] 66)).cell? ⟨w.heap.size, 0, none⟩ = some (.int .i64 x) := by simp
  have b1 : (w.alloc (.cells #[.int .i64 x, .int .i64 y, .bool z] 66)).cell? ⟨w.heap.size, 1, none⟩ = some (.int .i64 y) := by simp
  clear c1 c2
  by_cases h1 : x < first + count
  · have HH : Hid ((decide (x < first + count) && decide (first < x + y)) = decide ((first : Int) < (x : Int) + (y : Int))) := by
      unfold Hid
      rw [show decide (x < first + count) = true from decide_eq_true h1, Bool.true_and]
      exact decide_eq_decide.2 (by omega)
    have h2 : (x : Int) < (first : Int) + (count : Int) := by omega
    go_enter Try.func44, Try.ntmps44
    go_wp2_with fail
    go_ret
    exact ⟨by rw [HH.out]; rfl, HB.out⟩
  · have HH : Hid ((decide (x < first + count) && decide (first < x + y)) = false) := by
      unfold Hid
      rw [show decide (x < first + count) = false from decide_eq_false h1, Bool.false_and]
    have h2 : decide ((x : Int) < (first : Int) + (count : Int)) = false := decide_eq_false (by omega)
    go_enter Try.func44, Try.ntmps44
    go_wp2_with fail
    go_ret
    exact ⟨by rw [HH.out]; rfl, HB.out⟩

theorem touches_pred (first count : Nat) (hf : first ≤ 10000) (hc : count ≤ 10000) (bf bc : Nat) (w : World) (c1 : w.cell? ⟨bf, 0, none⟩ = some (.int .i64 first)) (c2 : w.cell? ⟨bc, 0, none⟩ = some (.int .i64 count)) :
    PredBelow Try.prog 44 #[.pointer (some ⟨bf, 0, none⟩), .pointer (some ⟨bc, 0, none⟩)] (fun x => .agg (encA x).toArray) (hitA first count) w := fun W x hb => by
  have hb1 := World.block_lt_of_cell? w _ c1
  have hb2 := World.block_lt_of_cell? w _ c2
  refine (touches1_nat first count hf hc x.1.val x.2.1.val x.2.2 (by have := x.1.isLt; omega) (by have := x.2.1.isLt; omega) bf bc W ((hb.cell (p := ⟨bf, 0, none⟩) hb1).trans c1) ((hb.cell (p := ⟨bc, 0, none⟩) hb2).trans c2)).mono ?_
  rintro e w' ⟨rfl, h⟩
  exact ⟨rfl, hb.trans (h.mono hb.size)⟩

set_option maxRecDepth 100000 in
set_option maxHeartbeats 2000000 in
theorem contains_nil (f : Value) (w : World) : Calls Try.prog 43 #[.slice none 0 0, f] w fun e w' => e = .returned (.bool false) ∧ w' = w := by
  go_enter Try.func43, Try.ntmps43
  go_wp2
  go_loop [8] (fun i => i = .int .i64 0) (fun _ => 0)
  case atStart => rfl
  case round =>
    subst hrel
    go_wp2
    go_ret
    exact ⟨rfl, rfl⟩

set_option maxRecDepth 100000 in
set_option maxHeartbeats 2000000 in
theorem touches_any (v : Value) (al : List AttV) (first count : Nat) (hf : first ≤ 10000) (hc : count ≤ 10000) (hlen : al.length ≤ 1000) (w : World) (ha : AttsAt w v al) :
    Calls Try.prog 28 #[v, .int .i64 first, .int .i64 count] w fun e w' => e = .returned (.bool (al.any (hitA first count))) ∧ Below w.heap.size w w' := by
  have hb1 : Below w.heap.size w ((w.alloc (.cells #[.int .i64 first] 3)).alloc (.cells #[.int .i64 count] 3)) := ((Below.refl _ w).alloc (Nat.le_refl _) _).alloc (by simp) _
  have hp := touches_pred first count hf hc w.heap.size (w.heap.size + 1) ((w.alloc (.cells #[.int .i64 first] 3)).alloc (.cells #[.int .i64 count] 3)) (by simp) (by simp)
  have HA := Lib.hid (ha.below hb1)
  rcases ha with ⟨rfl, rfl⟩ | ⟨h0, b, cap, rfl, hbl, hcl⟩
  · have HB1 := Lib.hid hb1
    clear hb1 hp HA
    go_enter Try.func28, Try.ntmps28
    go_wp2_with fail
    refine (contains_nil _ _).mono ?_
    rintro e w2 ⟨rfl, rfl⟩
    go_wp2
    go_ret
    exact ⟨rfl, HB1.out⟩
  · have hcon := AnyQ.slices_ContainsFunc Try.hasAtt 3 Try.isAgg66 Try.sizeOf66 encA (fun _ => rfl) (hitA first count) 44 _ (enters_of Try.func44 (by kernel_rfl) rfl) b 0 al.length cap al _ hp (Nat.le_refl _) (by omega) (by have := hb1.size; omega) (fun j hj i u hu => (hb1.cell (p := ⟨b, _, none⟩) hbl).trans (hcl j hj i u hu))
    rw [List.take_length] at hcon
    change Calls Try.prog 43 _ _ _ at hcon
    have HCON := Lib.hid hcon; have HB1 := Lib.hid hb1
    clear hcon hb1 hp HA hcl
    generalize al.any (hitA first count) = r at HCON ⊢
    go_enter Try.func28, Try.ntmps28
    go_wp2_with fail
    refine HCON.out.mono ?_
    rintro e w2 ⟨rfl, hB2⟩
    have HB2 := Lib.hid (HB1.out.trans (hB2.mono HB1.out.size))
    clear hB2
    go_wp2
    go_ret
    exact ⟨rfl, HB2.out⟩

end Go.Proofs.Ytdkaaoboipphcaa
