/- Package files: New, number, keep, refer, walked. -/
import Derived.Test.YtfgigofmmapbmaaFiMem
import Derived.Laws.StructEq
namespace Go.Proofs.Ytfgigofmmapbmaa
open Go.RowKit Go.MapKept

section
variable {P : Program}
theorem eq_items9 {w : World} (d : Nat) {e : TypeId} (hu : P.underlying e = some (.int .i64)) (xs ys : Array Value) (f g : Nat → Int) :
    ∀ is : List Nat, (∀ i ∈ is, xs[i]? = some (.int .i64 (f i)) ∧ ys[i]? = some (.int .i64 (g i))) →
      (Op.eqItems (d + 1) e 1 xs ys is).run P w = .ok (is.all fun i => f i == g i) w
  | [], _ => by simp [Op.eqItems]
  | i :: is, h => by
    obtain ⟨hx, hy⟩ := h i (by simp)
    have ih := eq_items9 (w := w) d hu xs ys f g is (fun j hj => h j (by simp [hj]))
    have hag : (isAgg e).run P w = .ok false w := by
      unfold isAgg
      rw [Sem.run_bind, run_underlying hu w]
      simp
    have px : (part e xs i).run P w = .ok (.int .i64 (f i)) w := by simp [part, Sem.run_bind, hag, hx]
    have py : (part e ys i).run P w = .ok (.int .i64 (g i)) w := by simp [part, Sem.run_bind, hag, hy]
    simp only [Op.eqItems, Nat.mul_one, Sem.run_bind, px, py, Result.andThen_ok, run_equalIn_int w d e .i64 .i64 _ _ hu]
    cases hc : f i == g i
    · simp [hc]
    · simp only [Bool.not_true, Bool.false_eq_true, if_false, ih, List.all_cons, hc, Bool.true_and]
end

theorem Try.info_int : (Try.prog.info? 3).isSome = true := by kernel_rfl
theorem Try.cells_int : Try.prog.cellsOf 3 = 1 := by kernel_rfl
theorem row_eq9 {w : World} {a b : Fds} (ha : a.length = 8) (hb : b.length = 8) : (Op.equalIn 10000 73 (rowV a) (rowV b)).run Try.prog w = .ok (decide (a = b)) w := by
  obtain ⟨i, hi⟩ := Option.isSome_iff_exists.1 Try.info_int
  unfold rowV
  rw [run_equalIn_array w 9999 _ _ Try.underlying73 hi, Try.cells_int]
  rw [eq_items9 9998 Try.underlying3 _ _ (fun i => a[i]?.getD 0) (fun i => b[i]?.getD 0) (List.range 8) (fun j hj => by
    have hj' := List.mem_range.1 hj
    have h1 : j < a.length := by omega
    have h2 : j < b.length := by omega
    simp [h1, h2])]
  congr 1
  rw [Bool.eq_iff_iff]
  simp only [List.all_eq_true, List.mem_range, beq_iff_eq, decide_eq_true_eq]
  constructor
  · intro hh
    apply List.ext_getElem (by omega)
    intro i h1 h2
    have := hh i (by omega)
    simpa [h1, h2] using this
  · rintro rfl i _
    rfl
theorem eql_row {w : World} {a b : Fds} (ha : a.length = 8) (hb : b.length = 8) : (binOp .eql 73 (rowV a) (rowV b)).run Try.prog w = .ok (.bool (decide (a = b))) w := by
  have := row_eq9 (w := w) ha hb
  unfold rowV at *
  rw [run_eql_struct, this]; rfl
theorem neq_row {w : World} {a b : Fds} (ha : a.length = 8) (hb : b.length = 8) : (binOp .neq 73 (rowV a) (rowV b)).run Try.prog w = .ok (.bool (!decide (a = b))) w := by
  have := row_eq9 (w := w) ha hb
  unfold rowV at *
  rw [run_neq_struct, this]; rfl
theorem eight {h : Fds} (hl : h.length = 8) : ∃ a0 a1 a2 a3 a4 a5 a6 a7, h = [a0, a1, a2, a3, a4, a5, a6, a7] := by
  match h, hl with
  | [a0, a1, a2, a3, a4, a5, a6, a7], _ => exact ⟨a0, a1, a2, a3, a4, a5, a6, a7, rfl⟩
theorem rowV_at {h : Fds} {d : Nat} {a : Int} (e : h[d]? = some a) : ((h.map (Value.int .i64)).toArray)[d]? = some (.int .i64 a) := by simp [e]

set_option maxRecDepth 100000 in
set_option maxHeartbeats 1000000 in
theorem index_row {w : World} {h : Fds} {j : Nat} {a : Int} (hj : j < 8) (e : h[j]? = some a) : (Instr.index 73 (rowV h) (.int .i64 (j : Int))).run Try.prog w = .ok (.int .i64 a) w := by
  obtain ⟨i, hi⟩ := Option.isSome_iff_exists.1 Try.info_int
  have hs : (sizeOf 3).run Try.prog w = .ok 1 w := by kernel_rfl
  unfold rowV Instr.index
  simp only [Sem.run_bind, asIntOf, Sem.run_pure, Result.andThen_ok, run_underlying Try.underlying73]
  rw [if_pos (by omega)]
  simp [Sem.run_bind, hs, part, e]

theorem zero_files : ∀ w, (zeroValue 62).run Try.prog w = .ok (.agg (filesV (List.replicate 32 OF.zero) none)) w := fun w => by kernel_rfl
set_option maxRecDepth 100000 in
set_option maxHeartbeats 1000000 in
theorem fi_new (w : World) : Calls Try.prog 11 #[] w fun e w' => e = .returned (.pointer (some ⟨w.heap.size, 0, none⟩)) ∧ FM w' w.heap.size none (List.replicate 32 OF.zero) [] ∧ Below w.heap.size w w' := by
  have hz := zero_files
  have hB := BoxA.new w 62 (filesV (List.replicate 32 OF.zero) none)
  have HF := Lib.hid (show FM (w.alloc (.cells (filesV (List.replicate 32 OF.zero) none) 62)) w.heap.size none (List.replicate 32 OF.zero) [] from ⟨hB, rfl, .inl ⟨rfl, rfl⟩, ⟨List.Pairwise.nil, fun _ h => by cases h⟩⟩)
  clear hB
  go_enter Try.func11, Try.ntmps11
  go_wp2
  go_ret
  exact ⟨rfl, HF.out, (Below.refl _ w).alloc (Nat.le_refl _) _⟩

def numE (D : List (Int × Fds)) (P d : Int) : Int := if P < 1 then 2 else if d < 0 ∨ 8 ≤ d then 80 else if (rowD D P)[d.toNat]? = some 0 then 80 else 0
def numN (D : List (Int × Fds)) (P d : Int) : Int := if numE D P d = 0 then (rowD D P)[d.toNat]?.getD 0 else 0
section
variable {w : World} {p : Nat} {m : Option Nat} {F : List OF} {D : List (Int × Fds)}

set_option maxRecDepth 100000 in
set_option maxHeartbeats 1000000 in
theorem number_any (h : FM w p m F D) (P d : Int) : Calls Try.prog 30 #[.pointer (some ⟨p, 0, none⟩), .int .i64 P, .int .i64 d] w fun e w' => e = .returned (.tuple #[.int .i64 (numN D P d), .int .i64 (numE D P d)]) ∧ w' = w := by
  have cm := h.cm
  have hl := h.mp.lookup h.ok P
  have h8 := rowD_len h.ok P
  clear h
  unfold numN
  by_cases hP : P < 1
  · have hE : numE D P d = 2 := by unfold numE; rw [if_pos hP]
    rw [hE, if_neg (by decide)]
    go_enter Try.func30, Try.ntmps30
    go_wp2
    exact bodyPost_ret (v := (.tuple #[.int .i64 0, .int .i64 2])) (by simp [results, Try.results30, go_sem]) rfl ⟨rfl, rfl⟩
  by_cases h1 : d < 0
  · have hE : numE D P d = 80 := by unfold numE; rw [if_neg hP, if_pos (.inl h1)]
    rw [hE, if_neg (by decide)]
    go_enter Try.func30, Try.ntmps30
    go_wp2
    exact bodyPost_ret (v := (.tuple #[.int .i64 0, .int .i64 80])) (by simp [results, Try.results30, go_sem]) rfl ⟨rfl, rfl⟩
  by_cases h2 : 8 ≤ d
  · have hE : numE D P d = 80 := by unfold numE; rw [if_neg hP, if_pos (.inr h2)]
    rw [hE, if_neg (by decide)]
    go_enter Try.func30, Try.ntmps30
    go_wp2
    exact bodyPost_ret (v := (.tuple #[.int .i64 0, .int .i64 80])) (by simp [results, Try.results30, go_sem]) rfl ⟨rfl, rfl⟩
  obtain ⟨j, rfl⟩ : ∃ j : Nat, d = j := ⟨d.toNat, by omega⟩
  have hj : j < 8 := by omega
  obtain ⟨a, ha⟩ : ∃ a, (rowD D P)[j]? = some a := ⟨_, List.getElem?_eq_getElem (by omega)⟩
  have hE : numE D P j = if a = 0 then 80 else 0 := by unfold numE; rw [if_neg hP, if_neg (by omega), Int.toNat_natCast, ha]; by_cases c : a = 0 <;> simp [c]
  have hN : (rowD D P)[((j : Int)).toNat]?.getD 0 = a := by rw [Int.toNat_natCast, ha]; rfl
  have hat : ∀ w : World, (Instr.index 73 (rowV (rowD D P)) (.int .i64 (j : Int))).run Try.prog w = .ok (.int .i64 a) w := fun w => index_row hj ha
  rw [hE, hN]
  have HE := Lib.hid hE; have HN := Lib.hid hN; have HA := Lib.hid ha; have H8 := Lib.hid h8
  clear hE hN ha h8
  by_cases c : a = 0
  · subst c
    rw [if_pos rfl, if_neg (by decide)]
    go_enter Try.func30, Try.ntmps30
    go_wp2
    exact bodyPost_ret (v := (.tuple #[.int .i64 0, .int .i64 80])) (by simp [results, Try.results30, go_sem]) rfl ⟨rfl, rfl⟩
  · have hb : (a == 0) = false := by simpa using c
    rw [if_neg c, if_pos rfl]
    go_enter Try.func30, Try.ntmps30
    go_wp2
    exact bodyPost_ret (v := (.tuple #[.int .i64 a, .int .i64 0])) (by simp [results, Try.results30, go_sem]) rfl ⟨rfl, rfl⟩
end
end Go.Proofs.Ytfgigofmmapbmaa
