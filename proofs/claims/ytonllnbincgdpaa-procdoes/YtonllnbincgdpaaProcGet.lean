/- Package proc: New, Get, running, walked. -/
import Derived.Test.YtonllnbincgdpaaProcChange
namespace Go.Proofs.Ytonllnbincgdpaa
open Go.RowKit Go.MapKept

/-- a process's block. -/
abbrev pO (q : PV) : Obj := .cells q.cells 39
def getE (L : List PV) (k : Int) : Int := if (getL L k).isSome then 0 else 60
def runQ (L : List PV) (k : Int) : PV := if runE L k = 0 then atL L k else PV.zero
theorem atL_none {L : List PV} {k : Int} (h : getL L k = none) : atL L k = PV.zero := by unfold atL; rw [h]; rfl

set_option maxRecDepth 100000 in
set_option maxHeartbeats 1000000 in
theorem get_nil (k : Int) (w : World) : Calls Try.prog 15 #[.pointer none, .int .i64 k] w fun e w' => e = .returned (.tuple #[PV.zero.val, .int .i64 1]) ∧ w' = w.alloc (pO PV.zero) := by
  go_enter Try.func15, Try.ntmps15
  go_wp2
  exact bodyPost_ret (v := .tuple #[.agg z8, .int .i64 1]) (by simp [results, Try.results15, go_sem]) rfl ⟨rfl, rfl⟩

set_option maxRecDepth 100000 in
set_option maxHeartbeats 1000000 in
theorem run_nil (k : Int) (w : World) : Calls Try.prog 35 #[.pointer none, .int .i64 k] w fun e w' => e = .returned (.tuple #[PV.zero.val, .int .i64 1]) ∧ Below w.heap.size w w' := by
  go_enter Try.func35, Try.ntmps35
  go_wp2_with (go_at_call 15; refine (get_nil _ _).mono ?_; rintro e w' ⟨rfl, rfl⟩; unfold pO PV.val PV.cells PV.zero; dsimp only)
  exact bodyPost_ret (v := .tuple #[.agg z8, .int .i64 1]) (by simp [results, Try.results35, go_sem]) rfl ⟨rfl, (((Below.refl _ _).alloc (Nat.le_refl _) _).alloc (by simp) _).alloc (by simp; omega) _⟩

section
variable {w : World} {p m : Nat} {L : List PV} {g : Int}

set_option maxRecDepth 100000 in
set_option maxHeartbeats 1000000 in
theorem get_eq (hW : TabAt w p m L g) (k : Int) : Calls Try.prog 15 #[.pointer (some ⟨p, 0, none⟩), .int .i64 k] w fun e w' => e = .returned (.tuple #[(atL L k).val, .int .i64 (getE L k)]) ∧ w' = (w.alloc (pO (atL L k))).alloc (pO (atL L k)) := by
  have hlk := (hW.alloc (.cells z8 39)).mp.lookup k true
  have c0 := (hW.alloc (.cells z8 39)).c0
  rw [if_pos rfl] at hlk
  unfold getE
  cases e : getL L k with
  | none =>
    rw [atL_none e] at hlk ⊢
    rw [e] at hlk
    unfold PV.val PV.cells PV.zero at *
    dsimp only at *
    simp only [Option.isSome_none] at *
    go_enter Try.func15, Try.ntmps15
    go_wp2
    exact bodyPost_ret (v := .tuple #[.agg z8, .int .i64 60]) (by simp [results, Try.results15, go_sem]) rfl ⟨rfl, rfl⟩
  | some q =>
    rw [atL_some e] at hlk ⊢
    rw [e] at hlk
    obtain ⟨a0, a1, a2, a3, a4, a5, a6, a7⟩ := q
    unfold PV.val PV.cells at *
    dsimp only at *
    simp only [Option.isSome_some] at *
    clear e
    go_enter Try.func15, Try.ntmps15
    go_wp2
    exact bodyPost_ret (v := .tuple #[.agg #[.int .i64 a0, .int .i64 a1, .int .i64 a2, .int .i64 a3, .int .i64 a4, .string a5, .int .i64 a6, .bool a7], .int .i64 0]) (by simp [results, Try.results15, go_sem]) rfl ⟨rfl, rfl⟩

set_option maxRecDepth 100000 in
set_option maxHeartbeats 1000000 in
theorem run_any (hW : TabAt w p m L g) (k : Int) : Calls Try.prog 35 #[.pointer (some ⟨p, 0, none⟩), .int .i64 k] w fun e w' => e = .returned (.tuple #[(runQ L k).val, .int .i64 (runE L k)]) ∧ Below w.heap.size w w' := by
  have HW := Lib.hid (hW.alloc (.cells z8 39))
  clear hW
  unfold runQ
  cases e : getL L k with
  | none =>
    have h1 : runE L k = 60 := by unfold runE; rw [e]
    have h2 : getE L k = 60 := by unfold getE; rw [e]; rfl
    have h3 := atL_none e
    have hg := get_eq HW.out k
    rw [h1, if_neg (by decide)]
    rw [h2, h3] at hg
    have HG := Lib.hid hg
    clear hg e h1 h2 h3
    go_enter Try.func35, Try.ntmps35
    go_wp2_with (go_at_call 15; refine (HG.out).mono ?_; rintro e w' ⟨rfl, rfl⟩; unfold PV.val PV.cells PV.zero; dsimp only)
    exact bodyPost_ret (v := .tuple #[.agg z8, .int .i64 60]) (by simp [results, Try.results35, go_sem]) rfl ⟨rfl, ((((Below.refl _ _).alloc (Nat.le_refl _) _).alloc (by simp) _).alloc (by simp; omega) _).alloc (by simp; omega) _⟩
  | some q =>
    have h2 : getE L k = 0 := by unfold getE; rw [e]; rfl
    have h3 := atL_some e
    have hg := get_eq HW.out k
    rw [h2, h3] at hg
    have HG := Lib.hid hg
    rw [h3]
    obtain ⟨a0, a1, a2, a3, a4, a5, a6, a7⟩ := q
    by_cases hs : a2 = 1
    · have h1 : runE L k = 0 := by unfold runE; rw [e]; simp [hs]
      rw [h1, if_pos rfl]
      subst hs
      clear hg e h1 h2 h3
      go_enter Try.func35, Try.ntmps35
      go_wp2_with (go_at_call 15; refine (HG.out).mono ?_; rintro e w' ⟨rfl, rfl⟩; unfold PV.val PV.cells; dsimp only)
      exact bodyPost_ret (v := .tuple #[.agg #[.int .i64 a0, .int .i64 a1, .int .i64 1, .int .i64 a3, .int .i64 a4, .string a5, .int .i64 a6, .bool a7], .int .i64 0]) (by simp [results, Try.results35, go_sem]) rfl ⟨rfl, ((((Below.refl _ _).alloc (Nat.le_refl _) _).alloc (by simp) _).alloc (by simp; omega) _).alloc (by simp; omega) _⟩
    · have h1 : runE L k = 2 := by unfold runE; rw [e]; simp [hs]
      have hb : (a2 == 1) = false := by simpa using hs
      rw [h1, if_neg (by decide)]
      clear hg e h1 h2 h3
      go_enter Try.func35, Try.ntmps35
      go_wp2_with (go_at_call 15; refine (HG.out).mono ?_; rintro e w' ⟨rfl, rfl⟩; unfold PV.val PV.cells; dsimp only)
      exact bodyPost_ret (v := .tuple #[.agg z8, .int .i64 2]) (by simp [results, Try.results35, go_sem]) rfl ⟨rfl, ((((Below.refl _ _).alloc (Nat.le_refl _) _).alloc (by simp) _).alloc (by simp; omega) _).alloc (by simp; omega) _⟩

end

set_option maxRecDepth 100000 in
set_option maxHeartbeats 1000000 in
theorem new_any (w : World) : Calls Try.prog 11 #[] w fun e w' => ∃ p m, e = .returned (.pointer (some ⟨p, 0, none⟩)) ∧ TabAt w' p m [first1] 1 ∧ w.heap.size ≤ p ∧ w.heap.size ≤ m ∧ Below w.heap.size w w' := by
  have hmm := @run_makeMap Try.prog
  have hM : MapAt ((w.alloc (pO first1)).alloc (.map #[] 0)) (w.heap.size + 1) [] := by
    have := heap_alloc_new (w.alloc (pO first1)) (.map #[] 0)
    rw [World.size_alloc] at this
    exact ⟨_, _, this, rfl, ⟨by simp, by simp⟩⟩
  obtain ⟨o, hup, hM3⟩ := hM.push (k := 1) (q' := first1) rfl rfl
  have hB : Below w.heap.size w (putM ((w.alloc (pO first1)).alloc (.map #[] 0)) (w.heap.size + 1) o) := by
    have h1 := ((Below.refl w.heap.size w).alloc (Nat.le_refl _) (pO first1)).alloc (by simp) (.map #[] 0)
    exact ⟨h1.os, h1.tape, h1.output, by have := h1.size; rw [putM_size]; exact this, fun k hk => (putM_other o (by omega)).trans (h1.block k hk)⟩
  have hsz : (putM ((w.alloc (pO first1)).alloc (.map #[] 0)) (w.heap.size + 1) o).heap.size = w.heap.size + 2 := by rw [putM_size]; simp
  have HM := Lib.hid hM3; have HB := Lib.hid hB; have HSZ := Lib.hid hsz
  clear hM hM3 hB hsz
  unfold pO first1 PV.val PV.cells at *
  dsimp only at *
  go_enter Try.func11, Try.ntmps11
  go_wp2
  go_ret
  generalize putM _ _ o = W3 at *
  have hsz := HSZ.out
  exact ⟨_, w.heap.size + 1, rfl, ⟨BoxA.new W3 _ _, HM.out.keep (Below.heap_alloc _ _ _ (by omega)), tok_first⟩, by omega, by omega, HB.out.alloc (by omega) _⟩

end Go.Proofs.Ytonllnbincgdpaa
