/- ProcMany: for every list of numbers the law answers true: there are at most sixteen processes. No conditions. -/
import Derived.Test.YtonllnbincgdpaaProcShown
import Derived.Test.YtonllnbincgdpaaCells
namespace Go.Proofs.Ytonllnbincgdpaa
open Go.RowKit Go.ChangeShapes Go.WideShapes Go.ChangeAt

/-- what holds behind i forks: all run; how many there are. -/
structure MInv (L : List PV) (g : Int) (i : Nat) : Prop where
  st : ∀ q ∈ L, q.st = 1
  len : L.length = min 16 (1 + i)
  gl : g = L.length

theorem MInv.run {L : List PV} {g : Int} {i : Nat} (h : MInv L g i) (ho : TOk L g) {q : PV} (hq : q ∈ L) : runE L q.pid = 0 := by
  unfold runE
  rw [getL_of_mem ho hq]
  simp [h.st q hq]
theorem MInv.forkE {L : List PV} {g : Int} {i : Nat} (h : MInv L g i) (ho : TOk L g) {q : PV} (hq : q ∈ L) : Go.Proofs.Ytonllnbincgdpaa.forkE L g q.pid = if L.length < 16 then 0 else 61 := by
  unfold Go.Proofs.Ytonllnbincgdpaa.forkE
  rw [h.run ho hq]
  have := h.gl; have := ho.len
  by_cases c : L.length < 16
  · rw [if_pos c, if_neg (by decide), if_neg (by omega)]
  · rw [if_neg c, if_neg (by decide), if_pos (by omega)]

theorem idx_lt {n : Nat} (h : 0 < n) (h2 : n ≤ 16) (x : Int) : ∃ t : Nat, t < n ∧ (wrap64 ((IntKind.u64.wrap x).tmod (n : Int))).toNat = t ∧ wrap64 ((IntKind.u64.wrap x).tmod (n : Int)) = (t : Int) := by
  have h0 := wrap_u64_nonneg x
  generalize IntKind.u64.wrap x = y at *
  have h1 : 0 ≤ y.tmod n := Int.tmod_nonneg _ h0
  have h3 : y.tmod n < n := Int.tmod_lt_of_pos _ (by omega)
  have h4 : wrap64 (y.tmod n) = y.tmod n := by unfold wrap64; omega
  rw [h4]
  exact ⟨(y.tmod n).toNat, by omega, rfl, by omega⟩

section
variable {w : World} {p m : Nat} {L : List PV} {g : Int} {i : Nat}
theorem mm_fork (hT : TabAt w p m L g) (hI : MInv L g i) {q : PV} (hq : q ∈ L) (h : L.length < 16) : Calls Try.prog 16 #[.pointer (some ⟨p, 0, none⟩), .int .i64 q.pid] w fun e w' => e = .returned (.tuple #[.int .i64 (L.length + 1), .int .i64 0]) ∧ (∃ c, c.pid = (L.length : Int) + 1 ∧ c.par = q.pid ∧ c.st = 1 ∧ TabAt w' p m (L ++ [c]) (L.length + 1)) ∧ Turn p m w w' := by
  have h1 := fork_any hT q.pid
  have hE := hI.forkE hT.ok hq
  rw [if_pos h] at hE
  unfold forkN forkL forkG at h1
  rw [hE, hI.gl] at h1
  simp only [if_true] at h1
  exact h1.mono (by rintro e w' ⟨h1, h2, h3⟩; exact ⟨h1, ⟨_, rfl, rfl, rfl, h2⟩, h3⟩)
theorem mm_fork_no (hT : TabAt w p m L g) (hI : MInv L g i) {q : PV} (hq : q ∈ L) (h : ¬ L.length < 16) : Calls Try.prog 16 #[.pointer (some ⟨p, 0, none⟩), .int .i64 q.pid] w fun e w' => e = .returned (.tuple #[.int .i64 0, .int .i64 61]) ∧ TabAt w' p m L g ∧ Turn p m w w' := by
  have h1 := fork_any hT q.pid
  have hE := hI.forkE hT.ok hq
  rw [if_neg h] at hE
  unfold forkN forkL forkG at h1
  rw [hE] at h1
  exact h1
theorem mm_get {c : PV} (hT : TabAt w p m (L ++ [c]) g) : Calls Try.prog 15 #[.pointer (some ⟨p, 0, none⟩), .int .i64 c.pid] w fun e w' => e = .returned (.tuple #[c.val, .int .i64 0]) ∧ Below w.heap.size w w' := by
  have h1 := get_eq hT c.pid
  have hg : getL (L ++ [c]) c.pid = some c := getL_of_mem hT.ok (by simp)
  unfold getE at h1
  rw [atL_some hg, hg] at h1
  exact h1.mono (by rintro e w' ⟨h1, rfl⟩; exact ⟨h1, ((Below.refl _ _).alloc (Nat.le_refl _) _).alloc (by simp) _⟩)
theorem mm_get0 (hT : TabAt w p m L g) : Calls Try.prog 15 #[.pointer (some ⟨p, 0, none⟩), .int .i64 0] w fun e w' => e = .returned (.tuple #[PV.zero.val, .int .i64 60]) ∧ Below w.heap.size w w' := by
  have h1 := get_eq hT 0
  have hg : getL L 0 = none := getL_none_of (fun q hq => by have := hT.ok.low q hq; omega)
  unfold getE at h1
  rw [atL_none hg, hg] at h1
  exact h1.mono (by rintro e w' ⟨h1, rfl⟩; exact ⟨h1, ((Below.refl _ _).alloc (Nat.le_refl _) _).alloc (by simp) _⟩)
end

set_option maxRecDepth 100000 in
set_option maxHeartbeats 4000000 in
theorem many_walk (a : Option Addr) (len cap : Nat) (w : World) (hlen : len ≤ maxLen) (hcell : 0 < len → ∃ b off, a = some ⟨b, off, none⟩ ∧ b < w.heap.size ∧ ∀ i, i < len → ∃ x : Int, w.cell? ⟨b, off + i, none⟩ = some (.int .i64 x)) :
    Calls Try.prog 8 #[.slice a len cap] w fun e w' => e = .returned (.bool true) ∧ Below w.heap.size w w' := by
  have HC := Lib.hid hcell; clear hcell
  unfold maxLen at hlen
  go_enter Try.func8, Try.ntmps8
  go_wp2_with (first
    | (go_at_call 10; refine (shown6_any _).mono ?_; rintro e w0 ⟨rfl, hB0⟩; have HB0 := Lib.hid hB0; clear hB0)
    | (go_at_call 11; refine (new_any _).mono ?_; rintro e w1 ⟨p, m, rfl, h1, hp, hm, hB⟩; have H1 := Lib.hid h1; have HB1 := Lib.hid (HB0.out.trans (hB.mono HB0.out.size)); have hp' : w.heap.size ≤ p := Nat.le_trans HB0.out.size hp; have hm' : w.heap.size ≤ m := Nat.le_trans HB0.out.size hm; clear h1 hB))
  go_loopw [5] (fun i wr => ∃ j : Nat, j ≤ len ∧ j ≤ 30 ∧ i = .int .i64 j ∧ ∃ L g, TabAt wr p m L g ∧ MInv L g j ∧ Below w.heap.size w wr) (fun i _ => len - (intOf i).toNat)
  case atStart => exact ⟨0, by omega, by omega, rfl, [first1], 1, H1.out, ⟨by simp [first1], by simp, by simp⟩, HB1.out⟩
  case round =>
    obtain ⟨j, hj, hj30, rfl, L, g, hT, hI, hB⟩ := hrel
    by_cases hlt : j < len ∧ j < 30
    · obtain ⟨hl1, hl2⟩ := hlt
      obtain ⟨b, off, rfl, hb, hc⟩ := HC.out (by omega)
      obtain ⟨x, hx⟩ := hc j hl1
      have HT := Lib.hid hT; have HI := Lib.hid hI; have HB := Lib.hid hB
      have hn0 : 0 < L.length := by have := HI.out.len; omega
      have hn16 : L.length ≤ 16 := HT.out.ok.len
      have HQ : Hid (∀ t, t < L.length → ∃ q, L[t]? = some q) := fun t ht => ⟨_, List.getElem?_eq_getElem ht⟩
      by_cases h16 : L.length < 16
      · go_wp2_with (first
          | (go_at_call 14; refine (pids_any HT.out).mono ?_; rintro e w2 ⟨v, rfl, h2, b2⟩; obtain ⟨ra, rc, rfl, hcs⟩ := h2; rw [List.length_map] at hcs ⊢; obtain ⟨r, cur, rfl, hr1, hr2, hr3⟩ := hcs (by omega); have HT2 := Lib.hid (HT.out.below' b2); have HB2 := Lib.hid (HB.out.trans (b2.mono HB.out.size)); have hx2 := (HB2.out.cell (p := ⟨b, off + j, none⟩) hb).trans hx; obtain ⟨t, ht, hw1, hw2⟩ := idx_lt hn0 hn16 x; obtain ⟨q, hq⟩ := HQ.out t ht; have hcy : w2.cell? ⟨r, (wrap64 ((IntKind.u64.wrap x).tmod (L.length : Int))).toNat, none⟩ = some (.int .i64 q.pid) := (by rw [hw1]; simp [World.cell?, hr2]; exact hr3 t _ (by simp [hq, Go.encZ])); have hwb : 0 ≤ wrap64 ((IntKind.u64.wrap x).tmod (L.length : Int)) ∧ wrap64 ((IntKind.u64.wrap x).tmod (L.length : Int)) < L.length := (by rw [hw2]; omega); have HQM := Lib.hid (List.mem_of_getElem? hq); clear hcs b2 hr3 hr2 hw1 hw2 ht hq)
          | (go_at_call 16; refine (mm_fork HT2.out HI.out HQM.out h16).mono ?_; rintro e w3 ⟨rfl, ⟨c, hc1, hc2, hc3, h3⟩, t3⟩; have HT3 := Lib.hid h3; have HB3 := Lib.hid (t3.below HB2.out hp' hm' HB2.out.size); have HC3 := Lib.hid hc3; clear h3 t3 hc3)
          | (go_at_call 15; have hgc := mm_get HT3.out; rw [hc1] at hgc; obtain ⟨a0, a1, a2, a3, a4, a5, a6, a7⟩ := c; dsimp only at hc1 hc2; subst hc1; subst hc2; refine hgc.mono ?_; rintro e w4 ⟨rfl, b4⟩; unfold PV.val PV.cells; dsimp only; have HT4 := Lib.hid ((HT3.out.below' b4).alloc (.cells #[.int .i64 ((L.length : Int) + 1), .int .i64 q.pid, .int .i64 a2, .int .i64 a3, .int .i64 a4, .string a5, .int .i64 a6, .bool a7] 39)); have HB4 := Lib.hid ((HB3.out.trans (b4.mono HB3.out.size)).alloc (Nat.le_trans HB3.out.size b4.size) (.cells #[.int .i64 ((L.length : Int) + 1), .int .i64 q.pid, .int .i64 a2, .int .i64 a3, .int .i64 a4, .string a5, .int .i64 a6, .bool a7] 39)); clear b4 hgc))
        go_roundw
        case rel => exact ⟨j + 1, by omega, by omega, by go_num, _, _, HT4.out, ⟨by intro x hx; rcases List.mem_append.1 hx with h | h; exact HI.out.st x h; simp at h; subst h; exact HC3.out, by have := HI.out.len; simp; omega, by simp⟩, HB4.out⟩
        case measure => simp [intOf]; omega
      · go_wp2_with (first
          | (go_at_call 14; refine (pids_any HT.out).mono ?_; rintro e w2 ⟨v, rfl, h2, b2⟩; obtain ⟨ra, rc, rfl, hcs⟩ := h2; rw [List.length_map] at hcs ⊢; obtain ⟨r, cur, rfl, hr1, hr2, hr3⟩ := hcs (by omega); have HT2 := Lib.hid (HT.out.below' b2); have HB2 := Lib.hid (HB.out.trans (b2.mono HB.out.size)); have hx2 := (HB2.out.cell (p := ⟨b, off + j, none⟩) hb).trans hx; obtain ⟨t, ht, hw1, hw2⟩ := idx_lt hn0 hn16 x; obtain ⟨q, hq⟩ := HQ.out t ht; have hcy : w2.cell? ⟨r, (wrap64 ((IntKind.u64.wrap x).tmod (L.length : Int))).toNat, none⟩ = some (.int .i64 q.pid) := (by rw [hw1]; simp [World.cell?, hr2]; exact hr3 t _ (by simp [hq, Go.encZ])); have hwb : 0 ≤ wrap64 ((IntKind.u64.wrap x).tmod (L.length : Int)) ∧ wrap64 ((IntKind.u64.wrap x).tmod (L.length : Int)) < L.length := (by rw [hw2]; omega); have HQM := Lib.hid (List.mem_of_getElem? hq); clear hcs b2 hr3 hr2 hw1 hw2 ht hq)
          | (go_at_call 16; refine (mm_fork_no HT2.out HI.out HQM.out h16).mono ?_; rintro e w3 ⟨rfl, h3, t3⟩; have HT3 := Lib.hid h3; have HB3 := Lib.hid (t3.below HB2.out hp' hm' HB2.out.size); clear h3 t3)
          | (go_at_call 15; refine (mm_get0 HT3.out).mono ?_; rintro e w4 ⟨rfl, b4⟩; unfold PV.val PV.cells PV.zero; dsimp only; have HT4 := Lib.hid ((HT3.out.below' b4).alloc (.cells z8 39)); have HB4 := Lib.hid ((HB3.out.trans (b4.mono HB3.out.size)).alloc (Nat.le_trans HB3.out.size b4.size) (.cells z8 39)); clear b4))
        go_roundw
        case rel => exact ⟨j + 1, by omega, by omega, by go_num, _, _, HT4.out, ⟨HI.out.st, by have := HI.out.len; omega, HI.out.gl⟩, HB4.out⟩
        case measure => simp [intOf]; omega
    · have HT := Lib.hid hT; have HI := Lib.hid hI; have HB := Lib.hid hB
      have hmin : (L.length : Int) = min 16 (1 + min 30 (len : Int)) := by have := HI.out.len; omega
      clear hT hI hB
      rcases (show ¬ j < len ∨ (j < len ∧ ¬ j < 30) by omega) with c | ⟨c, c2⟩
      all_goals
        go_wp2_with (go_at_call 14; refine (pids_any HT.out).mono ?_; rintro e w2 ⟨v, rfl, h2, b2⟩; obtain ⟨ra, rc, rfl, hcs⟩ := h2; have HB2 := Lib.hid (HB.out.trans (b2.mono HB.out.size)); rw [List.length_map]; clear hcs b2)
        go_ret
        refine ⟨ret_true ?_, HB2.out⟩
        simp

set_option maxRecDepth 100000 in
theorem many_lifted (os : Os) (started : os.Started) (H : Type) (enc : TypeId × Value → H) :
    ReturnsInHanded {} Try.checked os 8 .any (Rows.procManySpec.pre6 enc Try.prog Try.f8 Rows.procManyRow.domain false) (Rows.procManySpec.post enc Try.prog Try.f8 false true false false) := by
  refine returnsInHanded_of_change (C := Try.checked) own started (by kernel_rfl) Try.func8
    (ChangeSpec.witness6 (enc := enc) (C := Try.checked) false ⟨#[], #[.slice none 0 0], []⟩ 8 (by kernel_rfl) (by kernel_rfl) (by kernel_rfl) (by kernel_rfl)) ?_
  intro W base args ds gs before hval0 hW _ _
  have hval : ∀ (j : Nat) t v, Try.f8.params[j]? = some t → args[j]? = some v → Value.okWide Try.prog W .any base t v := hval0
  have hW' := hW
  obtain ⟨p, q, hA0, hV, rfl, hfz, hnd⟩ := hW
  have hA : DataW.TrodAll enc Try.prog W 0 (fun _ => true) true Try.f8.params.toList args.toList ds p := hA0
  rw [Try.params8] at hA hval
  obtain ⟨v0, vs0, d0, ds0, p0, q0, hargs, rfl, rfl, h0, r0⟩ := trodAll_cons hA
  obtain ⟨rfl, rfl, rfl⟩ := trodAll_nil r0
  obtain rfl : args = #[v0] := by cases args; simp_all
  obtain ⟨a, len, cap, rfl, hlen, hcell⟩ := open_cells Try.underlying33 (by kernel_rfl) (hval 0 33 v0 rfl rfl) h0
  have hwalk : Calls Try.prog 8 #[.slice a len cap] W fun e w' => e = .returned (.bool true) ∧ Below W.heap.size W w' := by
    refine many_walk a len cap W hlen (fun h => ?_)
    obtain ⟨b, off, rfl, hb, hc⟩ := hcell h
    refine ⟨b, off, rfl, hb, fun i hi => ?_⟩
    obtain ⟨u, hu, hF⟩ := hc i hi
    obtain ⟨x, rfl, _⟩ := hF.int Try.underlying3
    exact ⟨x, hu⟩
  refine hwalk.mono fun e W' ⟨he, bel⟩ => ⟨_, he, ?_⟩
  exact law_post laidOut (of_decide_eq_true (by kernel_rfl)) rfl Try.underlying4 rfl hW' (fun ds' e => by subst e; rfl) bel

theorem procMany_holds : Rows.ProcManySaid :=
  OpenClaim.holds_of_wide 8 Try.f8 rfl rfl rfl rfl rfl rfl rfl ⟨rfl, rfl, rfl, rfl, rfl⟩ rfl rfl rfl rfl rfl (by kernel_rfl) Try.func8 (by kernel_rfl)
    (of_decide_eq_true (by kernel_rfl)) (by unfold Func.isWrapper; rw [if_neg (by decide +kernel)]; exact ⟨rfl, rfl⟩)
    (fun os started H enc _ => many_lifted os started H enc)

#print axioms procMany_holds
end Go.Proofs.Ytonllnbincgdpaa
