/- Package files: free, walked. -/
import Derived.Test.YtfgigofmmapbmaaFiIter
namespace Go.Proofs.Ytfgigofmmapbmaa
open Go.RowKit Go.Shelf

attribute [local go_sem] Oper.semAt_some

/-- the first of some numbers that is 0. -/
def zeroI (r : Fds) : Option Nat := r.findIdx? (fun a => a == 0)
def zeroN (r : Fds) : Int := match zeroI r with
  | some j => j
  | none => 0
def zeroE (r : Fds) : Int := match zeroI r with
  | some _ => 0
  | none => 81
theorem zeroI_some {r : Fds} {j : Nat} (h8 : r.length = 8) (hj : j < 8) (h : (numAt r j == 0) = true) (hlo : ∀ i, i < j → (numAt r i == 0) = false) : zeroI r = some j := by
  unfold zeroI
  refine List.findIdx?_eq_some_iff_getElem.2 ⟨by omega, ?_, fun i hi => ?_⟩
  · unfold numAt at h; rw [List.getElem?_eq_getElem (by omega)] at h; exact h
  · have := hlo i hi
    unfold numAt at this; rw [List.getElem?_eq_getElem (by omega)] at this
    simpa using this
theorem zeroI_none {r : Fds} (hlo : ∀ i, i < 8 → (numAt r i == 0) = false) (h8 : r.length = 8) : zeroI r = none := by
  unfold zeroI
  refine List.findIdx?_eq_none_iff.2 fun a ha => ?_
  obtain ⟨i, hi, rfl⟩ := List.mem_iff_getElem.1 ha
  have := hlo i (by omega)
  unfold numAt at this; rw [List.getElem?_eq_getElem hi] at this
  exact this

section
variable {w : World} {p : Nat} {m : Option Nat} {F : List OF} {D : List (Int × Fds)}

set_option maxRecDepth 100000 in
set_option maxHeartbeats 2000000 in
theorem free_in (h : FM w p m F D) (P : Int) :
    CallsIn Fence.wide 6 Try.prog 32 #[.pointer (some ⟨p, 0, none⟩), .int .i64 P] w fun e w' => e = .returned (.tuple #[.int .i64 (zeroN (rowD D P)), .int .i64 (zeroE (rowD D P))]) ∧ Below w.heap.size w w' := by
  refine callsIn_of_wp_marks Try.func32 rfl trivial ?_ rfl
  simp only [Try.ntmps32, List.size_toArray, List.length_cons, List.length_nil, Nat.reduceAdd, Nat.reduceSub, Array.replicate_succ, Array.replicate_zero, List.push_toArray, List.append_toArray, List.nil_append, List.cons_append]
  have h8 := rowD_len h.ok P
  obtain ⟨r, hr⟩ : ∃ r, rowD D P = r := ⟨_, rfl⟩
  rw [hr] at h8 ⊢
  gi_wp2
  refine wpIn_scope' ?_
  gi_wp2
  refine wpIn_label ?_
  gi_wp2_with (refine ⟨trivial, ?_⟩; gi_at_call 37; refine (desc_in _ _ _ _).mono ?_; rintro e w' ⟨rfl, rfl⟩)
  have bK := (((Boxed.new w 3 (.int .i64 0)).alloc (.cells #[.int .i64 81] 36)).alloc (.cells #[.pointer (some ⟨p, 0, none⟩)] 24)).alloc (.cells #[.int .i64 P] 3)
  have bF := (((Boxed.new (w.alloc (.cells #[.int .i64 0] 3)) 36 (.int .i64 81))).alloc (.cells #[.pointer (some ⟨p, 0, none⟩)] 24)).alloc (.cells #[.int .i64 P] 3)
  have bM := ((BoxA.new ((w.alloc (.cells #[.int .i64 0] 3)).alloc (.cells #[.int .i64 81] 36)) 24 #[.pointer (some ⟨p, 0, none⟩)])).alloc (.cells #[.int .i64 P] 3)
  have bT := (BoxA.new (((w.alloc (.cells #[.int .i64 0] 3)).alloc (.cells #[.int .i64 81] 36)).alloc (.cells #[.pointer (some ⟨p, 0, none⟩)] 24)) 3 #[.int .i64 P])
  have hF := (((h.alloc (.cells #[.int .i64 0] 3)).alloc (.cells #[.int .i64 81] 36)).alloc (.cells #[.pointer (some ⟨p, 0, none⟩)] 24)).alloc (.cells #[.int .i64 P] 3)
  have hB0 : Below w.heap.size w ((((w.alloc (.cells #[.int .i64 0] 3)).alloc (.cells #[.int .i64 81] 36)).alloc (.cells #[.pointer (some ⟨p, 0, none⟩)] 24)).alloc (.cells #[.int .i64 P] 3)) := (((((Below.refl _ w).alloc (Nat.le_refl _) _).alloc (by simp) _).alloc (by simp; omega) _).alloc (by simp; omega) _)
  have hsz : ((((w.alloc (.cells #[.int .i64 0] 3)).alloc (.cells #[.int .i64 81] 36)).alloc (.cells #[.pointer (some ⟨p, 0, none⟩)] 24)).alloc (.cells #[.int .i64 P] 3)).heap.size = w.heap.size + 1 + 1 + 1 + 1 := by simp
  simp only [World.size_alloc] at bK bF bM bT
  generalize ((((w.alloc (.cells #[.int .i64 0] 3)).alloc (.cells #[.int .i64 81] 36)).alloc (.cells #[.pointer (some ⟨p, 0, none⟩)] 24)).alloc (.cells #[.int .i64 P] 3)) = W0 at *
  refine wpIn_rangeFunc_ownG (F := Fence.wide) (n := 6) rfl (by omega) (gf := 39) (lb := #[.pointer (some ⟨w.heap.size + 1 + 1, 0, none⟩), .pointer (some ⟨w.heap.size + 1 + 1 + 1, 0, none⟩)]) rfl trivial (enters_of Try.func39 (by kernel_rfl) rfl)
    (desc_stops 5 (by omega) (w.heap.size + 1 + 1) (w.heap.size + 1 + 1 + 1) P hr W0 hF (bM.at 0 rfl) (bT.at 0 rfl)) (fun _ _ => trivial) (fun _ _ _ _ _ _ _ _ => trivial) (Below.refl _ _) (fun _ => rfl)
    (fun pre W => ((∀ y ∈ pre, (numAt r y.1 == 0) = false) ∧ Boxed W w.heap.size 3 (.int .i64 0) ∧ Boxed W (w.heap.size + 1) 36 (.int .i64 81)) ∧ Below w.heap.size w W)
    (fun c pre W => (c = .exit 0 ∧ ∃ (ini : List (Fin 8)) (last : Fin 8), pre = ini ++ [last] ∧ (∀ y ∈ ini, (numAt r y.1 == 0) = false) ∧ (numAt r last.1 == 0) = true ∧ Boxed W w.heap.size 3 (.int .i64 (last.1 : Int)) ∧ Boxed W (w.heap.size + 1) 36 (.int .i64 0)) ∧ Below w.heap.size w W)
    (OwnFrom.and (Own.from (fun s A B row hs hg hr => ⟨hs.1, boxed_keep7 hs.2.1 hg hr, boxed_keep7 hs.2.2 hg hr⟩) _) (ownFrom_below (Nat.le_refl _) (by omega)))
    (fun c => OwnFrom.and (Own.from (fun s A B row hs hg hr => by obtain ⟨hc, ini, last, e1, e2, e3, e4, e5⟩ := hs; exact ⟨hc, ini, last, e1, e2, e3, boxed_keep7 e4 hg hr, boxed_keep7 e5 hg hr⟩) _) (ownFrom_below (Nat.le_refl _) (by omega)))
    ⟨⟨by simp, bK, bF⟩, hB0⟩
    (fun y => { tmps := #[.pointer (some ⟨p, 0, none⟩), .int .i64 P, undef, undef, .int .i64 0, .int .i64 0, .pointer (some ⟨w.heap.size, 0, none⟩), .pointer (some ⟨w.heap.size + 1, 0, none⟩), .int .i64 (y.1 : Int), .int .i64 (numAt r y.1), .pointer (some ⟨p, 0, none⟩), .int .i64 P, .func (.func 39) #[] #[.pointer (some ⟨w.heap.size + 1 + 1, 0, none⟩), .pointer (some ⟨w.heap.size + 1 + 1 + 1, 0, none⟩)], .int .i64 (y.1 : Int), .int .i64 (numAt r y.1), undef, undef, undef, undef, undef], defers := [] }) ?assign ?body ?done ?stop
  case assign =>
    intro l y W K hK
    unfold descV
    gi_wp2
    exact hK
  case body =>
    rintro l pre y W ⟨⟨hno, b2, b3⟩, hB⟩ hlen
    have HN := Lib.hid hno; clear hno
    have hsW : w.heap.size ≤ W.heap.size := hB.size
    have k2 := b2.cell; have k3 := b3.cell; have k2f := b2.frozen; have k3f := b3.frozen
    by_cases hr0 : (numAt r y.1 == 0) = true
    · have HR0 := Lib.hid hr0
      gi_wp2_with fail
      exact ⟨((KeepsOthers.setCell _ _ _).trans (KeepsOthers.setCell _ _ _)).from _, ⟨rfl, pre, y, rfl, HN.out, HR0.out, (b2.set _).other (by omega) _, (b3.other (by omega) _).set _⟩, (hB.setCell (p := ⟨w.heap.size, 0, none⟩) (by simp) _).setCell (p := ⟨w.heap.size + 1, 0, none⟩) (by simp) _⟩
    · have hr' : (numAt r y.1 == 0) = false := by simpa using hr0
      have HR0 := Lib.hid hr'
      gi_wp2_with fail
      exact ⟨KeepsFrom.refl _ _, trivial, ⟨fun z hz => (List.mem_append.1 hz).elim (HN.out z) (fun e => by simp at e; subst e; exact HR0.out), b2, b3⟩, hB⟩
  case done =>
    rintro E ys W hD hys ⟨⟨hno, b2, b3⟩, hB⟩ hK
    have HN := Lib.hid hno; clear hno
    have HY := Lib.hid hys; clear hys
    have c2 := b2.cell
    have c3 := b3.cell
    gi_wp2
    gi_region
    gi_wp2
    rw [Exit.noGoto_ret]
    refine ⟨by simp, .inl ⟨_, _, rfl, run_takeDeferred (show W.drew.heap[E]? = _ from hK), ?_⟩⟩
    have hz := zeroI_none (r := r) (fun j hj => by
      have : j ∈ ys.map Fin.val := by rw [HY.out]; exact List.mem_range.2 hj
      obtain ⟨z, hz, rfl⟩ := List.mem_map.1 this
      exact HN.out z hz) h8
    rw [show zeroN r = 0 by unfold zeroN; rw [hz], show zeroE r = 81 by unfold zeroE; rw [hz]]
    exact ⟨_, results_tmp2 rfl _ _ _, rfl, below_put7 (below_drew7 hB) (by omega)⟩
  case stop =>
    rintro E c pre W hD ⟨k, hk, hpre⟩ ⟨⟨rfl, ini, last, e1, e2, e3, b2, b3⟩, hB⟩ hK
    have c2 := b2.cell
    have c3 := b3.cell
    have HE := Lib.hid e2
    have HP := Lib.hid hpre
    have HQ := Lib.hid e1
    have HX := Lib.hid e3
    clear e2 hpre e1 e3
    gi_wp2
    gi_region
    gi_wp2
    rw [Exit.noGoto_ret]
    refine ⟨by simp, .inl ⟨_, _, rfl, run_takeDeferred (show W.drew.heap[E]? = _ from hK), ?_⟩⟩
    have hz := zeroI_some (r := r) h8 last.2 HX.out (fun j hj => by
      have hpre := HP.out
      rw [HQ.out, List.map_append] at hpre
      have hl : ini.length + 1 = k := by have := congrArg List.length hpre; simpa using this
      have hk' : List.range k = List.range ini.length ++ [ini.length] := by rw [← hl, List.range_succ]
      rw [hk'] at hpre
      obtain ⟨h1, h2⟩ := List.append_inj hpre (by simp)
      have h3 : last.1 = ini.length := by simpa using h2
      have : j ∈ ini.map Fin.val := by rw [h1]; exact List.mem_range.2 (by omega)
      obtain ⟨z, hz, rfl⟩ := List.mem_map.1 this
      exact HE.out z hz)
    rw [show zeroN r = last.1 by unfold zeroN; rw [hz], show zeroE r = 0 by unfold zeroE; rw [hz]]
    exact ⟨_, results_tmp2 rfl _ _ _, rfl, below_put7 (below_drew7 hB) (by omega)⟩

theorem free_any (h : FM w p m F D) (P : Int) : Calls Try.prog 32 #[.pointer (some ⟨p, 0, none⟩), .int .i64 P] w fun e w' => e = .returned (.tuple #[.int .i64 (zeroN (rowD D P)), .int .i64 (zeroE (rowD D P))]) ∧ Below w.heap.size w w' := callsIn_wide.1 (free_in h P)
end
end Go.Proofs.Ytfgigofmmapbmaa
