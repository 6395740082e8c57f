/- Package pipe: none, walked. -/
import Derived.Test.YtpfldelmbigmbaaDoorPiCounts
namespace Go.Proofs.YtpfldelmbigmbaaDoor
open Go.RowKit Go.Shelf

attribute [local go_sem] Oper.semAt_some

section
variable {g : Nat} {A : Fin 4 → Addr} {w w' : World} {p q r v b : Nat} {L : List UInt8} {K : List Nat}

set_option maxRecDepth 100000 in
set_option maxHeartbeats 2000000 in
theorem none_in (h : PM g A w p q L r v) (hK : KindsAt w b K) (hlen : K.length ≤ 2) (cap : Nat) :
    CallsIn Fence.wide 6 Tryd.prog 32 #[.pointer (some ⟨p, 0, none⟩), .slice (some ⟨b, 0, none⟩) K.length cap] w fun e w' => e = .returned (.bool (K.all fun k => endN r v k == 0)) ∧ Below w.heap.size w w' := by
  refine callsIn_of_wp_marks Tryd.func32 rfl trivial ?_ rfl
  simp only [Tryd.ntmps32, List.size_toArray, List.length_cons, List.length_nil, Nat.reduceAdd, Nat.reduceSub, Array.replicate_succ, Array.replicate_zero, List.push_toArray, List.append_toArray, List.nil_append, List.cons_append]
  gi_wp2
  refine wpIn_scope' ?_
  gi_wp2
  refine wpIn_label ?_
  gi_wp2_with (refine ⟨trivial, ?_⟩; gi_at_call 41; refine (counts_in _ _ _ ⟨_, _, _, rfl⟩ _).mono ?_; rintro e w' ⟨rfl, rfl⟩)
  have bL := ((Boxed.new w 4 (.bool false)).alloc (.cells #[.pointer (some ⟨p, 0, none⟩)] 79)).alloc (.cells #[.slice (some ⟨b, 0, none⟩) K.length cap] 73)
  have bB := ((BoxA.new (w.alloc (.cells #[.bool false] 4)) 79 #[.pointer (some ⟨p, 0, none⟩)])).alloc (.cells #[.slice (some ⟨b, 0, none⟩) K.length cap] 73)
  have bK := (BoxA.new ((w.alloc (.cells #[.bool false] 4)).alloc (.cells #[.pointer (some ⟨p, 0, none⟩)] 79)) 73 #[.slice (some ⟨b, 0, none⟩) K.length cap])
  have hB0 : Below w.heap.size w (((w.alloc (.cells #[.bool false] 4)).alloc (.cells #[.pointer (some ⟨p, 0, none⟩)] 79)).alloc (.cells #[.slice (some ⟨b, 0, none⟩) K.length cap] 73)) := ((((Below.refl _ w).alloc (Nat.le_refl _) _).alloc (by simp) _).alloc (by simp; omega) _)
  have hsz : (((w.alloc (.cells #[.bool false] 4)).alloc (.cells #[.pointer (some ⟨p, 0, none⟩)] 79)).alloc (.cells #[.slice (some ⟨b, 0, none⟩) K.length cap] 73)).heap.size = w.heap.size + 1 + 1 + 1 := by simp
  simp only [World.size_alloc] at bB bK
  generalize (((w.alloc (.cells #[.bool false] 4)).alloc (.cells #[.pointer (some ⟨p, 0, none⟩)] 79)).alloc (.cells #[.slice (some ⟨b, 0, none⟩) K.length cap] 73)) = W0 at *
  refine wpIn_rangeFunc_ownG (F := Fence.wide) (n := 6) rfl (by omega) (gf := 46) (lb := #[.pointer (some ⟨w.heap.size + 1 + 1, 0, none⟩), .pointer (some ⟨w.heap.size + 1, 0, none⟩)]) rfl trivial (enters_of Tryd.func46 (by kernel_rfl) rfl)
    (counts_stops 5 (by omega) (w.heap.size + 1) (w.heap.size + 1 + 1) cap w.heap.size W0 (h.below' hB0) h.lt (hK.below hB0) hK.lt hlen bB bK) KpC.trans (KpC.put (by omega)) (Below.refl _ _) (fun _ => rfl)
    (fun pre W => ((∀ y ∈ pre, endN r v K[y] = 0) ∧ Boxed W w.heap.size 4 (.bool false)) ∧ Below w.heap.size w W)
    (fun c pre W => (c = .exit 0 ∧ (∃ y ∈ pre, 0 < endN r v K[y]) ∧ Boxed W w.heap.size 4 (.bool true)) ∧ Below w.heap.size w W)
    (OwnFrom.and (Own.from (fun s A B row hs hg hr => ⟨hs.1, boxed_keep7 hs.2 hg hr⟩) _) (ownFrom_below (Nat.le_refl _) (by omega)))
    (fun c => OwnFrom.and (Own.from (fun s A B row hs hg hr => ⟨hs.1, hs.2.1, boxed_keep7 hs.2.2 hg hr⟩) _) (ownFrom_below (Nat.le_refl _) (by omega)))
    ⟨⟨by simp, bL⟩, hB0⟩
    (fun y => { tmps := #[.pointer (some ⟨p, 0, none⟩), .slice (some ⟨b, 0, none⟩) K.length cap, undef, undef, .bool false, .pointer (some ⟨w.heap.size, 0, none⟩), .int .i64 ((endN r v K[y] : Nat) : Int), .pointer (some ⟨p, 0, none⟩), .slice (some ⟨b, 0, none⟩) K.length cap, .func (.func 46) #[] #[.pointer (some ⟨w.heap.size + 1 + 1, 0, none⟩), .pointer (some ⟨w.heap.size + 1, 0, none⟩)], .int .i64 ((endN r v K[y] : Nat) : Int), undef, undef, undef, undef], defers := [] }) ?assign ?body ?done ?stop
  case assign =>
    intro l y W K hK
    unfold cntV
    gi_wp2
    exact hK
  case body =>
    rintro l pre y W ⟨⟨hno, b2⟩, hB⟩ hlen
    have HN := Lib.hid hno; clear hno
    have hsW : w.heap.size ≤ W.heap.size := hB.size
    have k2 := b2.cell; have k2f := b2.frozen
    obtain ⟨z, hz⟩ : ∃ z, endN r v K[y] = z := ⟨_, rfl⟩
    have HZ := Lib.hid hz
    rw [hz]
    clear hz
    by_cases hr0 : (0 : Int) < (z : Int)
    · gi_wp2_with fail
      exact ⟨(KeepsOthers.setCell _ _ _).from _, ⟨rfl, ⟨y, by simp, by rw [HZ.out]; omega⟩, b2.set _⟩, hB.setCell (p := ⟨w.heap.size, 0, none⟩) (by simp) _⟩
    · gi_wp2_with fail
      exact ⟨KeepsFrom.refl _ _, KpC.refl _, ⟨fun u hu => (List.mem_append.1 hu).elim (HN.out u) (fun e => by simp at e; subst e; have := HZ.out; show endN r v K[u] = 0; omega), b2⟩, hB⟩
  case done =>
    rintro E ys W hD hys ⟨⟨hno, b2⟩, hB⟩ hK
    have HN := Lib.hid hno; clear hno
    have HY := Lib.hid hys; clear hys
    have c2 := b2.cell
    gi_wp2
    rw [Exit.noGoto_ret]
    refine ⟨by simp, .inl ⟨_, _, rfl, run_takeDeferred (show W.heap[E]? = _ from hK), ?_⟩⟩
    have hall : (K.all fun k => endN r v k == 0) = true := by
      rw [List.all_eq_true]
      intro k hk
      obtain ⟨j, hj, rfl⟩ := List.mem_iff_getElem.1 hk
      have : j ∈ ys.map Fin.val := by rw [HY.out]; exact List.mem_range.2 hj
      obtain ⟨u, hu, rfl⟩ := List.mem_map.1 this
      have := HN.out u hu
      simpa using this
    rw [hall]
    exact ⟨_, by simp [results, Tryd.results32, go_sem], rfl, below_put7 hB (by omega)⟩
  case stop =>
    rintro E c pre W hD ⟨k, hk, hpre⟩ ⟨⟨rfl, hex, b2⟩, hB⟩ hK
    have c2 := b2.cell
    have HE := Lib.hid hex
    clear hpre hex
    gi_wp2
    rw [Exit.noGoto_ret]
    refine ⟨by simp, .inl ⟨_, _, rfl, run_takeDeferred (show W.heap[E]? = _ from hK), ?_⟩⟩
    have hall : (K.all fun k => endN r v k == 0) = false := by
      obtain ⟨y, _, hy⟩ := HE.out
      rw [List.all_eq_false]
      exact ⟨K[y], List.getElem_mem _, by rw [show (endN r v K[y] == 0) = false by rw [beq_eq_false_iff_ne]; omega]; decide⟩
    rw [hall]
    exact ⟨_, by simp [results, Tryd.results32, go_sem], rfl, below_put7 hB (by omega)⟩

theorem none_any (h : PM g A w p q L r v) (hK : KindsAt w b K) (hlen : K.length ≤ 2) (cap : Nat) :
    Calls Tryd.prog 32 #[.pointer (some ⟨p, 0, none⟩), .slice (some ⟨b, 0, none⟩) K.length cap] w fun e w' => e = .returned (.bool (K.all fun k => endN r v k == 0)) ∧ Below w.heap.size w w' := callsIn_wide.1 (none_in h hK hlen cap)
end
end Go.Proofs.YtpfldelmbigmbaaDoor
