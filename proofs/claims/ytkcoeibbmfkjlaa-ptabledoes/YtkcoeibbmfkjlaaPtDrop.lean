/- Package ptable: Drop, walked. -/
import Derived.Test.YtkcoeibbmfkjlaaPtUnmap
namespace Go.Proofs.Ytkcoeibbmfkjlaa
open Go.RowKit Go.Shelf

attribute [local go_sem] Oper.semAt_some

theorem ownFrom_grown {β : Type} {B g : Nat} {w₀ : World} (hB : w₀.heap.size ≤ B) : OwnFrom B (fun (_ : β) W => w₀.grownBy W (some g)) :=
  fun _ _ _ _ hs hg hr => ⟨hg.os.trans hs.os, hg.tape.trans hs.tape, hg.output.trans hs.output, Nat.le_trans hs.size hg.size, fun k hk hne => (hg.block k (Nat.lt_of_lt_of_le hk hs.size) (fun e => by have := (hr k e.symm).1; omega)).trans (hs.block k hk hne)⟩

/-- the tables of these entries are freed. -/
def DropI (T : Nat → Nat × Nat) (R : Nat → Int) (l : List Nat) (R' : Nat → Int) : Prop := (∀ x ∈ l, R' (T x).2 = 0) ∧ (∀ k, (∀ x ∈ l, (T x).2 ≠ k) → R' k = R k)
theorem DropI.nil (T : Nat → Nat × Nat) (R : Nat → Int) : DropI T R [] R := ⟨by simp, fun _ _ => rfl⟩
theorem freeR_at {n t : Nat} {R : Nat → Int} (ht : t < n) (h : R t = 0 ∨ R t = 1) : freeR n R t t = 0 ∧ ∀ k, k ≠ t → freeR n R t k = R k := by
  rcases h with h | h
  · have hl : liveB n R t = false := by simp [liveB, h]
    simp [freeR, hl, h]
  · have hl : liveB n R t = true := by simp [liveB, h, ht]
    simp only [freeR, hl, if_true, Int.toNat_natCast]
    exact ⟨by simp [h], fun k hk => updR_other _ _ hk⟩
theorem DropI.free {n : Nat} {T : Nat → Nat × Nat} {R R' : Nat → Int} {l : List Nat} {x : Nat} (h : DropI T R l R') (h1 : R (T x).2 = 1) (ht : (T x).2 < n) : DropI T R (l ++ [x]) (freeR n R' (T x).2) := by
  have h01 : R' (T x).2 = 0 ∨ R' (T x).2 = 1 := by
    by_cases c : ∀ y ∈ l, (T y).2 ≠ (T x).2
    · exact .inr ((h.2 _ c).trans h1)
    · have : ∃ y, y ∈ l ∧ (T y).2 = (T x).2 := by
        apply Classical.byContradiction
        intro hno
        exact c fun y hy e => hno ⟨y, hy, e⟩
      obtain ⟨y, hy, e⟩ := this
      exact .inl (e ▸ h.1 y hy)
  obtain ⟨f1, f2⟩ := freeR_at ht h01
  refine ⟨fun y hy => ?_, fun k hk => ?_⟩
  · by_cases c : (T y).2 = (T x).2
    · rw [c]; exact f1
    · rw [f2 _ c]
      rcases List.mem_append.1 hy with hy | hy
      · exact h.1 y hy
      · simp at hy; subst hy; exact absurd rfl c
  · have c : k ≠ (T x).2 := fun c => hk x (by simp) c.symm
    rw [f2 _ c]
    exact h.2 k fun y hy => hk y (by simp [hy])
theorem DropI.all {n : Nat} {R R' : Nat → Int} {B : Nat → List UInt8} {root : Nat} {T E : Nat → Nat × Nat} (h : DropI T R (entsTo (B root) 16) R') (r : Rep n R B root T E) : ∀ k, k < n → freeR n R' root k = 0 := by
  have hm : ∀ i, i < 16 → T i ≠ (0, 0) → i ∈ entsTo (B root) 16 := fun i hi hT => by
    unfold entsTo
    exact List.mem_filter.2 ⟨List.mem_range.2 hi, by rw [r.pT hi]; simpa using hT⟩
  have hm2 : ∀ i ∈ entsTo (B root) 16, i < 16 ∧ T i ≠ (0, 0) := fun i hi => by
    unfold entsTo at hi
    obtain ⟨h1, h2⟩ := List.mem_filter.1 hi
    have h1' := List.mem_range.1 h1
    rw [r.pT h1'] at h2
    exact ⟨h1', by simpa using h2⟩
  have hroot : R' root = 1 := (h.2 root fun x hx => (r.tb x (hm2 x hx).1 (hm2 x hx).2).2.2.1).trans r.rR
  obtain ⟨f1, f2⟩ := freeR_at r.rt (.inr hroot)
  intro k hk
  by_cases c : k = root
  · rw [c]; exact f1
  · rw [f2 _ c]
    by_cases c2 : ∀ x ∈ entsTo (B root) 16, (T x).2 ≠ k
    · rw [h.2 k c2]
      exact r.fr k hk c fun i hi hT => c2 i (hm i hi hT)
    · have : ∃ y, y ∈ entsTo (B root) 16 ∧ (T y).2 = k := by
        apply Classical.byContradiction
        intro hno
        exact c2 fun y hy e => hno ⟨y, hy, e⟩
      obtain ⟨y, hy, e⟩ := this
      exact e ▸ h.1 y hy

set_option maxRecDepth 100000 in
set_option maxHeartbeats 400000 in
theorem drop_nil (k : Int) (w : World) : Calls Try.prog 27 #[.pointer none, .int .i64 k] w fun e w' => e = .returned (.int .i64 1) ∧ Below w.heap.size w w' := by
  go_enter Try.func27, Try.ntmps27
  go_wp2_with fail
  refine (checkRoot_nil _ _).mono ?_
  rintro e w' ⟨rfl, rfl⟩
  go_wp2
  go_ret
  exact ⟨rfl, (Below.refl _ _).alloc (Nat.le_refl _) _⟩

section
variable {w : World} {p g n : Nat} {R : Nat → Int} {B : Nat → List UInt8} {root : Nat} {T E : Nat → Nat × Nat}

set_option maxRecDepth 100000 in
set_option maxHeartbeats 400000 in
theorem drop_no (h : MemAt w p g n R B) (k : Int) (hl : liveB n R k = false) : Calls Try.prog 27 #[.pointer (some ⟨p, 0, none⟩), .int .i64 k] w fun e w' => e = .returned (.int .i64 10) ∧ Below w.heap.size w w' := by
  have HL := Lib.hid hl; clear hl
  have HB0 := Lib.hid ((Below.refl _ w).alloc (Nat.le_refl _) (.cells #[.pointer (some ⟨p, 0, none⟩)] 24))
  go_enter Try.func27, Try.ntmps27
  go_wp2_with fail
  generalize w.alloc (.cells #[.pointer (some ⟨p, 0, none⟩)] 24) = W1 at *
  refine (checkRoot_no (h.below2 HB0.out) _ HL.out).mono ?_
  rintro e w2 ⟨rfl, hB2⟩
  have HB2 : Hid (Below w.heap.size w w2) := HB0.out.trans (hB2.mono HB0.out.size)
  clear hB2
  go_wp2
  go_ret
  exact ⟨rfl, HB2.out⟩

set_option maxRecDepth 100000 in
set_option maxHeartbeats 2000000 in
theorem drop_in (h : MemAt w p g n R B) (r : Rep n R B root T E) :
    CallsIn Fence.wide 6 Try.prog 27 #[.pointer (some ⟨p, 0, none⟩), .int .i64 root] w fun e W' =>
      e = .returned (.int .i64 0) ∧ (∃ R' : Nat → Int, MemAt W' p g n R' B ∧ ∀ k, k < n → R' k = 0) ∧ w.grownBy W' (some g) := by
  have hgl := h.g_lt
  have hpl := h.p_lt
  have hrt := r.rt
  have hrl : 0 < R root := by rw [r.rR]; omega
  have HB0 := Lib.hid ((Below.refl _ w).alloc (Nat.le_refl _) (.cells #[.pointer (some ⟨p, 0, none⟩)] 24))
  have bM := Boxed.new w 24 (.pointer (some ⟨p, 0, none⟩))
  refine callsIn_of_wp_marks Try.func27 rfl trivial ?_ rfl
  simp only [Try.ntmps27, List.size_toArray, List.length_cons, List.length_nil, Nat.reduceAdd, Nat.reduceSub, Array.replicate_succ, Array.replicate_zero, List.push_toArray, List.append_toArray, List.nil_append, List.cons_append]
  gi_wp2_with fail
  generalize w.alloc (.cells #[.pointer (some ⟨p, 0, none⟩)] 24) = W1 at *
  refine ⟨trivial, callsIn_wide.2 ((checkRoot_ok (h.below2 HB0.out) _ r.live).mono ?_)⟩
  rintro e w2 ⟨rfl, hB2⟩
  have hB2' : Below w.heap.size w w2 := HB0.out.trans (hB2.mono HB0.out.size)
  have bM2 : Boxed w2 w.heap.size 24 (.pointer (some ⟨p, 0, none⟩)) := bM.kept (grown_of_below hB2 none) (by simp)
  have cM := bM2.cell
  have hs2 := bM2.lt
  clear hB2 bM HB0
  gi_wp2_with (refine ⟨trivial, ?_⟩; gi_at_call 46; refine (entries_in _ _ _ _).mono ?_; rintro e w' ⟨rfl, rfl⟩)
  have bM3 := (bM2.alloc (.cells #[.pointer (some ⟨p, 0, none⟩)] 24)).alloc (.cells #[.int .i64 root] 3)
  have bE := (Boxed.new w2 24 (.pointer (some ⟨p, 0, none⟩))).alloc (.cells #[.int .i64 root] 3)
  have bT := Boxed.new (w2.alloc (.cells #[.pointer (some ⟨p, 0, none⟩)] 24)) 3 (.int .i64 root)
  rw [World.size_alloc] at bT
  have hB3 : Below w.heap.size w ((w2.alloc (.cells #[.pointer (some ⟨p, 0, none⟩)] 24)).alloc (.cells #[.int .i64 root] 3)) := (hB2'.alloc hB2'.size _).alloc (by have := hB2'.size; simp; omega) _
  have hsz : ((w2.alloc (.cells #[.pointer (some ⟨p, 0, none⟩)] 24)).alloc (.cells #[.int .i64 root] 3)).heap.size = w2.heap.size + 2 := by simp
  generalize ((w2.alloc (.cells #[.pointer (some ⟨p, 0, none⟩)] 24)).alloc (.cells #[.int .i64 root] 3)) = W0 at *
  have hM0 := h.below2 hB3
  refine wpIn_rangeFunc_ownH (F := Fence.wide) (n := 6) rfl (by omega) (gf := 61) (lb := #[.pointer (some ⟨w2.heap.size, 0, none⟩), .pointer (some ⟨w2.heap.size + 1, 0, none⟩)]) rfl trivial (enters_of Try.func61 (by kernel_rfl) rfl)
    (entries_stops 5 (by omega) w2.heap.size (w2.heap.size + 1) root hrt hrl W0 hM0 bE.cell bT.cell) KpOne.trans (KpOne.put (by omega)) (Below.refl _ _) (fun _ => rfl)
    (fun pre W => ((∃ R' : Nat → Int, MemAt W p g n R' B ∧ DropI T R (pre.map Subtype.val) R') ∧ Boxed W w.heap.size 24 (.pointer (some ⟨p, 0, none⟩)) ∧ Boxed W (w2.heap.size + 1) 3 (.int .i64 root)) ∧ w.grownBy W (some g))
    (fun _ _ _ => False)
    (OwnFrom.and (OwnFrom.and (Own.from (fun s X Y row hs hg hr => by obtain ⟨R', hm, hd⟩ := hs; exact ⟨R', hm.kept hg hr, hd⟩) _) (OwnFrom.and (Own.from (boxed_own _ _ _) _) (Own.from (boxed_own _ _ _) _))) (ownFrom_grown (by omega)))
    (fun _ _ _ _ _ hs _ _ => hs)
    ⟨⟨⟨R, hM0, DropI.nil T R⟩, bM3, bT⟩, grown_of_below hB3 _⟩
    (fun x a' W => ∃ B2, w2.heap.size + 1 < B2 ∧ Boxed2 W B2 68 (.int .i64 (entP (B root) x.1).1) (.int .i64 (entP (B root) x.1).2) ∧
      a' = { tmps := #[.pointer (some ⟨p, 0, none⟩), .int .i64 root, .pointer (some ⟨w.heap.size, 0, none⟩), undef, .int .i64 0, .int .i64 0, undef, .pointer (some ⟨B2, 0, none⟩), .pointer (some ⟨p, 0, none⟩), .int .i64 root, .int .i64 0, .int .i64 0, .bool false, undef, .pointer (some ⟨p, 0, none⟩), .int .i64 root, (.func (.func 61) #[] #[.pointer (some ⟨w2.heap.size, 0, none⟩), .pointer (some ⟨w2.heap.size + 1, 0, none⟩)]), .agg #[.int .i64 root, .int .i64 x.1], .agg #[.int .i64 (entP (B root) x.1).1, .int .i64 (entP (B root) x.1).2], undef, undef, undef, undef, undef, undef, undef], defers := [] })
    (fun x a' _ X Y row hs hg hr => by obtain ⟨B2, h2, h4, h5⟩ := hs; exact ⟨B2, h2, h4.kept hg (fun r e => (hr r e).2), h5⟩)
    ?assign ?body ?done ?stop
  case assign =>
    rintro l pre x W K ⟨⟨⟨R', hm, hd⟩, bM4, bT4⟩, hG4⟩ hK
    unfold entVals
    gi_wp2
    have hlT := bT4.lt
    exact hK _ _ ((KeepsOthers.alloc _ _).from _) (KpOne.alloc hlT _) ⟨⟨⟨R', hm.alloc _, hd⟩, bM4.alloc _, bT4.alloc _⟩, grown_trans hG4 (World.grownBy_alloc _ _ _)⟩ ⟨W.heap.size, hlT, Boxed2.new W _ _ _, rfl⟩
  case body =>
    rintro l pre x a' W hl _ ⟨⟨⟨R', hm, hd⟩, bM4, bT4⟩, hG4⟩ ⟨B2, h2, bV, rfl⟩ hlt
    have c0 := bM4.cell
    have v1 := bV.c1
    have hlT := bT4.lt
    have HBM := Lib.hid bM4; have HBT := Lib.hid bT4; have HG4 := Lib.hid hG4; have HM := Lib.hid hm
    have HX := Lib.hid (r.pT x.2.1)
    have hTx : T x.1 ≠ (0, 0) := by rw [← r.pT x.2.1]; exact x.2.2
    have HD := Lib.hid (hd.free (n := n) (x := x.1) (r.tb _ x.2.1 hTx).2.2.2.1 (r.tb _ x.2.1 hTx).2.1)
    clear bM4 bT4 bV hG4 hm hd hTx
    gi_wp2_with fail
    refine ⟨trivial, CallsIn.inRound l (callsIn_wide.2 ((free_mem HM.out _).mono ?_))⟩
    rintro e w5 ⟨rfl, hM5, hG5⟩
    have HM5 := Lib.hid hM5
    have HG5 := Lib.hid hG5
    clear hM5 hG5
    gi_wp2
    refine ⟨KeepsFrom.of_grownBy HG5.out (fun j e => by cases e; omega), KpOne.of_grown HG5.out hlT (by omega), ⟨⟨_, HM5.out, ?_⟩, HBM.out.kept HG5.out (fun e => by cases e; omega), HBT.out.kept HG5.out (fun e => by cases e; omega)⟩, grown_trans HG4.out HG5.out⟩
    rw [List.map_append, HX.out]
    exact HD.out
  case done =>
    rintro D zs W hD hzs ⟨⟨⟨R', hm, hd⟩, bM4, bT4⟩, hG4⟩ hK
    have c0 := bM4.cell
    rw [hzs] at hd
    have HD := Lib.hid (hd.all r)
    have hDlt : Hid (D < W.heap.size) := (Array.getElem?_eq_some_iff.1 hK).1
    have HK := Lib.hid hK; have HG4 := Lib.hid hG4; have HM := Lib.hid hm
    clear hzs hd hm hK bM4 bT4 hG4
    gi_wp2_with fail
    refine ⟨trivial, callsIn_wide.2 ((free_mem HM.out _).mono ?_)⟩
    rintro e w5 ⟨rfl, hM5, hG5⟩
    have HK5 := Lib.hid ((hG5.block D hDlt.out (fun e => by cases e; omega)).trans HK.out)
    have HM5 := Lib.hid hM5
    have HG5 := Lib.hid (grown_trans HG4.out hG5)
    clear hM5 hG5
    gi_wp2
    refine ⟨by simp, .inl ⟨_, _, rfl, run_takeDeferred HK5.out, ?_⟩⟩
    exact ⟨_, results_tmp rfl _ _ _, rfl, ⟨_, HM5.out.keep (World.putObj_heap_other (by omega)) (World.putObj_heap_other (by omega)), HD.out⟩, grown_put HG5.out (by omega)⟩
  case stop =>
    rintro D c pre W _ _ h _
    exact h.elim

theorem drop_rep (h : MemAt w p g n R B) (r : Rep n R B root T E) :
    Calls Try.prog 27 #[.pointer (some ⟨p, 0, none⟩), .int .i64 root] w fun e W' =>
      e = .returned (.int .i64 0) ∧ (∃ R' : Nat → Int, MemAt W' p g n R' B ∧ ∀ k, k < n → R' k = 0) ∧ w.grownBy W' (some g) := callsIn_wide.1 (drop_in h r)

end
end Go.Proofs.Ytkcoeibbmfkjlaa
