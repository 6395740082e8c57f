/- Package slots, of string: use, walked, for whatever is to be done. -/
import Derived.Test.YteannfenkmejjaaSlIterS
import Derived.Test.YteannfenkmejjaaSlPat
import Derived.Shelf.RegionOpen
namespace Go.Proofs.Yteannfenkmejjaa
open Go.RowKit Go.Shelf

attribute [local go_sem] Oper.semAt_some

theorem SelS.below {W W' : World} {v : Value} {x : Nat} {L : SlT ByteArray} {sel : Nat → Bool} (h : SelS W v x L sel) (hb : Below W.heap.size W W') (hx : x < W.heap.size) : SelS W' v x L sel := by
  rcases h with h | ⟨id, rfl, hc, hs⟩
  · exact .inl h
  · exact .inr ⟨id, rfl, (hb.cell (p := ⟨x, 0, none⟩) hx).trans hc, hs⟩
theorem numbered_stopsS (n : Nat) (hn : 1 ≤ n) (p Ba Bb x : Nat) (L : SlT ByteArray) (v : Value) (sel : Nat → Bool) (w : World) (hv : SelS w v x L sel) (hx : x < w.heap.size) (hW : MemS w p L) (ba : Boxed w Ba 44 (.pointer (some ⟨p, 0, none⟩))) (bb : Boxed w Bb 34 v) :
    SeqStopsK Fence.wide n Try.prog 48 #[.pointer (some ⟨Ba, 0, none⟩), .pointer (some ⟨Bb, 0, none⟩)] (numVS p L) (Kp4 p Ba Bb x) (fun ys => ys.map Fin.val = (List.range 8).filter sel) (fun pre => ∃ k, k ≤ 8 ∧ pre.map Fin.val = (List.range k).filter sel) 8 w := fun l J Jx W hb hJ _ hY h0 =>
  numbered1_inS n hn l p Ba Bb x L v sel J Jx W hJ hY (hv.below hb hx) (Nat.lt_of_lt_of_le hx hb.size) (hW.below hb) ((hb.block Ba ba.lt).trans ba) ((hb.block Bb bb.lt).trans bb) h0

section
variable {w : World} {p : Nat} {L : SlT ByteArray}

set_option maxRecDepth 100000 in
set_option maxHeartbeats 2000000 in
theorem use_inS (h : MemS w p L) (b : Bool) (F : Nat) (lb : Array Value) (X : Nat → List (Nat × Obj)) (v : Value) (x : Nat) (sel : Nat → Bool) (hv : SelS w v x L sel) (hx : x < w.heap.size) (hX : ∀ i, ∀ y ∈ X i, y.1 < w.heap.size)
    (hent : ∀ args w, (callFunc F args).run Try.prog w = .ok (.enter F args) w)
    (hD : ∀ i, i < 8 → hasS L i = b → ∀ W, Below w.heap.size w W → Calls Try.prog F (#[.int .i64 (idS i (seqS L i)), .pointer (some ⟨p, i * 3, none⟩)] ++ lb) W fun e W' => e = .returned (.tuple #[]) ∧ Pat (X i) W W') :
    CallsIn Fence.wide 8 Try.prog 38 #[.pointer (some ⟨p, 0, none⟩), .bool b, .func (.func F) #[] lb, v] w fun e w' =>
      e = .returned (.int .i64 (useE b ((List.range 8).find? (fun i => sel i && (hasS L i == b))))) ∧ Pat (useX X ((List.range 8).find? (fun i => sel i && (hasS L i == b)))) w w' := by
  refine callsIn_of_wp_marks Try.func38 rfl trivial ?_ rfl
  simp only [Try.ntmps38, List.size_toArray, List.length_cons, List.length_nil, Nat.reduceAdd, Nat.reduceSub, Array.replicate_succ, Array.replicate_zero, List.push_toArray, List.append_toArray, List.nil_append, List.cons_append]
  have hvs : ∃ x l c, v = .slice x l c := by
    rcases hv with ⟨rfl, _⟩ | ⟨_, rfl, _⟩
    · exact ⟨_, _, _, rfl⟩
    · exact ⟨_, _, _, rfl⟩
  gi_wp2_with (refine ⟨trivial, ?_⟩; gi_at_call 44; refine (callsIn_wide.2 (none_any _ _)).mono ?_; rintro e w' ⟨rfl, rfl⟩)
  obtain ⟨ne, hne⟩ : ∃ ne : Int, (if b then 100 else 101) = ne := ⟨_, rfl⟩
  have HNE := Lib.hid hne
  have HNO : Hid (∀ w, Calls Try.prog 44 #[.bool b] w fun e w' => e = .returned (.int .i64 ne) ∧ w' = w) := by rw [← hne]; exact none_any b
  have HV := Lib.hid hv; have HD := Lib.hid hD; have HX := Lib.hid hX; have HM := Lib.hid h
  have hpl := h.lt
  clear hne hv hD hX h
  refine wpIn_scope' ?_
  gi_wp2_with (refine ⟨trivial, ?_⟩; gi_at_call 44; refine (callsIn_wide.2 (HNO.out _)).mono ?_; rintro e w' ⟨rfl, rfl⟩)
  refine wpIn_label ?_
  gi_wp2_with (refine ⟨trivial, ?_⟩; gi_at_call 43; refine (numbered_inS _ _ _ ⟨_, rfl⟩ hvs _).mono ?_; rintro e w' ⟨rfl, rfl⟩)
  have bB := ((((Boxed.new w 4 (.bool b)).alloc (.cells #[.func (.func F) #[] lb] 73)).alloc (.cells #[.int .i64 ne] 37)).alloc (.cells #[.pointer (some ⟨p, 0, none⟩)] 44)).alloc (.cells #[v] 34)
  have bF := (((Boxed.new (w.alloc (.cells #[.bool b] 4)) 73 (.func (.func F) #[] lb)).alloc (.cells #[.int .i64 ne] 37)).alloc (.cells #[.pointer (some ⟨p, 0, none⟩)] 44)).alloc (.cells #[v] 34)
  have bE := ((Boxed.new ((w.alloc (.cells #[.bool b] 4)).alloc (.cells #[.func (.func F) #[] lb] 73)) 37 (.int .i64 ne)).alloc (.cells #[.pointer (some ⟨p, 0, none⟩)] 44)).alloc (.cells #[v] 34)
  have bS := (Boxed.new (((w.alloc (.cells #[.bool b] 4)).alloc (.cells #[.func (.func F) #[] lb] 73)).alloc (.cells #[.int .i64 ne] 37)) 44 (.pointer (some ⟨p, 0, none⟩))).alloc (.cells #[v] 34)
  have bI := Boxed.new ((((w.alloc (.cells #[.bool b] 4)).alloc (.cells #[.func (.func F) #[] lb] 73)).alloc (.cells #[.int .i64 ne] 37)).alloc (.cells #[.pointer (some ⟨p, 0, none⟩)] 44)) 34 v
  have hB0 : Below w.heap.size w (((((w.alloc (.cells #[.bool b] 4)).alloc (.cells #[.func (.func F) #[] lb] 73)).alloc (.cells #[.int .i64 ne] 37)).alloc (.cells #[.pointer (some ⟨p, 0, none⟩)] 44)).alloc (.cells #[v] 34)) := ((((((Below.refl _ w).alloc (Nat.le_refl _) _).alloc (by simp) _).alloc (by simp; omega) _).alloc (by simp; omega) _).alloc (by simp; omega) _)
  have hsz : (((((w.alloc (.cells #[.bool b] 4)).alloc (.cells #[.func (.func F) #[] lb] 73)).alloc (.cells #[.int .i64 ne] 37)).alloc (.cells #[.pointer (some ⟨p, 0, none⟩)] 44)).alloc (.cells #[v] 34)).heap.size = w.heap.size + 1 + 1 + 1 + 1 + 1 := by simp
  simp only [World.size_alloc] at bB bF bE bS bI
  generalize (((((w.alloc (.cells #[.bool b] 4)).alloc (.cells #[.func (.func F) #[] lb] 73)).alloc (.cells #[.int .i64 ne] 37)).alloc (.cells #[.pointer (some ⟨p, 0, none⟩)] 44)).alloc (.cells #[v] 34)) = W0 at *
  refine wpIn_rangeFunc_ownG (F := Fence.wide) (n := 8) rfl (by omega) (gf := 48) (lb := #[.pointer (some ⟨w.heap.size + 1 + 1 + 1, 0, none⟩), .pointer (some ⟨w.heap.size + 1 + 1 + 1 + 1, 0, none⟩)]) rfl trivial (enters_of Try.func48 (by kernel_rfl) rfl)
    (numbered_stopsS 7 (by omega) p (w.heap.size + 1 + 1 + 1) (w.heap.size + 1 + 1 + 1 + 1) x L v sel W0 (HV.out.below hB0 hx) (by omega) (HM.out.below hB0) bS bI) Kp4.trans (fun W l o o' hl _ _ _ => Kp4.put W l o' (by omega) (by omega) (by omega) (by omega)) (Below.refl _ _) (fun _ => rfl)
    (fun pre W => ((∀ y ∈ pre, (hasS L y.1 == b) = false) ∧ Boxed W w.heap.size 4 (.bool b) ∧ Boxed W (w.heap.size + 1) 73 (.func (.func F) #[] lb) ∧ Boxed W (w.heap.size + 1 + 1) 37 (.int .i64 ne)) ∧ Below w.heap.size w W)
    (fun c pre W => (c = .exit 0 ∧ ∃ (ini : List (Fin 8)) (last : Fin 8), pre = ini ++ [last] ∧ (∀ y ∈ ini, (hasS L y.1 == b) = false) ∧ (hasS L last.1 == b) = true ∧ Boxed W (w.heap.size + 1 + 1) 37 (.int .i64 0) ∧ Pat (X last.1) w W))
    (OwnFrom.and (Own.from (fun s A B row hs hg hr => ⟨hs.1, boxed_keep7 hs.2.1 hg hr, boxed_keep7 hs.2.2.1 hg hr, boxed_keep7 hs.2.2.2 hg hr⟩) _) (ownFrom_below (Nat.le_refl _) (by omega)))
    (fun c s A B row hs hg hr => by obtain ⟨hc, ini, last, e1, e2, e3, e5, e6⟩ := hs; exact ⟨hc, ini, last, e1, e2, e3, boxed_keep7 e5 hg (fun r e => (hr r e).2), e6.grown (HX.out _) hg (fun r e => by have := (hr r e).1; omega)⟩)
    ⟨⟨by simp, bB, bF, bE⟩, hB0⟩
    (fun y => { tmps := #[.pointer (some ⟨p, 0, none⟩), .bool b, .func (.func F) #[] lb, v, undef, .pointer (some ⟨w.heap.size, 0, none⟩), .pointer (some ⟨w.heap.size + 1, 0, none⟩), undef, .int .i64 0, .pointer (some ⟨w.heap.size + 1 + 1, 0, none⟩), .int .i64 (idS y.1 (seqS L y.1)), .pointer (some ⟨p, y.1 * 3, none⟩), .pointer (some ⟨p, 0, none⟩), .bool false, .bool b, .int .i64 ne, .pointer (some ⟨p, 0, none⟩), v, .func (.func 48) #[] #[.pointer (some ⟨w.heap.size + 1 + 1 + 1, 0, none⟩), .pointer (some ⟨w.heap.size + 1 + 1 + 1 + 1, 0, none⟩)], .int .i64 (idS y.1 (seqS L y.1)), .pointer (some ⟨p, y.1 * 3, none⟩), undef, undef, undef, undef, undef, undef, undef, undef, undef, undef, undef], defers := [] }) ?assign ?body ?done ?stop
  case assign =>
    intro l y W K hK
    unfold numVS
    gi_wp2
    exact hK
  case body =>
    rintro l pre y W ⟨⟨hno, b1, b2, b3⟩, hB⟩ hlen
    have HN := Lib.hid hno; clear hno
    have hsW : w.heap.size ≤ W.heap.size := hB.size
    have k1 := b1.cell; have k2 := b2.cell
    have q1 := (HM.out.below hB).c1 y.2
    have cD := HD.out y.1 y.2
    have HB := Lib.hid hB
    have HB1 := Lib.hid b1; have HB2 := Lib.hid b2; have HB3 := Lib.hid b3
    clear b1 b2 b3 hB
    generalize idS y.1 (seqS L y.1) = a at *
    by_cases hr0 : (hasS L y.1 == b) = true
    · have hc := cD (by simpa using hr0)
      have HR0 := Lib.hid hr0
      have HC := Lib.hid hc
      clear cD hc
      gi_wp2_with fail
      gi_region
      all_goals
        gi_wp2_with fail
        refine ⟨trivial, (CallsIn.inRound l (callsIn_wide.2 (HC.out W.drew (below_drew7 HB.out)))).mono ?_⟩
        rintro e W1 ⟨rfl, hP⟩
        have hlt := HB3.out.lt
        have b3 : Boxed W1 (w.heap.size + 1 + 1) 37 (.int .i64 ne) := (hP.block _ hlt (fun z hz e => by have := HX.out _ z hz; omega)).trans HB3.out
        have hP2 : Pat (X y.1) w W1 := Pat.comp (below_drew7 HB.out) (Nat.le_refl _) hP
        have c3 := b3.cell; have f3 := b3.frozen
        have HP := Lib.hid hP; have HP2 := Lib.hid hP2; have HB4 := Lib.hid b3
        clear hP hP2 b3
        gi_wp2
        exact ⟨(KeepsFrom.trans (X := W) (Y := W.drew) ⟨Nat.le_refl _, fun _ _ _ h _ => h⟩ (HP.out.from (B := W0.heap.size) (fun z hz => by have := HX.out _ z hz; omega))).trans ((KeepsOthers.setCell _ _ _).from _), rfl, pre, y, rfl, HN.out, HR0.out, HB4.out.set _, HP2.out.setHi (HX.out _) (by omega) _ _⟩
    · have hr' : (hasS L y.1 == b) = false := by simpa using hr0
      have HR0 := Lib.hid hr'
      clear cD
      gi_wp2_with fail
      gi_region
      all_goals
        gi_wp2
        exact ⟨⟨Nat.le_refl _, fun _ _ _ h _ => h⟩, ⟨rfl, rfl, rfl, rfl⟩, ⟨fun z hz => (List.mem_append.1 hz).elim (HN.out z) (fun e => by simp at e; subst e; exact HR0.out), HB1.out, HB2.out, HB3.out⟩, below_drew7 HB.out⟩
  case done =>
    rintro E ys W hD hys ⟨⟨hno, b1, b2, b3⟩, hB⟩ hK
    have HN := Lib.hid hno; clear hno
    have HY := Lib.hid hys; clear hys
    have c3 := b3.cell
    gi_wp2
    rw [Exit.noGoto_ret]
    refine ⟨by simp, .inl ⟨_, _, rfl, run_takeDeferred (show W.heap[E]? = _ from hK), ?_⟩⟩
    have hz := find_done (t := fun i => hasS L i == b) HY.out (fun a ha => by
      obtain ⟨z, hz, rfl⟩ := List.mem_map.1 ha
      exact HN.out z hz)
    rw [hz]
    exact ⟨_, results_tmp rfl _ _ _, by rw [← HNE.out]; rfl, (Pat.nil hB).putHi (fun _ h => by cases h) (by omega) _⟩
  case stop =>
    rintro E c pre W hD ⟨k, hk, hpre⟩ ⟨rfl, ini, last, e1, e2, e3, b3, hP⟩ hK
    have c3 := b3.cell
    have HP := Lib.hid hP
    have HE := Lib.hid e2
    have HPR := Lib.hid hpre
    have HQ := Lib.hid e1
    have HL := Lib.hid e3
    clear e2 hpre e1 e3 hP
    gi_wp2
    rw [Exit.noGoto_ret]
    refine ⟨by simp, .inl ⟨_, _, rfl, run_takeDeferred (show W.heap[E]? = _ from hK), ?_⟩⟩
    have hz := find_stop (sel := sel) (t := fun i => hasS L i == b) (A := ini.map Fin.val) (j := last.1) hk (by rw [← HPR.out, HQ.out, List.map_append]; rfl) (fun a ha => by
      obtain ⟨z, hz, rfl⟩ := List.mem_map.1 ha
      exact HE.out z hz) HL.out
    rw [hz]
    exact ⟨_, results_tmp rfl _ _ _, rfl, HP.out.putHi (HX.out _) (by omega) _⟩
end
end Go.Proofs.Yteannfenkmejjaa
