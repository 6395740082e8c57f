/- Package queue, of int: find, walked. -/
import Derived.Test.YtaofnpnmgmieiaaQuIterI
import Derived.Test.YtaofnpnmgmieiaaQuSameI
import Derived.Test.YtaofnpnmgmieiaaQuTakeI
import Derived.RangeFuncBox
import Derived.BigRegionIn
namespace Go.Proofs.Ytaofnpnmgmieiaa
open Go.RowKit Go.Shelf

attribute [local go_sem] Oper.semAt_some

section
variable {w : World} {q f n B : Nat} {L : List Int}

set_option maxRecDepth 100000 in
set_option maxHeartbeats 2000000 in
theorem find_inI (hW : PartsAtI w q B f L) (x : Int) :
    CallsIn Fence.wide 6 Try.prog 27 #[(.int .i64 x), .slice (some ⟨B, 0, none⟩) 2 2] w fun e w' => e = .returned (.tuple #[.int .i64 (idxQ L x : Int), .bool (L.contains x)]) ∧ Below w.heap.size w w' := by
  refine callsIn_of_wp_marks Try.func27 rfl trivial ?_ rfl
  simp only [Try.ntmps27, List.size_toArray, List.length_cons, List.length_nil, Nat.reduceAdd, Nat.reduceSub, Array.replicate_succ, Array.replicate_zero, List.push_toArray, List.append_toArray, List.nil_append, List.cons_append]
  gi_wp2
  refine wpIn_scope' ?_
  gi_wp2
  refine wpIn_label ?_
  gi_wp2_with (refine ⟨trivial, ?_⟩; gi_at_call 34; refine (inOrderI _ _ _ _ _).mono ?_; rintro e w' ⟨rfl, rfl⟩)
  have bV := ((((Boxed.new w 3 (.int .i64 x)).alloc (.cells #[.int .i64 0] 3)).alloc (.cells #[.bool false] 4)).alloc (.cells #[.slice (some ⟨B, 0, none⟩) 2 2] 59))
  have bK := ((Boxed.new (w.alloc (.cells #[(.int .i64 x)] 3)) 3 (.int .i64 0)).alloc (.cells #[.bool false] 4)).alloc (.cells #[.slice (some ⟨B, 0, none⟩) 2 2] 59)
  have bF := (Boxed.new ((w.alloc (.cells #[(.int .i64 x)] 3)).alloc (.cells #[.int .i64 0] 3)) 4 (.bool false)).alloc (.cells #[.slice (some ⟨B, 0, none⟩) 2 2] 59)
  have bP := BoxA.new (((w.alloc (.cells #[(.int .i64 x)] 3)).alloc (.cells #[.int .i64 0] 3)).alloc (.cells #[.bool false] 4)) 59 #[.slice (some ⟨B, 0, none⟩) 2 2]
  have hB0 : Below w.heap.size w ((((w.alloc (.cells #[(.int .i64 x)] 3)).alloc (.cells #[.int .i64 0] 3)).alloc (.cells #[.bool false] 4)).alloc (.cells #[.slice (some ⟨B, 0, none⟩) 2 2] 59)) := (((((Below.refl _ w).alloc (Nat.le_refl _) _).alloc (by simp) _).alloc (by simp; omega) _).alloc (by simp; omega) _)
  have hsz : ((((w.alloc (.cells #[(.int .i64 x)] 3)).alloc (.cells #[.int .i64 0] 3)).alloc (.cells #[.bool false] 4)).alloc (.cells #[.slice (some ⟨B, 0, none⟩) 2 2] 59)).heap.size = w.heap.size + 1 + 1 + 1 + 1 := by simp
  simp only [World.size_alloc] at bK bF bP
  generalize ((((w.alloc (.cells #[(.int .i64 x)] 3)).alloc (.cells #[.int .i64 0] 3)).alloc (.cells #[.bool false] 4)).alloc (.cells #[.slice (some ⟨B, 0, none⟩) 2 2] 59)) = W0 at *
  refine wpIn_rangeFunc_ownG (F := Fence.wide) (n := 6) rfl (by omega) (gf := 39) (lb := #[.pointer (some ⟨w.heap.size + 1 + 1 + 1, 0, none⟩)]) rfl trivial (enters_of Try.func39 (by kernel_rfl) rfl)
    (inOrder_stopsI 5 (by omega) (w.heap.size + 1 + 1 + 1) w.heap.size _ (hW.below hB0) bP) KpC.trans (KpC.put (by omega)) (Below.refl _ _) (fun _ => rfl)
    (fun pre W => ((∀ y ∈ pre, (x == L[y.1]) = false) ∧ Boxed W w.heap.size 3 (.int .i64 x) ∧ Boxed W (w.heap.size + 1) 3 (.int .i64 0) ∧ Boxed W (w.heap.size + 1 + 1) 4 (.bool false)) ∧ Below w.heap.size w W)
    (fun c pre W => (c = .exit 0 ∧ ∃ (ini : List (Fin L.length)) (last : Fin L.length), pre = ini ++ [last] ∧ (∀ y ∈ ini, (x == L[y.1]) = false) ∧ (x == L[last.1]) = true ∧ Boxed W (w.heap.size + 1) 3 (.int .i64 (last.1 : Int)) ∧ Boxed W (w.heap.size + 1 + 1) 4 (.bool true)) ∧ Below w.heap.size w W)
    (OwnFrom.and (Own.from (fun s A B row hs hg hr => ⟨hs.1, boxed_keep7 hs.2.1 hg hr, boxed_keep7 hs.2.2.1 hg hr, boxed_keep7 hs.2.2.2 hg hr⟩) _) (ownFrom_below (Nat.le_refl _) (by omega)))
    (fun c => OwnFrom.and (Own.from (fun s A B row hs hg hr => by obtain ⟨hc, ini, last, e1, e2, e3, e4, e5⟩ := hs; exact ⟨hc, ini, last, e1, e2, e3, boxed_keep7 e4 hg hr, boxed_keep7 e5 hg hr⟩) _) (ownFrom_below (Nat.le_refl _) (by omega)))
    ⟨⟨by simp, bV, bK, bF⟩, hB0⟩
    (fun y => { tmps := #[(.int .i64 x), .slice (some ⟨B, 0, none⟩) 2 2, .pointer (some ⟨w.heap.size, 0, none⟩), undef, .int .i64 0, .bool false, .pointer (some ⟨w.heap.size + 1, 0, none⟩), .pointer (some ⟨w.heap.size + 1 + 1, 0, none⟩), .int .i64 (y.1 : Int), (.int .i64 L[y.1]), .slice (some ⟨B, 0, none⟩) 2 2, .func (.func 39) #[] #[.pointer (some ⟨w.heap.size + 1 + 1 + 1, 0, none⟩)], .int .i64 (y.1 : Int), (.int .i64 L[y.1]), undef, undef, undef, undef, undef, undef], defers := [] }) ?assign ?body ?done ?stop
  case assign =>
    intro l y W K hK
    unfold eltI
    gi_wp2
    exact hK
  case body =>
    rintro l pre y W ⟨⟨hno, b1, b2, b3⟩, hB⟩ hlen
    have HN := Lib.hid hno; clear hno
    have hsW : w.heap.size ≤ W.heap.size := hB.size
    have c1 := b1.cell
    by_cases hr : (x == L[y.1]) = true
    · gi_wp2_with (refine ⟨trivial, ?_⟩; gi_at_call 35; refine (CallsIn.inRound l (callsIn_wide.2 (sameI x L[y.1] _))).mono ?_; rintro e w1 ⟨rfl, hB1⟩; rw [hr]; have HB1 := Lib.hid hB1; have b2' := b2.kept (grown_of_below7 hB1 none) (by simp); have b3' := b3.kept (grown_of_below7 hB1 none) (by simp); have k2 := b2'.cell; have k3 := b3'.cell; have k2f := b2'.frozen; have k3f := b3'.frozen; clear hB1)
      exact ⟨(((KeepsOthers.of_grownBy (grown_of_below7 HB1.out none) (fun j o e => by cases e)).trans (KeepsOthers.setCell _ _ _)).trans (KeepsOthers.setCell _ _ _)).from _, ⟨rfl, pre, y, rfl, HN.out, hr, (b2'.set _).other (by omega) _, (b3'.other (by omega) _).set _⟩, ((hB.trans (HB1.out.mono hsW)).setCell (p := ⟨w.heap.size + 1, 0, none⟩) (by simp) _).setCell (p := ⟨w.heap.size + 1 + 1, 0, none⟩) (by simp; omega) _⟩
    · have hr' : (x == L[y.1]) = false := by simpa using hr
      gi_wp2_with (refine ⟨trivial, ?_⟩; gi_at_call 35; refine (CallsIn.inRound l (callsIn_wide.2 (sameI x L[y.1] _))).mono ?_; rintro e w1 ⟨rfl, hB1⟩; rw [hr']; have HB1 := Lib.hid hB1; clear hB1)
      exact ⟨(KeepsOthers.of_grownBy (grown_of_below7 HB1.out none) (fun j o e => by cases e)).from _, KpC.of_below hsW HB1.out, ⟨fun z hz => (List.mem_append.1 hz).elim (HN.out z) (fun e => by simp at e; subst e; exact hr'), b1.kept (grown_of_below7 HB1.out none) (by simp), b2.kept (grown_of_below7 HB1.out none) (by simp), b3.kept (grown_of_below7 HB1.out none) (by simp)⟩, hB.trans (HB1.out.mono hsW)⟩
  case done =>
    rintro D ys W hD hys ⟨⟨hno, b1, b2, b3⟩, hB⟩ hK
    have HN := Lib.hid hno; clear hno
    have HY := Lib.hid hys; clear hys
    have c2 := b2.cell
    have c3 := b3.cell
    gi_wp2
    gi_region
    gi_wp2
    rw [Exit.noGoto_ret]
    refine ⟨by simp, .inl ⟨_, _, rfl, run_takeDeferred (show W.drew.heap[D]? = _ from hK), ?_⟩⟩
    obtain ⟨h1, h2⟩ := find_no (L := L) (x := x) (fun j hj => by
      have : j ∈ ys.map Fin.val := by rw [HY.out]; exact List.mem_range.2 hj
      obtain ⟨z, hz, rfl⟩ := List.mem_map.1 this
      exact HN.out z hz)
    rw [h1, h2]
    exact ⟨_, results_tmp2 rfl _ _ _, rfl, below_put7 (below_drew7 hB) (by omega)⟩
  case stop =>
    rintro D c pre W hD ⟨k, hk, hpre⟩ ⟨⟨rfl, ini, last, e1, e2, e3, b2, b3⟩, hB⟩ hK
    have c2 := b2.cell
    have c3 := b3.cell
    have HE := Lib.hid e2
    have HP := Lib.hid hpre
    have HQ := Lib.hid e1
    have HX := Lib.hid e3
    clear e2 hpre e1 e3
    gi_wp2
    gi_region
    gi_wp2
    rw [Exit.noGoto_ret]
    refine ⟨by simp, .inl ⟨_, _, rfl, run_takeDeferred (show W.drew.heap[D]? = _ from hK), ?_⟩⟩
    obtain ⟨h1, h2⟩ := find_yes (L := L) (x := x) last.2 HX.out (fun j hj => by
      have hpre := HP.out
      rw [HQ.out, List.map_append] at hpre
      have hl : ini.length + 1 = k := by have := congrArg List.length hpre; simpa using this
      have hk' : List.range k = List.range ini.length ++ [ini.length] := by rw [← hl, List.range_succ]
      rw [hk'] at hpre
      obtain ⟨h1, h2⟩ := List.append_inj hpre (by simp)
      have h3 : last.1 = ini.length := by simpa using h2
      have : j ∈ ini.map Fin.val := by rw [h1]; exact List.mem_range.2 (by omega)
      obtain ⟨z, hz, rfl⟩ := List.mem_map.1 this
      exact HE.out z hz)
    rw [h1, h2]
    exact ⟨_, results_tmp2 rfl _ _ _, rfl, below_put7 (below_drew7 hB) (by omega)⟩

theorem findI (hW : PartsAtI w q B f L) (x : Int) :
    Calls Try.prog 27 #[(.int .i64 x), .slice (some ⟨B, 0, none⟩) 2 2] w fun e w' => e = .returned (.tuple #[.int .i64 (idxQ L x : Int), .bool (L.contains x)]) ∧ Below w.heap.size w w' := callsIn_wide.1 (find_inI hW x)

set_option maxHeartbeats 400000 in
theorem drop_nilI (x : Int) (w : World) : Calls Try.prog 15 #[.pointer none, (.int .i64 x)] w fun e w' => e = .returned (.int .i64 1) ∧ w' = w := by
  go_enter Try.func15, Try.ntmps15
  go_wp2
  go_ret
  exact ⟨rfl, rfl⟩

set_option maxRecDepth 100000 in
set_option maxHeartbeats 1000000 in
theorem dropI (h : QAt encI w q 53 f L) (x : Int) : Calls Try.prog 15 #[.pointer (some ⟨q, 0, none⟩), (.int .i64 x)] w fun e w' => e = .returned (.int .i64 (dropE L x)) ∧ (∃ f', QAt encI w' q 53 f' (L.erase x)) ∧ Tur q w w' := by
  have HH := Lib.hid h
  have P := partsI h
  unfold dropE
  clear h
  go_enter Try.func15, Try.ntmps15
  by_cases c : L.contains x = true
  · obtain ⟨k, hk, hx, hf, he⟩ := erase_found c
    have HE := Lib.hid he; have HX := Lib.hid hx
    clear he hx
    rw [if_pos c]
    go_wp2_with (first
      | (go_at_call 28; refine P.mono ?_; clear P; rintro e w1 ⟨B, o, rfl, hb, ho, hbx, hB⟩; have H1 := Lib.hid (HH.out.below' hB); have HB1 := Lib.hid hB; have F := findI ⟨H1.out, o, ho, hbx⟩ x; rw [c, hf] at F; clear hB hb ho hbx)
      | (go_at_call 27; refine F.mono ?_; clear F; rintro e w2 ⟨rfl, hB⟩; have H2 := Lib.hid (H1.out.below' hB); have HB2 := Lib.hid (HB1.out.trans (hB.mono HB1.out.size)); have T := takeI H2.out k x HX.out; clear hB)
      | (go_at_call 26; refine T.mono ?_; clear T; rintro e w3 ⟨rfl, h3, t3⟩; have H3 := Lib.hid h3; have HT3 := Lib.hid t3; clear h3 t3))
    go_ret
    exact ⟨rfl, ⟨_, by rw [HE.out]; exact H3.out⟩, (Tur.of_below HB2.out).trans HT3.out⟩
  · have c' : L.contains x = false := by simpa using c
    have HN : Hid (¬ x ∈ L) := by unfold Hid; simpa using c
    rw [if_neg c]
    go_wp2_with (first
      | (go_at_call 28; refine P.mono ?_; clear P; rintro e w1 ⟨B, o, rfl, hb, ho, hbx, hB⟩; have H1 := Lib.hid (HH.out.below' hB); have HB1 := Lib.hid hB; have F := findI ⟨H1.out, o, ho, hbx⟩ x; rw [c'] at F; clear hB hb ho hbx)
      | (go_at_call 27; refine F.mono ?_; clear F; rintro e w2 ⟨rfl, hB⟩; have H2 := Lib.hid (H1.out.below' hB); have HB2 := Lib.hid (HB1.out.trans (hB.mono HB1.out.size)); clear hB))
    go_ret
    exact ⟨rfl, ⟨_, by rw [List.erase_of_not_mem HN.out]; exact H2.out⟩, Tur.of_below HB2.out⟩
end
end Go.Proofs.Ytaofnpnmgmieiaa
