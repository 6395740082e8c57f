/- Package files, as functions on a list of descriptors: Fork that is done, walked. -/
import Derived.Test.YtfgigofmmapbmaaFiFork
namespace Go.Proofs.Ytfgigofmmapbmaa
open Go.RowKit Go.Shelf

attribute [local go_sem] Oper.semAt_some

section
variable {w w' : World} {S : Nat → Prop} {p : Nat} {m m' : Option Nat} {L L' : List FV} {n n' : Nat} {F F' : List OF} {D D' : List (Int × Fds)} {φ φ' : Int → Nat}

/-- what some descriptors handed on come to. -/
def stepFk (r : Fds) (F : List OF) (y : Nat) : List OF := if numAt r y = 0 then F else more1 F ((numAt r y).toNat - 1)
def stepDk (r : Fds) (c : Int) (D : List (Int × Fds)) (y : Nat) : List (Int × Fds) := if numAt r y = 0 then D else keepD D c ((rowD D c).set y (numAt r y))
def forkF (r : Fds) (ys : List Nat) (F : List OF) : List OF := ys.foldl (stepFk r) F
def forkD (r : Fds) (c : Int) (ys : List Nat) (D : List (Int × Fds)) : List (Int × Fds) := ys.foldl (stepDk r c) D
theorem forkF_snoc (r : Fds) (ys : List Nat) (y : Nat) (F : List OF) : forkF r (ys ++ [y]) F = stepFk r (forkF r ys F) y := by unfold forkF; rw [List.foldl_append]; rfl
theorem forkD_snoc (r : Fds) (c : Int) (ys : List Nat) (y : Nat) (D : List (Int × Fds)) : forkD r c (ys ++ [y]) D = stepDk r c (forkD r c ys D) y := by unfold forkD; rw [List.foldl_append]; rfl
def BndK (k : Nat) (F : List OF) : Prop := ∀ x ∈ F, 0 ≤ x.refs ∧ x.refs ≤ 80000 + (k : Int)
theorem BndK.step {k : Nat} {F : List OF} (h : BndK k F) (r : Fds) (y : Nat) : BndK (k + 1) (stepFk r F y) := by
  unfold stepFk
  split
  · intro x hx
    have := h x hx
    omega
  · intro z hz
    unfold more1 at hz
    obtain ⟨j, hj, rfl⟩ := List.mem_iff_getElem.1 hz
    rw [List.getElem_modify]
    have hm : F[j]'(by simpa using hj) ∈ F := List.getElem_mem _
    have := h _ hm
    split
    · dsimp only; omega
    · omega
theorem forkF_bnd (r : Fds) : ∀ (ys : List Nat) (k : Nat) (F : List OF), BndK k F → BndK (k + ys.length) (forkF r ys F)
  | [], k, F, hk => hk
  | y :: ys, k, F, hk => by
    have := forkF_bnd r ys (k + 1) (stepFk r F y) (hk.step r y)
    rw [show k + (y :: ys).length = k + 1 + ys.length by simp; omega]
    exact this
theorem forked_range (hw : WF L n) (hF : RelF φ F L n) (hD : RelD φ D L) (ok : DOk D) {P c : Int} {r : Fds} (hr : rowD D P = r) (hz : rowD D c = zero8) : ∀ j : Nat, j ≤ 8 → Forked φ (forkF r (List.range j) F) (forkD r c (List.range j) D) D L n P c r j ∧ DOk (forkD r c (List.range j) D)
  | 0, _ => ⟨⟨by
      have : L ++ moreJ L P c 0 = L := by
        unfold moreJ
        rw [List.filter_eq_nil_iff.2 (fun x hx => by have := (hw.ok x hx).2.1; simp; intro _; omega)]
        simp
      rw [this]; exact hF, by rw [List.take_zero, List.nil_append]; exact hz, fun _ _ => rfl⟩, ok⟩
  | j + 1, hj => by
    obtain ⟨h, hok⟩ := forked_range hw hF hD ok hr hz j (by omega)
    have h8 : r.length = 8 := by rw [← hr]; exact rowD_len ok P
    have hn : numAt r j = numI φ L P j := by rw [← hr]; exact numAt_rel hD (by omega)
    have hrj : r[j]? = some (numI φ L P j) := by rw [← hr]; exact hD P j (by omega)
    rw [List.range_succ, forkF_snoc, forkD_snoc]
    generalize forkF r (List.range j) F = F1 at *
    generalize forkD r c (List.range j) D = D1 at *
    unfold stepFk stepDk
    rw [hn]
    cases e : look L P j with
    | none =>
      rw [numI_none e] at hrj ⊢
      rw [if_pos rfl, if_pos rfl]
      exact ⟨⟨fork_no hw e h.relF, by rw [h.row]; exact rows_same h8 (by omega) hrj, h.others⟩, hok⟩
    | some x =>
      have hlo := hF.lo x (look_is e).1
      rw [numI_some e] at hrj ⊢
      rw [if_neg (by omega), if_neg (by omega), Int.toNat_natCast]
      refine ⟨⟨fork_yes hw e h.relF, ?_, fun q hq => ?_⟩, hok.keep (by rw [List.length_set]; exact rowD_len hok c)⟩
      · rw [rowD_keep hok, if_pos rfl, h.row]
        exact rows_next h8 (by omega) hrj
      · rw [rowD_keep hok, if_neg hq]
        exact h.others q hq

/-- what holds behind some rounds. -/
def ForkI (w : World) (p : Nat) (m : Option Nat) (F : List OF) (D : List (Int × Fds)) (c : Int) (r : Fds) (pre : List (Fin 8)) (W : World) : Prop :=
  FM W p m (forkF r (pre.map Fin.val) F) (forkD r c (pre.map Fin.val) D) ∧ BoxA W w.heap.size 24 #[.pointer (some ⟨p, 0, none⟩)] ∧ BoxA W (w.heap.size + 1) 3 #[.int .i64 c] ∧ MvF p m m w W
theorem ForkI.own {B : Nat} {c : Int} {r : Fds} (hp : p < B) (hm : ∀ k, m = some k → k < B) (hb : w.heap.size ≤ B) : OwnFrom B (ForkI w p m F D c r) := fun s X Y row hs hg hr =>
  ⟨hs.1.grown hg (fun e => by have := (hr p e).1; omega) (fun k e e' => by have := (hr k e').1; have := hm k e; omega), hs.2.1.kept hg (fun r e => (hr r e).2), hs.2.2.1.kept hg (fun r e => (hr r e).2), hs.2.2.2.grown hg (fun k e => by have := (hr k e).1; omega)⟩

set_option maxRecDepth 100000 in
set_option maxHeartbeats 4000000 in
theorem fork_ok (h : FM w p m F D) (hw : WF L n) (hF : RelF φ F L n) (hD : RelD φ D L) (hl : L.length ≤ 80000) (P c : Int) (h1 : ¬ P < 1) (h2 : ¬ c < 1) (hz : rowD D c = zero8) : CallsIn Fence.wide 6 Try.prog 20 #[.pointer (some ⟨p, 0, none⟩), .int .i64 P, .int .i64 c] w fun e w' =>
    e = .returned (.int .i64 0) ∧ FM w' p m (forkF (rowD D P) (List.range 8) F) (forkD (rowD D P) c (List.range 8) D) ∧ MvF p m m w w' := by
  refine callsIn_of_wp_marks Try.func20 rfl trivial ?_ rfl
  simp only [Try.ntmps20, List.size_toArray, List.length_cons, List.length_nil, Nat.reduceAdd, Nat.reduceSub, Array.replicate_succ, Array.replicate_zero, List.push_toArray, List.append_toArray, List.nil_append, List.cons_append]
  have hM := ((MvF.refl (p := p) (m := m) w).alloc (.cells #[.pointer (some ⟨p, 0, none⟩)] 24)).alloc (.cells #[.int .i64 c] 3)
  have hh := (h.alloc (.cells #[.pointer (some ⟨p, 0, none⟩)] 24)).alloc (.cells #[.int .i64 c] 3)
  have bM := (BoxA.new w 24 #[.pointer (some ⟨p, 0, none⟩)]).alloc (.cells #[.int .i64 c] 3)
  have bT := BoxA.new (w.alloc (.cells #[.pointer (some ⟨p, 0, none⟩)] 24)) 3 #[.int .i64 c]
  rw [World.size_alloc] at bT
  have x0 := bM.at 0 (v := .pointer (some ⟨p, 0, none⟩)) rfl
  have x1 := bT.at 0 (v := .int .i64 c) rfl
  have cm := hh.cm
  have hlk : ∀ k, (Instr.lookup 60 (.map m) (.int .i64 c) false).run Try.prog ((((w.alloc (.cells #[.pointer (some ⟨p, 0, none⟩)] 24)).alloc (.cells #[.int .i64 c] 3))).drewN k) = .ok (rowV (rowD D c)) ((((w.alloc (.cells #[.pointer (some ⟨p, 0, none⟩)] 24)).alloc (.cells #[.int .i64 c] 3))).drewN k) := fun k => (hh.heap (w' := World.drewN _ k) rfl).mp.lookup h.ok c
  have hsz : ((w.alloc (.cells #[.pointer (some ⟨p, 0, none⟩)] 24)).alloc (.cells #[.int .i64 c] 3)).heap.size = w.heap.size + 1 + 1 := by simp
  have hneq : ∀ w : World, (binOp .neq 73 (rowV zero8) (.agg #[.int .i64 0, .int .i64 0, .int .i64 0, .int .i64 0, .int .i64 0, .int .i64 0, .int .i64 0, .int .i64 0])).run Try.prog w = .ok (.bool (!decide (zero8 = zero8))) w := fun w => neq_row (b := zero8) rfl rfl
  rw [show decide (zero8 = zero8) = true from rfl] at hneq
  rw [hz] at hlk
  unfold rowV zero8 at hneq hlk
  simp only [List.map_cons, List.map_nil] at hneq hlk
  have h8 := Lib.hid (rowD_len h.ok P)
  obtain ⟨r, hr⟩ : ∃ r, rowD D P = r := ⟨_, rfl⟩
  rw [hr] at h8 ⊢
  have hd1 : decide (P < 1) = false := by simpa using h1
  have hd2 : decide (c < 1) = false := by simpa using h2
  have H := Lib.hid h; have HH := Lib.hid hh; have HM := Lib.hid hM; have BM := Lib.hid bM; have BT := Lib.hid bT
  have HW := Lib.hid hw; have HRF := Lib.hid hF; have HRD := Lib.hid hD; have HZ := Lib.hid hz; have HR := Lib.hid hr
  clear h hh hM bM bT hw hF hD hz h1 h2 hr
  gi_wp2_with fail
  generalize (w.alloc _).alloc _ = W at *
  gi_big_quiet_th (fail)
  have HH1 := Lib.hid (HH.out.heap (w' := W.drewN nq) rfl)
  have BM1 := Lib.hid (BM.out.keep (w' := W.drewN nq) rfl)
  have BT1 := Lib.hid (BT.out.keep (w' := W.drewN nq) rfl)
  have HM1 : Hid (MvF p m m w (W.drewN nq)) := ⟨HM.out.os, HM.out.tape, HM.out.output, HM.out.size, HM.out.block, HM.out.row, HM.out.same⟩
  have hsz1 : (W.drewN nq).heap.size = w.heap.size + 1 + 1 := hsz
  have x0' := BM1.out.at 0 (v := .pointer (some ⟨p, 0, none⟩)) rfl
  have x1' := BT1.out.at 0 (v := .int .i64 c) rfl
  clear hneq hlk cm x0 x1 hd1 hd2 HH BM BT HM hsz
  generalize W.drewN nq = W1 at *
  gi_wp2_with (refine ⟨trivial, ?_⟩; gi_at_call 37; refine (desc_in _ _ _ _).mono ?_; rintro e w' ⟨rfl, rfl⟩)
  have hFF := (HH1.out.alloc (.cells #[.pointer (some ⟨p, 0, none⟩)] 24)).alloc (.cells #[.int .i64 P] 3)
  have b1 := (BM1.out.alloc (.cells #[.pointer (some ⟨p, 0, none⟩)] 24)).alloc (.cells #[.int .i64 P] 3)
  have b2 := (BT1.out.alloc (.cells #[.pointer (some ⟨p, 0, none⟩)] 24)).alloc (.cells #[.int .i64 P] 3)
  have b3 := (BoxA.new W1 24 #[.pointer (some ⟨p, 0, none⟩)]).alloc (.cells #[.int .i64 P] 3)
  have b4 := BoxA.new (W1.alloc (.cells #[.pointer (some ⟨p, 0, none⟩)] 24)) 3 #[.int .i64 P]
  have hMM := (HM1.out.alloc (.cells #[.pointer (some ⟨p, 0, none⟩)] 24)).alloc (.cells #[.int .i64 P] 3)
  have hs0 : ((W1.alloc (.cells #[.pointer (some ⟨p, 0, none⟩)] 24)).alloc (.cells #[.int .i64 P] 3)).heap.size = w.heap.size + 1 + 1 + 1 + 1 := by simp [hsz1]
  rw [World.size_alloc] at b4
  rw [hsz1] at b3 b4
  have hlb : BndK 0 F := fun z hz => by
    obtain ⟨i, hi, rfl⟩ := List.mem_iff_getElem.1 hz
    have := HRF.out.bnd (List.getElem?_eq_getElem hi)
    omega
  have HLB := Lib.hid hlb
  have hp := H.out.p_lt
  have hml := H.out.m_lt
  have HNB : Hid (∀ y : Fin 8, numAt r y.1 = 0 ∨ ∃ i : Nat, i < 32 ∧ numAt r y.1 = (i : Int) + 1) := fun y => by
    have h1 := numAt_rel HRD.out (p := P) y.2
    rw [HR.out] at h1
    have h2 := HRF.out.num_le (p := P) (d := (y.1 : Int))
    by_cases c0 : numI φ L P y.1 = 0
    · exact .inl (h1.trans c0)
    · exact .inr ⟨(numI φ L P y.1).toNat - 1, by omega, by omega⟩
  clear hlb x0' x1'
  generalize (W1.alloc _).alloc _ = W0 at *
  refine wpIn_rangeFunc_ownG (F := Fence.wide) (n := 6) rfl (by omega) (gf := 39) (lb := #[.pointer (some ⟨w.heap.size + 1 + 1, 0, none⟩), .pointer (some ⟨w.heap.size + 1 + 1 + 1, 0, none⟩)]) rfl trivial (enters_of Try.func39 (by kernel_rfl) rfl)
    (desc_stops 5 (by omega) (w.heap.size + 1 + 1) (w.heap.size + 1 + 1 + 1) P HR.out W0 hFF (b3.at 0 rfl) (b4.at 0 rfl)) (fun _ _ => trivial) (fun _ _ _ _ _ _ _ _ => trivial) (Below.refl _ _) (fun _ => rfl)
    (ForkI w p m F D c r) (fun _ _ _ => False)
    (ForkI.own (by omega) (fun k e => by have := hml k e; omega) (by omega)) (fun _ _ _ _ _ hs _ _ => hs)
    ⟨hFF, b1, b2, hMM⟩
    (fun y => { tmps := #[.pointer (some ⟨p, 0, none⟩), .int .i64 P, .int .i64 c, .pointer (some ⟨w.heap.size, 0, none⟩), undef, .pointer (some ⟨w.heap.size + 1, 0, none⟩), .int .i64 0, .int .i64 (y.1 : Int), .int .i64 (numAt r y.1), .bool false, .pointer (some ⟨p, 0, none⟩), .bool false, .bool false, .int .i64 P, .bool false, .bool false, .int .i64 c, .bool false, .bool false, .bool false,
      .pointer (some ⟨p, 0, none⟩), .pointer (some ⟨p, 0, none⟩), .pointer (some ⟨p, 96, none⟩), .map m, .int .i64 c, .agg #[.int .i64 0, .int .i64 0, .int .i64 0, .int .i64 0, .int .i64 0, .int .i64 0, .int .i64 0, .int .i64 0], .agg #[.int .i64 0, .int .i64 0, .int .i64 0, .int .i64 0, .int .i64 0, .int .i64 0, .int .i64 0, .int .i64 0], .bool false, .bool false,
      .pointer (some ⟨p, 0, none⟩), .int .i64 P, .func (.func 39) #[] #[.pointer (some ⟨w.heap.size + 1 + 1, 0, none⟩), .pointer (some ⟨w.heap.size + 1 + 1 + 1, 0, none⟩)], .int .i64 (y.1 : Int), .int .i64 (numAt r y.1), undef, undef, undef, undef, undef, undef, undef], defers := [] }) ?assign ?body ?done ?stop
  case assign =>
    intro l y W K hK
    unfold descV
    gi_wp2
    exact hK
  case body =>
    rintro l pre y W ⟨hW, bM, bT, hM⟩ hlen
    have x0 := bM.at 0 (v := .pointer (some ⟨p, 0, none⟩)) rfl
    have x1 := bT.at 0 (v := .int .i64 c) rfl
    have HWW := Lib.hid hW; have HBM := Lib.hid bM; have HBT := Lib.hid bT; have HMW := Lib.hid hM
    have hnb := HNB.out y
    have HSF := Lib.hid (forkF_snoc r (pre.map Fin.val) y.1 F)
    have HSD := Lib.hid (forkD_snoc r c (pre.map Fin.val) y.1 D)
    have hbk := forkF_bnd r (pre.map Fin.val) 0 F HLB.out
    have HBK := Lib.hid hbk
    have hl8 : Hid ((pre.map Fin.val).length < 8) := by unfold Hid; rw [List.length_map]; exact hlen
    have hsp := hM.size
    clear hW bM bT hM hbk
    rcases hnb with h0 | ⟨i, hi, h0⟩
    · have hq : (numAt r y.1 == 0) = true := by simpa using h0
      have H0 := Lib.hid h0
      clear h0
      gi_wp2_with fail
      refine ⟨KeepsFrom.refl _ _, trivial, ?_⟩
      have e1 : (pre ++ [y]).map Fin.val = pre.map Fin.val ++ [y.1] := by simp
      unfold ForkI
      rw [e1, HSF.out, HSD.out]
      unfold stepFk stepDk
      rw [if_pos H0.out, if_pos H0.out]
      exact ⟨HWW.out, HBM.out, HBT.out, HMW.out⟩
    · have hq : ((i : Int) + 1 == 0) = false := by simp; omega
      obtain ⟨x, hx⟩ : ∃ x, (forkF r (pre.map Fin.val) F)[i]? = some x := ⟨_, List.getElem?_eq_getElem (by rw [HWW.out.len]; exact hi)⟩
      have hb := HBK.out x (List.mem_of_getElem? hx)
      have hR := refer_any HWW.out c y.1 i y.2 hi hx hb.1 (by have := hl8.out; omega)
      obtain ⟨bm, hbm⟩ : ∃ b, m = some b := by
        rcases H.out.mp with ⟨e, e2⟩ | ⟨b, _, _, e, _⟩
        · exfalso
          have h1 := h0
          rw [← HR.out, e2] at h1
          have h2 : numAt (rowD [] P) y.1 = 0 := by
            unfold numAt
            rw [show rowD [] P = zero8 from rfl, (zero8_iff rfl).1 rfl y.1 y.2]
            rfl
          omega
        · exact ⟨b, e⟩
      have HRf := Lib.hid hR
      have H0 := Lib.hid h0
      have HBm := Lib.hid hbm
      rw [h0]
      clear hR hx hb h0 hbm
      gi_wp2_with (refine ⟨trivial, ?_⟩; gi_at_call 34; refine (CallsIn.inRound l (callsIn_wide.2 HRf.out)).mono ?_; rintro e w2 ⟨rfl, m', h2, m2⟩; have H2 := Lib.hid h2; have M2 := Lib.hid m2; clear h2 m2)
      have hme : m' = m := by
        have e := HBm.out
        rw [e]
        exact M2.out.same bm e
      subst hme
      have e1 : (pre ++ [y]).map Fin.val = pre.map Fin.val ++ [y.1] := by simp
      refine ⟨⟨M2.out.size, fun k o hk ho hc => (M2.out.block k (Array.getElem?_eq_some_iff.1 ho).1 (by omega) (fun e => by have := hml k e; omega)).trans ho⟩, trivial, ?_⟩
      unfold ForkI
      rw [e1, HSF.out, HSD.out]
      unfold stepFk stepDk
      rw [if_neg (by rw [H0.out]; omega), if_neg (by rw [H0.out]; omega), H0.out, show ((i : Int) + 1).toNat - 1 = i by omega]
      exact ⟨H2.out, M2.out.box HBM.out (by omega) (fun e => by have := hml _ e; omega), M2.out.box HBT.out (by omega) (fun e => by have := hml _ e; omega), HMW.out.trans M2.out⟩
  case done =>
    rintro E ys W hE hys ⟨hW, bM, bT, hM⟩ hK
    rw [hys] at hW
    gi_wp2
    refine ⟨by simp, .inl ⟨_, _, rfl, run_takeDeferred hK, ?_⟩⟩
    refine ⟨_, results_tmp rfl _ _ _, rfl, hW.keep (World.putObj_heap_other (by omega)) (fun k e => World.putObj_heap_other (by have := hml k e; omega)), ?_⟩
    exact ⟨hM.os, hM.tape, hM.output, by rw [World.putObj_size]; exact hM.size, fun k hk h1 h2 => (World.putObj_heap_other (by omega)).trans (hM.block k hk h1 h2), hM.row, hM.same⟩
  case stop =>
    rintro E c0 pre W _ _ h _
    exact h.elim

theorem fi_fork (h : Fi w S p L n) (hl : L.length ≤ 80000) (P c : Int) : Calls Try.prog 20 #[.pointer (some ⟨p, 0, none⟩), .int .i64 P, .int .i64 c] w fun e w' =>
    e = .returned (.int .i64 (fork9E L P c)) ∧ ∃ S', Fi w' S' p (fork9L L P c) n ∧ MvS S S' w w' := by
  obtain ⟨m, F, D, φ, rfl, h, hF, hD, hw⟩ := h
  have hnc := no_child hw hF hD h.ok c
  by_cases h0 : P < 1 ∨ c < 1
  · have hE : fork9E L P c = 2 := by unfold fork9E; rw [if_pos h0]
    have hL : fork9L L P c = L := by unfold fork9L; rw [hE, if_neg (by decide)]
    rw [hE, hL]
    refine (callsIn_wide.1 (fork_err h P c (by rcases h0 with e | e; exact .inl e; exact .inr (.inl e)))).mono ?_
    rintro e w' ⟨rfl, hb⟩
    exact ⟨rfl, fi_mv (h.below hb) (MvF.of_below hb) hF hD hw⟩
  by_cases h1 : ∃ x ∈ L, x.pid = c
  · have hE : fork9E L P c = 2 := by unfold fork9E; rw [if_neg h0, if_pos h1]
    have hL : fork9L L P c = L := by unfold fork9L; rw [hE, if_neg (by decide)]
    rw [hE, hL]
    refine (callsIn_wide.1 (fork_err h P c (.inr (.inr (fun e => by obtain ⟨x, hx, k⟩ := h1; exact hnc.1 e x hx k))))).mono ?_
    rintro e w' ⟨rfl, hb⟩
    exact ⟨rfl, fi_mv (h.below hb) (MvF.of_below hb) hF hD hw⟩
  have hc : ∀ x ∈ L, x.pid ≠ c := fun x hx e => h1 ⟨x, hx, e⟩
  have hE : fork9E L P c = 0 := by unfold fork9E; rw [if_neg h0, if_neg h1]
  have hL : fork9L L P c = L ++ moreL L P c := by unfold fork9L; rw [hE, if_pos rfl]
  rw [hE, hL]
  refine (callsIn_wide.1 (fork_ok h hw hF hD hl P c (by omega) (by omega) (hnc.2 hc))).mono ?_
  rintro e w' ⟨rfl, h', hM⟩
  obtain ⟨k1, k2⟩ := (forked_range hw hF hD h.ok rfl (hnc.2 hc) 8 (Nat.le_refl _)).1.end hw hD (rowD_len h.ok P) rfl hc
  exact ⟨rfl, fi_mv h' hM k1 k2 (hw.fork hE)⟩
end
end Go.Proofs.Ytfgigofmmapbmaa
