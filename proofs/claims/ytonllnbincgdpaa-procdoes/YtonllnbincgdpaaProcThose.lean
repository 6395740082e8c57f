/- Package proc: those, walked, for whatever function asks. -/
import Derived.Test.YtonllnbincgdpaaProcIter
import Derived.Test.YtonllnbincgdpaaProcLeaf
namespace Go.Proofs.Ytonllnbincgdpaa
open Go.RowKit Go.Shelf Go.Maps

attribute [local go_sem] Oper.semAt_some

theorem Try.infoInt6 : (Try.prog.info? 3).map (fun i => (i.zero, i.size, i.bytes)) = some (some (.int .i64 0), 1, 8) := by kernel_rfl
theorem below_put6 {m D : Nat} {w w1 : World} {o : Obj} (h : Below m w w1) (hD : m ≤ D) : Below m w (w1.putObj D o) :=
  ⟨h.os, h.tape, h.output, by rw [World.putObj_size]; exact h.size, fun k hk => (World.putObj_heap_other (by omega)).trans (h.block k hk)⟩
/-- a box behind an append to another one's slice. -/
theorem boxed_pass6 {W w1 : World} {b c : Nat} {t : TypeId} {u z : Value} {tmp : Obj} {v : Value} (h : Boxed W b t u) (hne : some b ≠ v.ownBlock) (hg : (W.alloc tmp).grownBy w1 v.ownBlock) (hc : b ≠ c) : Boxed (w1.setCell ⟨c, 0, none⟩ z) b t u :=
  ((h.alloc tmp).kept hg hne).other hc z
theorem KpR.appended {n₀ b : Nat} {t : TypeId} {W w7 : World} {tmp : Obj} {v v7 : Value} (hb : Boxed W b t v) (h7 : Boxed (w7.setCell ⟨b, 0, none⟩ v7) b t v7) (hbl : Below n₀ W (w7.setCell ⟨b, 0, none⟩ v7)) (hg : (W.alloc tmp).grownBy w7 v.ownBlock) (hat : v7.ownBlock = v.ownBlock ∨ v7.ownBlock = some (W.alloc tmp).heap.size) : KpR n₀ [b] b W (w7.setCell ⟨b, 0, none⟩ v7) := by
  have e1 : rowOf W b = v.ownBlock := rowOf_box (t := t) ⟨hb⟩
  have e2 : rowOf (w7.setCell ⟨b, 0, none⟩ v7) b = v7.ownBlock := rowOf_box (t := t) ⟨h7⟩
  refine ⟨hbl, fun k o hk hc hx hr => ?_, ?_⟩
  · have hlt : k < W.heap.size := (Array.getElem?_eq_some_iff.1 hk).1
    have hne : k ≠ b := by simpa using hx
    rw [e1] at hr
    exact (heap_setCell_other _ _ _ _ hne).trans ((hg.block k (by rw [World.size_alloc]; omega) (fun e => hr e.symm)).trans (Below.heap_alloc W tmp k hlt))
  · rw [e1, e2]
    rcases hat with e | e
    · exact .inl e
    · exact .inr ⟨_, e, by rw [World.size_alloc]; omega⟩

/-- the numbers of those for which h holds. -/
def thoseL (h : PV → Bool) (L : List PV) : List Int := (L.filter h).map (·.pid)
theorem thoseL_len (h : PV → Bool) (L : List PV) : (thoseL h L).length ≤ L.length := by unfold thoseL; rw [List.length_map]; exact List.length_filter_le _ _
theorem thoseL_yes {h : PV → Bool} {L : List PV} {x : PV} (hx : h x = true) : thoseL h (L ++ [x]) = thoseL h L ++ [x.pid] := by unfold thoseL; rw [List.filter_append, List.map_append]; simp [hx]
theorem thoseL_no {h : PV → Bool} {L : List PV} {x : PV} (hx : h x = false) : thoseL h (L ++ [x]) = thoseL h L := by unfold thoseL; rw [List.filter_append]; simp [hx]

section
variable {w : World} {p m : Nat} {L : List PV} {g : Int}

set_option maxRecDepth 100000 in
set_option maxHeartbeats 2000000 in
theorem those_in (hW : TabAt w p m L g) (hf : Nat) (caps : Array Value) (h : PV → Bool) (hent : ∀ args w, (callFunc hf args).run Try.prog w = .ok (.enter hf args) w)
    (hcall : ∀ (q : PV) (W : World), Below w.heap.size w W → Calls Try.prog hf (#[q.val] ++ caps) W fun e W' => e = .returned (.bool (h q)) ∧ Below W.heap.size W W') :
    CallsIn Fence.wide 8 Try.prog 33 #[.pointer (some ⟨p, 0, none⟩), .func (.func hf) #[] caps] w fun e W' =>
      ∃ v, e = .returned v ∧ W'.ownsRow w.heap.size 3 1 v (thoseL h L).length ((thoseL h L).map encZ) ∧ Below w.heap.size w W' := by
  have hpl := hW.p_lt
  have hml := hW.m_lt
  have HC := Lib.hid hcall
  clear hcall
  refine callsIn_of_wp_marks Try.func33 rfl trivial ?_ rfl
  simp only [Try.ntmps33, List.size_toArray, List.length_cons, List.length_nil, Nat.reduceAdd, Nat.reduceSub, Array.replicate_succ, Array.replicate_zero, List.push_toArray, List.append_toArray, List.nil_append, List.cons_append]
  gi_wp2_with (refine ⟨trivial, ?_⟩; gi_at_call 49; refine (rising_in _ _ _).mono ?_; rintro e w' ⟨rfl, rfl⟩)
  have bH := ((Boxed.new w 64 (.func (.func hf) #[] caps)).alloc (.cells #[.slice none 0 0] 33)).alloc (.cells #[.pointer (some ⟨p, 0, none⟩)] 24)
  have bL := (Boxed.new (w.alloc (.cells #[.func (.func hf) #[] caps] 64)) 33 (.slice none 0 0)).alloc (.cells #[.pointer (some ⟨p, 0, none⟩)] 24)
  have bT := BoxA.new ((w.alloc (.cells #[.func (.func hf) #[] caps] 64)).alloc (.cells #[.slice none 0 0] 33)) 24 #[.pointer (some ⟨p, 0, none⟩)]
  simp only [World.size_alloc] at bL bT
  have hB3 : Below w.heap.size w (((w.alloc (.cells #[.func (.func hf) #[] caps] 64)).alloc (.cells #[.slice none 0 0] 33)).alloc (.cells #[.pointer (some ⟨p, 0, none⟩)] 24)) := (((Below.refl _ w).alloc (Nat.le_refl _) _).alloc (by simp) _).alloc (by simp; omega) _
  have hsz : (((w.alloc (.cells #[.func (.func hf) #[] caps] 64)).alloc (.cells #[.slice none 0 0] 33)).alloc (.cells #[.pointer (some ⟨p, 0, none⟩)] 24)).heap.size = w.heap.size + 3 := by simp
  generalize (((w.alloc (.cells #[.func (.func hf) #[] caps] 64)).alloc (.cells #[.slice none 0 0] 33)).alloc (.cells #[.pointer (some ⟨p, 0, none⟩)] 24)) = W0 at *
  obtain ⟨i0, hi, hz0, hz1, hz2⟩ := info_parts Try.infoInt6
  have HI := Lib.hid hi; have HZ0 := Lib.hid hz0; have HZ1 := Lib.hid hz1; have HZ2 := Lib.hid hz2
  clear hi hz0 hz1 hz2
  refine wpIn_rangeFunc_ownH (F := Fence.wide) (n := 8) rfl (by omega) (gf := 52) (lb := #[.pointer (some ⟨w.heap.size + 1 + 1, 0, none⟩)]) rfl trivial (enters_of Try.func52 (by kernel_rfl) rfl)
    (rising_stops 7 (by omega) w.heap.size (w.heap.size + 1) [w.heap.size + 1] (w.heap.size + 1 + 1) (hW.below' hB3) hpl hml (by omega) (by simp; omega) (by simp) (by rw [rowOf_box (t := 33) ⟨bL⟩]; rfl) bT) KpR.trans (KpR.put (by omega) (by omega)) (Below.refl _ _) (fun _ => rfl)
    (fun pre W => ((∃ v, Boxed W (w.heap.size + 1) 33 v ∧ W.ownsRow w.heap.size 3 1 v (thoseL h pre).length ((thoseL h pre).map encZ) ∧ True) ∧ Boxed W w.heap.size 64 (.func (.func hf) #[] caps)) ∧ Below w.heap.size w W)
    (fun _ _ _ => False)
    (OwnFrom.and (OwnFrom.and (Own.from (holdsRow_own w.heap.size (w.heap.size + 1) 33 3 1 (fun pre : List PV => (thoseL h pre).length) (fun pre => (thoseL h pre).map encZ) (fun _ v => True)) _) (Own.from (boxed_own _ _ _) _)) (ownFrom_below (Nat.le_refl _) (by omega)))
    (fun _ _ _ _ _ hs _ _ => hs)
    ⟨⟨⟨_, bL, World.ownsRow_nil _ _ _ _, trivial⟩, bH⟩, hB3⟩
    (fun x a' W => ∃ B1, w.heap.size + 1 < B1 ∧ BoxA W B1 39 x.cells ∧
      a' = { tmps := #[.pointer (some ⟨p, 0, none⟩), .func (.func hf) #[] caps, undef, .pointer (some ⟨w.heap.size, 0, none⟩), .slice none 0 0, .pointer (some ⟨w.heap.size + 1, 0, none⟩), .pointer (some ⟨B1, 0, none⟩), .pointer (some ⟨p, 0, none⟩), (.func (.func 52) #[] #[.pointer (some ⟨w.heap.size + 1 + 1, 0, none⟩)]), x.val, undef, undef, undef, undef, undef, undef, undef, undef, undef], defers := [] })
    (fun x a' _ X Y row hs hg hr => by obtain ⟨B1, h1, h3, h5⟩ := hs; exact ⟨B1, h1, h3.kept hg (fun r e => (hr r e).2), h5⟩)
    ?assign ?body ?done ?stop
  case assign =>
    rintro l pre x W K ⟨⟨⟨v, bL1, hrow, _⟩, bH1⟩, hB4⟩ hK
    unfold pvVals
    obtain ⟨a0, a1, a2, a3, a4, a5, a6, a7⟩ := x
    unfold PV.val PV.cells at *
    dsimp only at *
    gi_wp2
    have hlT := bL1.lt
    have hsW := hB4.size
    exact hK _ _ ((KeepsOthers.alloc _ _).from _) (KpR.of_below hsW hlT ((Below.refl _ _).alloc (Nat.le_refl _) _)) ⟨⟨⟨v, bL1.alloc _, hrow.alloc _, trivial⟩, bH1.alloc _⟩, hB4.alloc hsW _⟩ ⟨W.heap.size, hlT, BoxA.new W _ _, rfl⟩
  case body =>
    rintro l pre x a' W hl ⟨rr, hrr⟩ ⟨⟨⟨v, bL1, hrow, _⟩, bH1⟩, hB4⟩ ⟨B1, h1, bX, rfl⟩ hlt
    have c0 := bH1.cell
    have hsW := hB4.size
    obtain ⟨q, hq⟩ : ∃ q, q = x := ⟨_, rfl⟩
    have cQ := HC.out q W hB4
    obtain ⟨a0, a1, a2, a3, a4, a5, a6, a7⟩ := x
    rw [hq] at cQ
    unfold PV.val PV.cells at *
    dsimp only at *
    have x0 := bX.at 0 rfl; have x1 := bX.at 1 rfl; have x2 := bX.at 2 rfl; have x3 := bX.at 3 rfl; have x4 := bX.at 4 rfl; have x5 := bX.at 5 rfl; have x6 := bX.at 6 rfl; have x7 := bX.at 7 rfl
    have HB4 := Lib.hid hB4; have HBX := Lib.hid bX
    clear bX hB4
    gi_wp2_with fail
    refine ⟨trivial, (CallsIn.inRound l (callsIn_wide.2 cQ)).mono ?_⟩
    rintro e W1 ⟨rfl, hB5⟩
    rw [← hq]
    have bL2 : Boxed W1 _ _ _ := bL1.kept (grown_of_below6 hB5 none) (by simp)
    have bH2 : Boxed W1 _ _ _ := bH1.kept (grown_of_below6 hB5 none) (by simp)
    have bX2 := HBX.out.below' hB5
    have hrow2 := hrow.kept (grown_of_below6 hB5 none) (by by_cases e : v.ownBlock = none; exact .inl e; exact .inr e)
    have HB5 := Lib.hid (HB4.out.trans (hB5.mono hsW))
    have HK5 := Lib.hid (KpR.of_below (n₀ := w.heap.size) (ex := [w.heap.size + 1]) (b := w.heap.size + 1) hsW bL1.lt hB5)
    have HKO := Lib.hid (KeepsOthers.of_grownBy (grown_of_below6 hB5 none) (fun j o e => by cases e))
    have hs2 := HB5.out.size
    have y0 := bX2.at 0 rfl
    have HROW := Lib.hid hrow2
    have hlL := thoseL_len h pre
    clear x0 x1 x2 x3 x4 x5 x6 x7 hrow hrow2 bL1 bH1 bX2 c0 hB5 cQ
    by_cases hh : h q = true
    · have HH := Lib.hid hh
      rw [hh]
      have k0 := bL2.cell
      gi_wp2_with (gi_at_builtin; refine wpListIn_append_own_at _ rfl _ _ 33 rfl w.heap.size 3 i0 (.int .i64 0) 1 8 Try.underlying33 HI.out HZ0.out HZ1.out HZ2.out rfl (by decide) _ _ _ rfl (HROW.out.alloc _) ⟨W1.heap.size, 0, none⟩ 1 1 [.int .i64 a0] rfl rfl (cell_one_new _ _ _) (by simp [Value.oneCell']) (by unfold maxLen; omega) (by omega) (by simp; omega) ?_; intro v7 w7 hown7 hgrow7 _ hat7; obtain ⟨g7, cap7, rfl⟩ := ownsRow_succ hown7; obtain ⟨hv71, hv72, hr7, hk7, hb7⟩ := bL2.appended (by decide) HROW.out (by omega) (by omega) hown7 hgrow7; have hc7 := hv71.cell; have hf7 := hv71.frozen; have nH := bH2.not_row (e := 3) (by decide) HROW.out; have HO := Lib.hid hr7; have HA := Lib.hid hat7; have HG := Lib.hid hgrow7; clear hr7 hat7 hgrow7 hown7)
      refine ⟨(HKO.out.trans hk7).from _, HK5.out.trans (KpR.appended bL2 hv72 hb7 HG.out HA.out), ⟨⟨⟨_, hv72, ?_, trivial⟩, boxed_pass6 bH2 nH HG.out (by omega)⟩, HB5.out.trans hb7⟩⟩
      have e1 : thoseL h (pre ++ [⟨a0, a1, a2, a3, a4, a5, a6, a7⟩]) = thoseL h pre ++ [a0] := by rw [← hq, thoseL_yes HH.out, hq]
      rw [e1, List.length_append, List.map_append]
      exact HO.out
    · have hh' : h q = false := by simpa using hh
      have HH := Lib.hid hh'
      rw [hh']
      gi_wp2
      refine ⟨HKO.out.from _, HK5.out, ⟨⟨⟨_, bL2, ?_, trivial⟩, bH2⟩, HB5.out⟩⟩
      have e1 : thoseL h (pre ++ [⟨a0, a1, a2, a3, a4, a5, a6, a7⟩]) = thoseL h pre := by rw [← hq, thoseL_no HH.out]
      rw [e1]
      exact HROW.out
  case done =>
    rintro D zs W hD hzs ⟨⟨⟨v, bL1, hrow, _⟩, bH1⟩, hB4⟩ hK
    have c0 := bL1.cell
    rw [hzs] at hrow
    have HR := Lib.hid hrow
    clear hzs hrow
    gi_wp2
    refine ⟨by simp, .inl ⟨_, _, rfl, run_takeDeferred hK, ?_⟩⟩
    exact ⟨_, results_tmp rfl _ _ _, v, rfl, ownsRow_putObj HR.out _ hK rfl, below_put6 hB4 (by omega)⟩
  case stop =>
    rintro D c pre W _ _ h _
    exact h.elim
end
end Go.Proofs.Ytonllnbincgdpaa
