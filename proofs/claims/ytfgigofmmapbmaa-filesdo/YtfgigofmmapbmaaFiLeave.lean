/- Package files: leave, walked. -/
import Derived.Test.YtfgigofmmapbmaaFiOps
import Derived.Test.YtfgigofmmapbmaaRef9Drop
namespace Go.Proofs.Ytfgigofmmapbmaa
open Go.RowKit

def stepF (a : Int) (F : List OF) : List OF := if a = 0 then F else F.modify (a.toNat - 1) less1
def stepG (a : Int) (F : List OF) : List (Int × Int) := if a = 0 then [] else match F[a.toNat - 1]? with | some x => if x.refs = 1 then [(x.kind, x.thing)] else [] | none => []
theorem leave_snoc (a : Int) : ∀ (A : List Int) (F : List OF), leaveF (A ++ [a]) F = stepF a (leaveF A F)
  | [], F => rfl
  | b :: A, F => by simp only [List.cons_append, leaveF]; exact leave_snoc a A _
theorem gone_snoc (a : Int) : ∀ (A : List Int) (F : List OF), goneF (A ++ [a]) F = goneF A F ++ stepG a (leaveF A F)
  | [], F => by simp only [List.nil_append, goneF, leaveF, List.append_nil]; rfl
  | b :: A, F => by simp only [List.cons_append, goneF, leaveF, gone_snoc a A, List.append_assoc]
def BndF (k : Nat) (F : List OF) : Prop := ∀ x ∈ F, -1000000 - (k : Int) ≤ x.refs ∧ x.refs ≤ 1000000
theorem less1_bnd {x : OF} {k : Nat} (h : -1000000 - (k : Int) ≤ x.refs ∧ x.refs ≤ 1000000) : -1000000 - ((k + 1 : Nat) : Int) ≤ (less1 x).refs ∧ (less1 x).refs ≤ 1000000 := by
  unfold less1
  split
  · simp [OF.zero]; omega
  · dsimp only; omega
theorem BndF.step {k : Nat} {F : List OF} (h : BndF k F) (a : Int) : BndF (k + 1) (stepF a F) := by
  unfold stepF
  split
  · intro x hx
    have := h x hx
    omega
  · intro y hy
    obtain ⟨j, hj, rfl⟩ := List.mem_iff_getElem.1 hy
    rw [List.getElem_modify]
    have hm : F[j]'(by simpa using hj) ∈ F := List.getElem_mem _
    split
    · exact less1_bnd (h _ hm)
    · have := h _ hm
      omega
theorem leave_len : ∀ (A : List Int) (F : List OF), (leaveF A F).length = F.length
  | [], F => rfl
  | a :: A, F => by unfold leaveF; rw [leave_len A]; split <;> simp
theorem stepG_len (a : Int) (F : List OF) : (stepG a F).length ≤ 1 := by
  unfold stepG
  split
  · simp
  · split
    · split <;> simp
    · simp
theorem gone_len : ∀ (A : List Int) (F : List OF), (goneF A F).length ≤ A.length
  | [], F => Nat.le_refl _
  | a :: A, F => by
    have h := gone_len A (stepF a F)
    have h1 := stepG_len a F
    show (stepG a F ++ goneF A (stepF a F)).length ≤ (a :: A).length
    rw [List.length_append, List.length_cons]
    omega
theorem set_less {F : List OF} {i : Nat} {k t : Int} (hx : F[i]? = some ⟨k, t, 1⟩) : (F.modify i (fun x => { x with refs := 0 })).set i ⟨0, 0, 0⟩ = F.modify i less1 := by
  have hl := (List.getElem?_eq_some_iff.1 hx).1
  apply List.ext_getElem?
  intro j
  rw [mod_at]
  by_cases c : i = j
  · subst c
    rw [List.getElem?_set_self (by simpa using hl), if_pos rfl, hx]
    rfl
  · rw [List.getElem?_set_ne c, mod_at, if_neg c, if_neg c]
theorem mod_eq9 {F : List OF} {i : Nat} {x : OF} {f g : OF → OF} (hx : F[i]? = some x) (h : f x = g x) : F.modify i f = F.modify i g := by
  apply List.ext_getElem?
  intro j
  rw [mod_at, mod_at]
  by_cases c : i = j
  · subst c
    rw [if_pos rfl, if_pos rfl, hx]
    simp [h]
  · rw [if_neg c, if_neg c]

section
variable {w : World} {p : Nat} {m : Option Nat} {F : List OF} {D : List (Int × Fds)}
theorem FM.grown {w' : World} {row : Option Nat} (h : FM w p m F D) (hg : w.grownBy w' row) (hp : row ≠ some p) (hm : ∀ k, m = some k → row ≠ some k) : FM w' p m F D :=
  h.keep (hg.block p h.p_lt (fun e => hp e.symm)) (fun k e => hg.block k (h.m_lt k e) (fun c => hm k e c.symm))
theorem MvF.grown {w' w'' : World} {m' : Option Nat} {row : Option Nat} (h : MvF p m m' w w') (hg : w'.grownBy w'' row) (hr : ∀ k, row = some k → w.heap.size ≤ k) : MvF p m m' w w'' :=
  ⟨hg.os.trans h.os, hg.tape.trans h.tape, hg.output.trans h.output, Nat.le_trans h.size hg.size, fun k hk h1 h2 => (hg.block k (Nat.lt_of_lt_of_le hk h.size) (fun e => by have := hr k e.symm; omega)).trans (h.block k hk h1 h2), h.row, h.same⟩

set_option maxRecDepth 100000 in
set_option maxHeartbeats 4000000 in
theorem leave_any (h : FM w p m F D) {ns : List Int} (hl : ns.length ≤ 8) (hns : ∀ a ∈ ns, a = 0 ∨ ∃ i : Nat, i < 32 ∧ a = (i : Int) + 1) (hbd : BndF 0 F) (b : Nat) (hb : b < w.heap.size) (hbp : b ≠ p) (hbm : m ≠ some b)
    (hc : ∀ (j : Nat) x, ns[j]? = some x → w.cell? ⟨b, j, none⟩ = some (.int .i64 x)) :
    Calls Try.prog 36 #[.pointer (some ⟨p, 0, none⟩), .slice (some ⟨b, 0, none⟩) ns.length ns.length] w fun e w' =>
      ∃ u, e = .returned u ∧ OsAt w' w.heap.size u (goneF ns F) ∧ FM w' p m (leaveF ns F) D ∧ MvF p m m w w' := by
  obtain ⟨i0, hi0, hz0, hz1, hz2⟩ := info_parts Try.infoOpened
  have HI0 := Lib.hid hi0; have HZ0 := Lib.hid hz0; have HZ1 := Lib.hid hz1; have HZ2 := Lib.hid hz2
  have HF := Lib.hid h; have HC := Lib.hid hc; have HNS := Lib.hid hns; have HBD := Lib.hid hbd
  have hp1 := h.p_lt
  clear h hi0 hz0 hz1 hz2 hc hns hbd
  go_enter Try.func36, Try.ntmps36
  go_wp2
  go_loopw [5, 11] (fun u t wr => ∃ j : Nat, j ≤ ns.length ∧ t = .int .i64 j ∧ OsAt wr w.heap.size u (goneF (ns.take j) F) ∧ FM wr p m (leaveF (ns.take j) F) D ∧ BndF j (leaveF (ns.take j) F) ∧ MvF p m m w wr) (fun _ t _ => ns.length - (intOf t).toNat)
  case atStart => exact ⟨0, by omega, rfl, OsAt.nil _ _, HF.out, HBD.out, MvF.refl _⟩
  case round =>
    obtain ⟨j, hj, rfl, hO, hW, hBd, hM⟩ := hrel
    by_cases hjl : j < ns.length
    · obtain ⟨a, ha⟩ : ∃ a, ns[j]? = some a := ⟨_, List.getElem?_eq_getElem hjl⟩
      have hNL : leaveF (ns.take (j + 1)) F = stepF a (leaveF (ns.take j) F) := by
        obtain ⟨h1, rfl⟩ := List.getElem?_eq_some_iff.1 ha
        rw [List.take_succ_eq_append_getElem h1, leave_snoc]
      have hNO : goneF (ns.take (j + 1)) F = goneF (ns.take j) F ++ stepG a (leaveF (ns.take j) F) := by
        obtain ⟨h1, rfl⟩ := List.getElem?_eq_some_iff.1 ha
        rw [List.take_succ_eq_append_getElem h1, gone_snoc]
      have hol : (goneF (ns.take j) F).length ≤ 8 := Nat.le_trans (gone_len _ _) (by simp; omega)
      have hBd1 := hBd.step a
      have hca : wr.cell? ⟨b, j, none⟩ = some (.int .i64 a) := (hM.cell hb hbp hbm).trans (HC.out j a ha)
      have hws := hM.size
      have han := HNS.out a (List.mem_of_getElem? ha)
      generalize leaveF (ns.take j) F = Fj at *
      generalize goneF (ns.take j) F = Gj at *
      have HNL := Lib.hid hNL; have HNO := Lib.hid hNO; have HB1 := Lib.hid hBd1
      have HO := Lib.hid hO; have HW := Lib.hid hW; have HM := Lib.hid hM
      clear hNL hNO hBd1 hO hM ha
      rcases han with rfl | ⟨i, hi, rfl⟩
      · clear hW hBd
        go_wp2
        go_roundw
        case rel => exact ⟨j + 1, by omega, by go_num, by rw [HNO.out]; simpa [stepG] using HO.out, by rw [HNL.out]; exact HW.out, by rw [HNL.out]; exact HB1.out, HM.out⟩
        case measure => simp [intOf]; omega
      · have h0 : ¬ ((i : Int) + 1 = 0) := by omega
        have hq : ((i : Int) + 1 == 0) = false := by simp; omega
        obtain ⟨x, hx⟩ : ∃ x, Fj[i]? = some x := ⟨_, List.getElem?_eq_getElem (by rw [hW.len]; exact hi)⟩
        have hbx := hBd x (List.mem_of_getElem? hx)
        have c0 := hW.at0 hx; have c1 := hW.at1 hx; have c2 := hW.at2 hx
        have f2 := hW.f (i * 3 + 2)
        have hSF : stepF ((i : Int) + 1) Fj = Fj.modify i less1 := by unfold stepF; rw [if_neg h0, show ((i : Int) + 1).toNat - 1 = i by omega]
        have hSG : stepG ((i : Int) + 1) Fj = if x.refs = 1 then [(x.kind, x.thing)] else [] := by unfold stepG; rw [if_neg h0, show ((i : Int) + 1).toNat - 1 = i by omega, hx]
        have HX := Lib.hid hx; have HSF := Lib.hid hSF; have HSG := Lib.hid hSG
        clear hW hBd hSF hSG hx h0
        obtain ⟨k, t, r⟩ := x
        dsimp only at *
        have hi0 : (0 : Int) ≤ (i : Int) := by omega
        have hi32 : (i : Int) < 32 := by omega
        by_cases h1 : r = 1
        · subst h1
          have HB2 := Lib.hid hbx
          have HGE : Hid (stepG ((i : Int) + 1) Fj = [(k, t)]) := by unfold Hid; rw [HSG.out]; rfl
          clear hbx HSG
          have hW1 := HW.out.setRefs hi 0
          have hO1 : OsAt (wr.setCell ⟨p, i * 3 + 2, none⟩ (.int .i64 0)) w.heap.size u5 Gj := HO.out.keep (fun q e => heap_setCell_other _ _ _ _ (show q ≠ p by have := (HO.out.lt q e).1; omega))
          have HOX := Lib.hid (hO1.below ((Below.refl _ _).alloc (Nat.le_refl _) (.cells #[.int .i64 k, .int .i64 t] 32)))
          have HW1 := Lib.hid (hW1.alloc (.cells #[.int .i64 k, .int .i64 t] 32))
          have HN := Lib.hid (two_new (wr.setCell ⟨p, i * 3 + 2, none⟩ (.int .i64 0)) k t)
          have HM1 := Lib.hid ((HM.out.set (i * 3 + 2) (.int .i64 0)).alloc (.cells #[.int .i64 k, .int .i64 t] 32))
          have HUP : Hid (∀ q, u5.ownBlock = some q → w.heap.size ≤ q) := fun q e => (HO.out.lt q e).1
          have hx1 : (Fj.modify i (fun x => { x with refs := 0 }))[i]? = some ⟨k, t, 0⟩ := by rw [mod_at, if_pos rfl, HX.out]; rfl
          have HX1 := Lib.hid hx1
          have HML : Hid (∀ q, m = some q → q < w.heap.size) := fun q e => HF.out.m_lt q e
          clear hW1 hO1 hx1
          go_wp2_with (at_builtin; refine wpList_append_own _ rfl (.tmp 35) (.tmp 40) 46 rfl w.heap.size 32 i0 (.agg #[.int .i64 0, .int .i64 0]) 2 16 Try.underlying46 HI0.out HZ0.out HZ1.out HZ2.out rfl (by decide) u5 Gj.length (flatO Gj) rfl HOX.out ⟨wr.heap.size, 0, none⟩ 1 1 [.int .i64 k, .int .i64 t] rfl rfl (by have := HN.out; rw [World.size_setCell] at this; exact this) (by simp [Value.oneCell']) (by unfold maxLen; omega) (by omega) (by simp; omega) ?_; intro v7 w7 hown7 hgrow7 _; have HO7 := Lib.hid hown7; have HG7 := Lib.hid hgrow7; have hW7 := HW1.out.grown hgrow7 (fun e => by have := HUP.out p e; omega) (fun q e c => by have h1 := HML.out q e; have h2 := HUP.out q c; omega); have d0 := hW7.at0 HX1.out; have d1 := hW7.at1 HX1.out; have d2 := hW7.at2 HX1.out; have e0 := hW7.f (i * 3); have e1 := hW7.f (i * 3 + 1); have e2 := hW7.f (i * 3 + 2); have HW7 := Lib.hid hW7; clear hown7 hgrow7 hW7)
          go_roundw
          case rel =>
            refine ⟨j + 1, by omega, by go_num, ?_, ?_, by rw [HNL.out]; exact HB1.out, (((HM1.out.grown HG7.out HUP.out).set _ _).set _ _).set _ _⟩
            · have hO8 : OsAt w7 w.heap.size v7 (Gj ++ [(k, t)]) := by
                unfold OsAt
                rw [flatO_append, List.length_append]
                exact HO7.out
              rw [HNO.out, HGE.out]
              have hne : ∀ q, v7.ownBlock = some q → q ≠ p := fun q e => by have := (hO8.lt q e).1; omega
              exact ((hO8.keep (fun q e => heap_setCell_other _ _ _ _ (hne q e))).keep (fun q e => heap_setCell_other _ _ _ _ (hne q e))).keep (fun q e => heap_setCell_other _ _ _ _ (hne q e))
            · rw [HNL.out, HSF.out, ← set_less HX.out]
              exact HW7.out.setAll hi 0 0 0
          case measure => simp [intOf]; omega
        · have hr : (r - 1 == 0) = false := by simp; omega
          have HGE : Hid (stepG ((i : Int) + 1) Fj = []) := by unfold Hid; rw [HSG.out, if_neg h1]
          have HLE : Hid (Fj.modify i less1 = Fj.modify i (fun x => { x with refs := r - 1 })) := by
            unfold Hid
            refine mod_eq9 HX.out ?_
            unfold less1
            rw [if_neg h1]
          clear HSG h1
          go_wp2
          go_roundw
          case rel =>
            refine ⟨j + 1, by omega, by go_num, ?_, ?_, by rw [HNL.out]; exact HB1.out, HM.out.set _ _⟩
            · rw [HNO.out, HGE.out, List.append_nil]
              exact HO.out.keep (fun q e => heap_setCell_other _ _ _ _ (show q ≠ p by have := (HO.out.lt q e).1; omega))
            · rw [HNL.out, HSF.out, HLE.out]
              exact HW.out.setRefs hi (r - 1)
          case measure => simp [intOf]; omega
    · obtain rfl : j = ns.length := by omega
      rw [List.take_length] at hO hW
      have HO := Lib.hid hO; have HW := Lib.hid hW; have HM := Lib.hid hM
      clear hO hW hM hBd
      go_wp2
      go_ret
      exact ⟨_, rfl, HO.out, HW.out, HM.out⟩
end
end Go.Proofs.Ytfgigofmmapbmaa
