/- Package proc: Become, walked. -/
import Derived.Test.YtonllnbincgdpaaProcOps
import Derived.Test.YtonllnbincgdpaaCredRight
namespace Go.Proofs.Ytonllnbincgdpaa
open Go.RowKit Go.MapKept

set_option maxRecDepth 100000 in
theorem neq_cred (u g u' g' : Int) (w : World) : (binOp .neq 30 (.agg #[.int .i64 u, .int .i64 g]) (.agg #[.int .i64 u', .int .i64 g'])).run Try.prog w = .ok (.bool (!((u == u') && (g == g')))) w := by
  cases h1 : (u == u') <;> cases h2 : (g == g') <;> simp [go_sem, h1, h2]
theorem usrB_eq (n : Int) : usrB6 n = usrB n := rfl

section
variable {w : World} {p m : Nat} {L : List PV} {g : Int}
theorem bec_chg (hW : TabAt w p m L g) (u v : Int) {c r : Nat} {k : Int} (hc : BoxA w c 30 #[.int .i64 u, .int .i64 v]) (h1 : c ≠ p) (h2 : c ≠ m) (hr : BoxA w r 3 #[.int .i64 k]) (h3 : r ≠ p) (h4 : r ≠ m) (hk : (getL L k).isSome) :
    Calls Try.prog 38 #[.pointer (some ⟨p, 0, none⟩), .func (.func 39) #[] #[.pointer (some ⟨c, 0, none⟩)], .slice (some ⟨r, 0, none⟩) 1 1] w fun e w' => e = .returned (.tuple #[]) ∧ TabAt w' p m (setL L k (becV u v (atL L k))) g ∧ Turn p m w w' :=
  change_one hW 39 #[.pointer (some ⟨c, 0, none⟩)] (becV u v) (fun _ => rfl) (enters_of Try.func39 (by kernel_rfl) rfl) (fun q W hU => bec_any q u v c W (hc.keep (hU.block _ hc.lt h1 h2))) hr hk h3 h4
theorem becL_no {k u v : Int} (h : becE L k u v ≠ 0) : becL L k u v = L := by unfold becL; rw [if_neg h]
theorem becL_yes {k u v : Int} (h : becE L k u v = 0) : becL L k u v = setL L k (becV u v (atL L k)) := by unfold becL; rw [if_pos h]

set_option maxRecDepth 100000 in
set_option maxHeartbeats 2000000 in
theorem become_any (hW : TabAt w p m L g) (k u v : Int) : Calls Try.prog 18 #[.pointer (some ⟨p, 0, none⟩), .int .i64 k, .agg #[.int .i64 u, .int .i64 v]] w fun e w' => e = .returned (.int .i64 (becE L k u v)) ∧ TabAt w' p m (becL L k u v) g ∧ Turn p m w w' := by
  have hmf : ∀ (fn : Fn) (first cap : Array Value) (w : World), (Instr.makeFunc fn first cap).run Try.prog w = .ok (.func fn first cap) w := fun _ _ _ _ => rfl
  have hpl := hW.p_lt; have hml := hW.m_lt
  have hW1 := hW.alloc (.cells #[.int .i64 u, .int .i64 v] 30)
  have hG := get_eq hW1 k
  have HW := Lib.hid hW1
  have HC := Lib.hid (BoxA.new w 30 #[.int .i64 u, .int .i64 v])
  have HB0 := Lib.hid ((Below.refl w.heap.size w).alloc (Nat.le_refl _) (.cells #[.int .i64 u, .int .i64 v] 30))
  clear hW hW1
  cases e : getL L k with
  | none =>
    have h1 : becE L k u v = 60 := by unfold becE; rw [e]
    have h2 : getE L k = 60 := by unfold getE; rw [e]; rfl
    rw [becL_no (by rw [h1]; decide), h1]
    rw [h2, atL_none e] at hG
    have HG := Lib.hid hG
    clear hG e h1 h2
    go_enter Try.func18, Try.ntmps18
    go_wp2_with (go_at_call 15; refine HG.out.mono ?_; rintro e w' ⟨rfl, rfl⟩; unfold PV.val PV.cells PV.zero; dsimp only)
    go_ret
    exact ⟨rfl, ((HW.out.alloc _).alloc _).alloc _, Turn.of_below (((HB0.out.alloc (by simp) _).alloc (by simp; omega) _).alloc (by simp; omega) _)⟩
  | some q =>
    have h2 : getE L k = 0 := by unfold getE; rw [e]; rfl
    have hk : becE L k u v = if rightB u v = false then 50 else if q.uid ≠ 0 ∧ ¬ (q.uid = u ∧ q.gid = v) then 51 else 0 := by unfold becE; rw [e]; rfl
    have HS : Hid ((getL L k).isSome) := by unfold Hid; rw [e]; rfl
    have h3 := atL_some e
    rw [h2, h3] at hG
    have HG := Lib.hid hG
    clear hG e h2 h3
    obtain ⟨a0, a1, a2, a3, a4, a5, a6, a7⟩ := q
    dsimp only at hk
    have bX := BoxA.new (((w.alloc (.cells #[.int .i64 u, .int .i64 v] 30)).alloc (.cells #[.int .i64 a0, .int .i64 a1, .int .i64 a2, .int .i64 a3, .int .i64 a4, .string a5, .int .i64 a6, .bool a7] 39)).alloc (.cells #[.int .i64 a0, .int .i64 a1, .int .i64 a2, .int .i64 a3, .int .i64 a4, .string a5, .int .i64 a6, .bool a7] 39)) 39 #[.int .i64 a0, .int .i64 a1, .int .i64 a2, .int .i64 a3, .int .i64 a4, .string a5, .int .i64 a6, .bool a7]
    simp only [World.size_alloc] at bX
    have HX := Lib.hid bX
    have HT := Lib.hid (((HW.out.alloc (.cells #[.int .i64 a0, .int .i64 a1, .int .i64 a2, .int .i64 a3, .int .i64 a4, .string a5, .int .i64 a6, .bool a7] 39)).alloc (.cells #[.int .i64 a0, .int .i64 a1, .int .i64 a2, .int .i64 a3, .int .i64 a4, .string a5, .int .i64 a6, .bool a7] 39)).alloc (.cells #[.int .i64 a0, .int .i64 a1, .int .i64 a2, .int .i64 a3, .int .i64 a4, .string a5, .int .i64 a6, .bool a7] 39))
    have HC1 := Lib.hid (((HC.out.alloc (.cells #[.int .i64 a0, .int .i64 a1, .int .i64 a2, .int .i64 a3, .int .i64 a4, .string a5, .int .i64 a6, .bool a7] 39)).alloc (.cells #[.int .i64 a0, .int .i64 a1, .int .i64 a2, .int .i64 a3, .int .i64 a4, .string a5, .int .i64 a6, .bool a7] 39)).alloc (.cells #[.int .i64 a0, .int .i64 a1, .int .i64 a2, .int .i64 a3, .int .i64 a4, .string a5, .int .i64 a6, .bool a7] 39))
    have HB1 := Lib.hid (((HB0.out.alloc (by simp) (.cells #[.int .i64 a0, .int .i64 a1, .int .i64 a2, .int .i64 a3, .int .i64 a4, .string a5, .int .i64 a6, .bool a7] 39)).alloc (by simp; omega) (.cells #[.int .i64 a0, .int .i64 a1, .int .i64 a2, .int .i64 a3, .int .i64 a4, .string a5, .int .i64 a6, .bool a7] 39)).alloc (by simp; omega) (.cells #[.int .i64 a0, .int .i64 a1, .int .i64 a2, .int .i64 a3, .int .i64 a4, .string a5, .int .i64 a6, .bool a7] 39))
    have hz1 : ((((w.alloc (.cells #[.int .i64 u, .int .i64 v] 30)).alloc (.cells #[.int .i64 a0, .int .i64 a1, .int .i64 a2, .int .i64 a3, .int .i64 a4, .string a5, .int .i64 a6, .bool a7] 39)).alloc (.cells #[.int .i64 a0, .int .i64 a1, .int .i64 a2, .int .i64 a3, .int .i64 a4, .string a5, .int .i64 a6, .bool a7] 39)).alloc (.cells #[.int .i64 a0, .int .i64 a1, .int .i64 a2, .int .i64 a3, .int .i64 a4, .string a5, .int .i64 a6, .bool a7] 39)).heap.size = w.heap.size + 4 := by simp
    clear bX
    cases hr : rightB u v with
    | false =>
      rw [hr, if_pos rfl] at hk
      rw [becL_no (by rw [hk]; decide), hk]
      have HR := Lib.hid hr
      clear hr
      go_enter Try.func18, Try.ntmps18
      go_wp2_with (first
        | (go_at_call 15; refine HG.out.mono ?_; rintro e w' ⟨rfl, rfl⟩; unfold PV.val PV.cells; dsimp only; have k0 := HC1.out.at 0 (v := .int .i64 u) rfl; have k1 := HC1.out.at 1 (v := .int .i64 v) rfl)
        | (go_at_call 37; refine (right_any u v _).mono ?_; rintro e w2 ⟨rfl, hB2⟩; rw [HR.out]; have HT2 := Lib.hid (HT.out.below' hB2); have HB2 := Lib.hid (HB1.out.trans (hB2.mono HB1.out.size)); clear hB2 k0 k1))
      go_ret
      exact ⟨rfl, HT2.out, Turn.of_below HB2.out⟩
    | true =>
      rw [hr, if_neg (by decide)] at hk
      have HR := Lib.hid hr
      clear hr
      by_cases hbad : a3 ≠ 0 ∧ ¬ (a3 = u ∧ a4 = v)
      · rw [if_pos hbad] at hk
        rw [becL_no (by rw [hk]; decide), hk]
        have b1 : (a3 == 0) = false := by simpa using hbad.1
        have hq := neq_cred a3 a4 u v
        have b2 : ((a3 == u) && (a4 == v)) = false := by simpa using hbad.2
        rw [b2] at hq
        go_enter Try.func18, Try.ntmps18
        go_wp2_with (first
          | (go_at_call 15; refine HG.out.mono ?_; rintro e w' ⟨rfl, rfl⟩; unfold PV.val PV.cells; dsimp only; have k0 := HC1.out.at 0 (v := .int .i64 u) rfl; have k1 := HC1.out.at 1 (v := .int .i64 v) rfl)
          | (go_at_call 37; refine (right_any u v _).mono ?_; rintro e w2 ⟨rfl, hB2⟩; rw [HR.out]; have HT2 := Lib.hid (HT.out.below' hB2); have HB2 := Lib.hid (HB1.out.trans (hB2.mono HB1.out.size)); have l0 := (HC1.out.below' hB2).at 0 (v := .int .i64 u) rfl; have l1 := (HC1.out.below' hB2).at 1 (v := .int .i64 v) rfl; have x3 := (HX.out.below' hB2).at 3 (v := .int .i64 a3) rfl; have x4 := (HX.out.below' hB2).at 4 (v := .int .i64 a4) rfl; clear hB2 k0 k1))
        go_ret
        exact ⟨rfl, HT2.out, Turn.of_below HB2.out⟩
      · rw [if_neg hbad] at hk
        rw [becL_yes hk, hk]
        by_cases b0 : a3 = 0
        · subst b0
          go_enter Try.func18, Try.ntmps18
          go_wp2_with (first
            | (go_at_call 15; refine HG.out.mono ?_; rintro e w' ⟨rfl, rfl⟩; unfold PV.val PV.cells; dsimp only; have k0 := HC1.out.at 0 (v := .int .i64 u) rfl; have k1 := HC1.out.at 1 (v := .int .i64 v) rfl)
            | (go_at_call 37; refine (right_any u v _).mono ?_; rintro e w2 ⟨rfl, hB2⟩; rw [HR.out]; have HT2 := Lib.hid ((HT.out.below' hB2).alloc (.cells #[.int .i64 k] 3)); have HC2 := Lib.hid ((HC1.out.below' hB2).alloc (.cells #[.int .i64 k] 3)); have HX2 := Lib.hid (BoxA.new w2 3 #[.int .i64 k]); have hz2 : w.heap.size + 4 ≤ w2.heap.size := (by have h9 := hB2.size; simp only [World.size_alloc] at h9; omega); have HB2 := Lib.hid ((HB1.out.trans (hB2.mono HB1.out.size)).alloc (by omega) (.cells #[.int .i64 k] 3)); have x3 := (HX.out.below' hB2).at 3 (v := .int .i64 0) rfl; clear hB2 k0 k1)
            | (go_at_call 38; refine (bec_chg HT2.out u v HC2.out (by omega) (by omega) HX2.out (by omega) (by omega) HS.out).mono ?_; rintro e w4 ⟨rfl, h5, h6⟩))
          go_ret
          exact ⟨rfl, h5, (Turn.of_below HB2.out).trans h6⟩
        · have b1 : (a3 == 0) = false := by simpa using b0
          have hq := neq_cred a3 a4 u v
          have b2 : ((a3 == u) && (a4 == v)) = true := by
            have : a3 = u ∧ a4 = v := Classical.byContradiction (fun c => hbad ⟨b0, c⟩)
            simpa using this
          rw [b2] at hq
          go_enter Try.func18, Try.ntmps18
          go_wp2_with (first
            | (go_at_call 15; refine HG.out.mono ?_; rintro e w' ⟨rfl, rfl⟩; unfold PV.val PV.cells; dsimp only; have k0 := HC1.out.at 0 (v := .int .i64 u) rfl; have k1 := HC1.out.at 1 (v := .int .i64 v) rfl)
            | (go_at_call 37; refine (right_any u v _).mono ?_; rintro e w2 ⟨rfl, hB2⟩; rw [HR.out]; have HT2 := Lib.hid ((HT.out.below' hB2).alloc (.cells #[.int .i64 k] 3)); have HC2 := Lib.hid ((HC1.out.below' hB2).alloc (.cells #[.int .i64 k] 3)); have HX2 := Lib.hid (BoxA.new w2 3 #[.int .i64 k]); have hz2 : w.heap.size + 4 ≤ w2.heap.size := (by have h9 := hB2.size; simp only [World.size_alloc] at h9; omega); have HB2 := Lib.hid ((HB1.out.trans (hB2.mono HB1.out.size)).alloc (by omega) (.cells #[.int .i64 k] 3)); have l0 := (HC1.out.below' hB2).at 0 (v := .int .i64 u) rfl; have l1 := (HC1.out.below' hB2).at 1 (v := .int .i64 v) rfl; have x3 := (HX.out.below' hB2).at 3 (v := .int .i64 a3) rfl; have x4 := (HX.out.below' hB2).at 4 (v := .int .i64 a4) rfl; clear hB2 k0 k1)
            | (go_at_call 38; refine (bec_chg HT2.out u v HC2.out (by omega) (by omega) HX2.out (by omega) (by omega) HS.out).mono ?_; rintro e w4 ⟨rfl, h5, h6⟩))
          go_ret
          exact ⟨rfl, h5, (Turn.of_below HB2.out).trans h6⟩
end
end Go.Proofs.Ytonllnbincgdpaa
