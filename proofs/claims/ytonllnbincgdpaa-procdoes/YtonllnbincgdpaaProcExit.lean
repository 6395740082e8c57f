/- Package proc: Exit, walked. -/
import Derived.Test.YtonllnbincgdpaaProcOps
namespace Go.Proofs.Ytonllnbincgdpaa
open Go.RowKit Go.MapKept

section
variable {w : World} {p m : Nat} {L : List PV} {g : Int}

def parB (k : Int) (q : PV) : Bool := q.par == k
theorem ex_those (hW : TabAt w p m L g) (k : Int) (c : Nat) (hc : BoxA w c 3 #[.int .i64 k]) : Calls Try.prog 33 #[.pointer (some ⟨p, 0, none⟩), .func (.func 41) #[] #[.pointer (some ⟨c, 0, none⟩)]] w fun e W' =>
      ∃ v, e = .returned v ∧ SlG W' w.heap.size v (thoseL (parB k) L) ∧ Below w.heap.size w W' :=
  those_any hW 41 _ _ (enters_of Try.func41 (by kernel_rfl) rfl) (fun q W hB => child_any q k c W (hc.below' hB))
theorem orph_chg (hW : TabAt w p m L g) (k : Int) {v : Value} (hv : SlAt w p m v (thoseL (parB k) L)) : Calls Try.prog 38 #[.pointer (some ⟨p, 0, none⟩), .func (.func 40) #[] #[], v] w fun e w' => e = .returned (.tuple #[]) ∧ TabAt w' p m (exL0 L k) g ∧ Turn p m w w' := by
  have h1 := change_any hW 40 #[] orphV (fun _ => rfl) (enters_of Try.func40 (by kernel_rfl) rfl) (fun q W _ => orph_any q W) hv (those_in_list hW.ok) (by have := thoseL_len (parB k) L; have := hW.ok.len; omega)
  have h2 := chg_those (f := orphV) (fun _ => rfl) (parB k) L [] hW.ok
  simp only [List.nil_append] at h2
  have h3 : L.map (fun q => if parB k q = true then orphV q else q) = exL0 L k := List.map_congr_left (fun q _ => by simp [parB])
  rw [h2, h3] at h1
  exact h1
theorem ex_chg (hW : TabAt w p m L g) (s : Int) {c r : Nat} {k : Int} (hc : BoxA w c 3 #[.int .i64 s]) (h1 : c ≠ p) (h2 : c ≠ m) (hr : BoxA w r 3 #[.int .i64 k]) (h3 : r ≠ p) (h4 : r ≠ m) (hk : (getL L k).isSome) :
    Calls Try.prog 38 #[.pointer (some ⟨p, 0, none⟩), .func (.func 42) #[] #[.pointer (some ⟨c, 0, none⟩)], .slice (some ⟨r, 0, none⟩) 1 1] w fun e w' => e = .returned (.tuple #[]) ∧ TabAt w' p m (setL L k (exV s (atL L k))) g ∧ Turn p m w w' :=
  change_one hW 42 #[.pointer (some ⟨c, 0, none⟩)] (exV s) (fun _ => rfl) (enters_of Try.func42 (by kernel_rfl) rfl) (fun q W hU => ex_any q s c W (hc.keep (hU.block _ hc.lt h1 h2))) hr hk h3 h4
theorem exL_no {k s : Int} (h : exE L k s ≠ 0) : exL L k s = L := by unfold exL; rw [if_neg h]
theorem exL_yes {k s : Int} (h : exE L k s = 0) : exL L k s = setL (exL0 L k) k (exV s (atL (exL0 L k) k)) := by unfold exL; rw [if_pos h]

set_option maxRecDepth 100000 in
set_option maxHeartbeats 2000000 in
theorem exit_any (hW : TabAt w p m L g) (k s : Int) : Calls Try.prog 19 #[.pointer (some ⟨p, 0, none⟩), .int .i64 k, .int .i64 s] w fun e w' => e = .returned (.int .i64 (exE L k s)) ∧ TabAt w' p m (exL L k s) g ∧ Turn p m w w' := by
  have hmf : ∀ (fn : Fn) (first cap : Array Value) (w : World), (Instr.makeFunc fn first cap).run Try.prog w = .ok (.func fn first cap) w := fun _ _ _ _ => rfl
  have hpl := hW.p_lt; have hml := hW.m_lt
  have hW2 := (hW.alloc (.cells #[.int .i64 k] 3)).alloc (.cells #[.int .i64 s] 3)
  have hR := run_any hW2 k
  have bK := (BoxA.new w 3 #[.int .i64 k]).alloc (.cells #[.int .i64 s] 3)
  have bS := BoxA.new (w.alloc (.cells #[.int .i64 k] 3)) 3 #[.int .i64 s]
  rw [World.size_alloc] at bS
  have HW := Lib.hid hW2
  have HB0 := Lib.hid (((Below.refl w.heap.size w).alloc (Nat.le_refl _) (.cells #[.int .i64 k] 3)).alloc (by simp) (.cells #[.int .i64 s] 3))
  have HKK := Lib.hid bK; have HSS := Lib.hid bS
  have hz0 : ((w.alloc (.cells #[.int .i64 k] 3)).alloc (.cells #[.int .i64 s] 3)).heap.size = w.heap.size + 2 := by simp
  clear hW hW2 bK bS
  obtain ⟨q, hq⟩ : ∃ q, q = runQ L k := ⟨_, rfl⟩
  rw [← hq] at hR
  obtain ⟨a0, a1, a2, a3, a4, a5, a6, a7⟩ := q
  clear hq
  by_cases h0 : runE L k = 0
  · have hE : exE L k s = if k = 1 ∨ s < 0 ∨ s > 255 then 2 else 0 := by unfold exE; rw [h0]; rfl
    have HS : Hid (∃ q, getL L k = some q) := by obtain ⟨q, hq, _⟩ := runE_some h0; exact ⟨q, hq⟩
    rw [h0] at hR
    have HR := Lib.hid hR
    clear hR
    by_cases hbad : k = 1 ∨ s < 0 ∨ s > 255
    · rw [if_pos hbad] at hE
      rw [exL_no (by rw [hE]; decide), hE]
      rcases (show k = 1 ∨ (k ≠ 1 ∧ s < 0) ∨ (k ≠ 1 ∧ ¬ s < 0 ∧ 255 < s) by omega) with c | ⟨c, c2⟩ | ⟨c, c2, c3⟩
      · subst c
        go_enter Try.func19, Try.ntmps19
        go_wp2_with (go_at_call 35; refine HR.out.mono ?_; rintro e w1 ⟨rfl, hB⟩; unfold PV.val PV.cells; dsimp only; have k0 := ((HKK.out.below' hB).alloc (.cells #[.int .i64 a0, .int .i64 a1, .int .i64 a2, .int .i64 a3, .int .i64 a4, .string a5, .int .i64 a6, .bool a7] 39)).at 0 (v := .int .i64 1) rfl; have HT := Lib.hid (HW.out.below' hB); have HB := Lib.hid (HB0.out.trans (hB.mono HB0.out.size)); clear hB)
        go_ret
        exact ⟨rfl, HT.out.alloc _, Turn.of_below (HB.out.alloc HB.out.size _)⟩
      · have b1 : (k == 1) = false := by simpa using c
        go_enter Try.func19, Try.ntmps19
        go_wp2_with (go_at_call 35; refine HR.out.mono ?_; rintro e w1 ⟨rfl, hB⟩; unfold PV.val PV.cells; dsimp only; have k0 := ((HKK.out.below' hB).alloc (.cells #[.int .i64 a0, .int .i64 a1, .int .i64 a2, .int .i64 a3, .int .i64 a4, .string a5, .int .i64 a6, .bool a7] 39)).at 0 (v := .int .i64 k) rfl; have s0 := ((HSS.out.below' hB).alloc (.cells #[.int .i64 a0, .int .i64 a1, .int .i64 a2, .int .i64 a3, .int .i64 a4, .string a5, .int .i64 a6, .bool a7] 39)).at 0 (v := .int .i64 s) rfl; have HT := Lib.hid (HW.out.below' hB); have HB := Lib.hid (HB0.out.trans (hB.mono HB0.out.size)); clear hB)
        go_ret
        exact ⟨rfl, HT.out.alloc _, Turn.of_below (HB.out.alloc HB.out.size _)⟩
      · have b1 : (k == 1) = false := by simpa using c
        go_enter Try.func19, Try.ntmps19
        go_wp2_with (go_at_call 35; refine HR.out.mono ?_; rintro e w1 ⟨rfl, hB⟩; unfold PV.val PV.cells; dsimp only; have k0 := ((HKK.out.below' hB).alloc (.cells #[.int .i64 a0, .int .i64 a1, .int .i64 a2, .int .i64 a3, .int .i64 a4, .string a5, .int .i64 a6, .bool a7] 39)).at 0 (v := .int .i64 k) rfl; have s0 := ((HSS.out.below' hB).alloc (.cells #[.int .i64 a0, .int .i64 a1, .int .i64 a2, .int .i64 a3, .int .i64 a4, .string a5, .int .i64 a6, .bool a7] 39)).at 0 (v := .int .i64 s) rfl; have HT := Lib.hid (HW.out.below' hB); have HB := Lib.hid (HB0.out.trans (hB.mono HB0.out.size)); clear hB)
        go_ret
        exact ⟨rfl, HT.out.alloc _, Turn.of_below (HB.out.alloc HB.out.size _)⟩
    · rw [if_neg hbad] at hE
      rw [exL_yes hE, hE]
      have b1 : (k == 1) = false := by simp; omega
      have hs0 : 0 ≤ s := by omega
      have hs1 : s ≤ 255 := by omega
      go_enter Try.func19, Try.ntmps19
      go_wp2_with (first
        | (go_at_call 35; refine HR.out.mono ?_; rintro e w1 ⟨rfl, hB⟩; unfold PV.val PV.cells; dsimp only; have bK1 := (HKK.out.below' hB).alloc (.cells #[.int .i64 a0, .int .i64 a1, .int .i64 a2, .int .i64 a3, .int .i64 a4, .string a5, .int .i64 a6, .bool a7] 39); have bS1 := (HSS.out.below' hB).alloc (.cells #[.int .i64 a0, .int .i64 a1, .int .i64 a2, .int .i64 a3, .int .i64 a4, .string a5, .int .i64 a6, .bool a7] 39); have k0 := bK1.at 0 (v := .int .i64 k) rfl; have s0 := bS1.at 0 (v := .int .i64 s) rfl; have HK1 := Lib.hid bK1; have HS1 := Lib.hid bS1; have HT := Lib.hid ((HW.out.below' hB).alloc (.cells #[.int .i64 a0, .int .i64 a1, .int .i64 a2, .int .i64 a3, .int .i64 a4, .string a5, .int .i64 a6, .bool a7] 39)); have HB := Lib.hid ((HB0.out.trans (hB.mono HB0.out.size)).alloc (by have := hB.size; omega) (.cells #[.int .i64 a0, .int .i64 a1, .int .i64 a2, .int .i64 a3, .int .i64 a4, .string a5, .int .i64 a6, .bool a7] 39)); have hz1 : w.heap.size + 2 ≤ w1.heap.size := (by have := hB.size; omega); clear hB bK1 bS1)
        | (go_at_call 33; refine (ex_those HT.out k _ HK1.out).mono ?_; rintro e w2 ⟨v, rfl, h1, h2⟩; have HV := Lib.hid (h1.mono (n' := w.heap.size) (by simp; omega)); have HT2 := Lib.hid (HT.out.below' h2); have HK2 := Lib.hid (HK1.out.below' h2); have HS2 := Lib.hid (HS1.out.below' h2); have HB2 := Lib.hid (HB.out.trans (h2.mono HB.out.size)); clear h1 h2 k0 s0)
        | (go_at_call 38; refine (ex_chg HT3.out s HS3.out (by omega) (by omega) HX3.out (by omega) (by omega) (by obtain ⟨q, hq⟩ := HS.out; rw [exL0_get hq]; rfl)).mono ?_; rintro e w4 ⟨rfl, h5, h6⟩)
        | (go_at_call 38; refine (orph_chg HT2.out k (HV.out.at hpl hml)).mono ?_; rintro e w3 ⟨rfl, h3, h4⟩; have bK3 := HK2.out.keep (h4.block _ HK2.out.lt (by omega) (by omega)); have bS3 := HS2.out.keep (h4.block _ HS2.out.lt (by omega) (by omega)); have k3 := bK3.at 0 (v := .int .i64 k) rfl; have HT3 := Lib.hid (h3.alloc (.cells #[.int .i64 k] 3)); have HS3 := Lib.hid (bS3.alloc (.cells #[.int .i64 k] 3)); have HX3 := Lib.hid (BoxA.new w3 3 #[.int .i64 k]); have hz3 : w.heap.size + 2 ≤ w3.heap.size := (by have := bS3.lt; omega); have HU := Lib.hid (((Turn.of_below HB2.out).trans h4).trans (Turn.of_below ((Below.refl _ w3).alloc (Nat.le_refl _) (.cells #[.int .i64 k] 3)))); clear h3 h4 bK3 bS3))
      go_ret
      exact ⟨rfl, h5, HU.out.trans h6⟩
  · have hE : exE L k s = runE L k := by unfold exE; rw [if_pos h0]
    have hb : (runE L k == 0) = false := by simpa using h0
    rw [exL_no (by rw [hE]; exact h0), hE]
    have HR := Lib.hid hR
    clear hR
    go_enter Try.func19, Try.ntmps19
    go_wp2_with (go_at_call 35; refine HR.out.mono ?_; rintro e w1 ⟨rfl, hB⟩; unfold PV.val PV.cells; dsimp only; have HT := Lib.hid (HW.out.below' hB); have HB := Lib.hid (HB0.out.trans (hB.mono HB0.out.size)); clear hB)
    go_ret
    exact ⟨rfl, HT.out.alloc _, Turn.of_below (HB.out.alloc HB.out.size _)⟩
end
end Go.Proofs.Ytonllnbincgdpaa
