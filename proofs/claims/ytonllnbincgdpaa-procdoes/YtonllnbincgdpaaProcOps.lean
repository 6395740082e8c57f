/- Package proc: Pids, Wake, Kill, Sleep, walked. -/
import Derived.Test.YtonllnbincgdpaaProcFork
namespace Go.Proofs.Ytonllnbincgdpaa
open Go.RowKit Go.MapKept

/-- a slice of numbers whose row lies at n or above. -/
def SlG (w : World) (n : Nat) (v : Value) (xs : List Int) : Prop := ∃ a cap, v = .slice a xs.length cap ∧ (0 < xs.length → ∃ r cur, a = some ⟨r, 0, none⟩ ∧ n ≤ r ∧ w.heap[r]? = some (.cells cur 3 (0, 0)) ∧ ∀ (j : Nat) (u : Value), (xs.map Go.encZ)[j]? = some u → cur[j]? = some u)
theorem SlG.of_row {W : World} {n : Nat} {v : Value} {xs : List Int} (hr : W.ownsRow n 3 1 v xs.length (xs.map Go.encZ)) : SlG W n v xs := by
  obtain ⟨a, cap, rfl, h⟩ := row_cells hr (by simp)
  exact ⟨a, cap, rfl, h⟩
theorem SlG.at {W : World} {n p m : Nat} {v : Value} {xs : List Int} (h : SlG W n v xs) (hp : p < n) (hm : m < n) : SlAt W p m v xs := by
  obtain ⟨a, cap, rfl, h⟩ := h
  refine ⟨a, cap, rfl, fun c => ?_⟩
  obtain ⟨r, cur, h1, h2, h3, h4⟩ := h c
  exact ⟨r, cur, h1, by omega, by omega, h3, h4⟩
theorem SlG.turn {W W' : World} {n p m : Nat} {v : Value} {xs : List Int} (h : SlG W n v xs) (ht : Turn p m W W') (hp : p < n) (hm : m < n) : SlG W' n v xs := by
  obtain ⟨a, cap, rfl, h⟩ := h
  refine ⟨a, cap, rfl, fun c => ?_⟩
  obtain ⟨r, cur, h1, h2, h3, h4⟩ := h c
  exact ⟨r, cur, h1, h2, (ht.block r (Array.getElem?_eq_some_iff.1 h3).1 (by omega) (by omega)).trans h3, h4⟩
theorem SlG.below {W W' : World} {n : Nat} {v : Value} {xs : List Int} (h : SlG W n v xs) (ht : Below W.heap.size W W') : SlG W' n v xs := by
  obtain ⟨a, cap, rfl, h⟩ := h
  refine ⟨a, cap, rfl, fun c => ?_⟩
  obtain ⟨r, cur, h1, h2, h3, h4⟩ := h c
  exact ⟨r, cur, h1, h2, (ht.block r (Array.getElem?_eq_some_iff.1 h3).1).trans h3, h4⟩
theorem SlG.mono {W : World} {n n' : Nat} {v : Value} {xs : List Int} (h : SlG W n v xs) (hn : n' ≤ n) : SlG W n' v xs := by
  obtain ⟨a, cap, rfl, h⟩ := h
  refine ⟨a, cap, rfl, fun c => ?_⟩
  obtain ⟨r, cur, h1, h2, h3, h4⟩ := h c
  exact ⟨r, cur, h1, by omega, h3, h4⟩

theorem thoseL_all (L : List PV) : thoseL (fun _ => true) L = L.map (·.pid) := by unfold thoseL; rw [List.filter_eq_self.2 (fun _ _ => rfl)]

section
variable {w : World} {p m : Nat} {L : List PV} {g : Int}

theorem those_any (hW : TabAt w p m L g) (hf : Nat) (caps : Array Value) (h : PV → Bool) (hent : ∀ args w, (callFunc hf args).run Try.prog w = .ok (.enter hf args) w)
    (hcall : ∀ (q : PV) (W : World), Below w.heap.size w W → Calls Try.prog hf (#[q.val] ++ caps) W fun e W' => e = .returned (.bool (h q)) ∧ Below W.heap.size W W') :
    Calls Try.prog 33 #[.pointer (some ⟨p, 0, none⟩), .func (.func hf) #[] caps] w fun e W' =>
      ∃ v, e = .returned v ∧ SlG W' w.heap.size v (thoseL h L) ∧ Below w.heap.size w W' :=
  (callsIn_wide.1 (those_in hW hf caps h hent hcall)).mono (by rintro e w' ⟨v, h1, h2, h3⟩; exact ⟨v, h1, SlG.of_row h2, h3⟩)

theorem pids_those (hW : TabAt w p m L g) : Calls Try.prog 33 #[.pointer (some ⟨p, 0, none⟩), .func (.func 34) #[] #[]] w fun e W' =>
      ∃ v, e = .returned v ∧ SlG W' w.heap.size v (L.map (·.pid)) ∧ Below w.heap.size w W' := by
  have := those_any hW 34 #[] (fun _ => true) (enters_of Try.func34 (by kernel_rfl) rfl) (fun q W _ => all_any q W)
  rw [thoseL_all] at this
  exact this

set_option maxRecDepth 100000 in
set_option maxHeartbeats 1000000 in
theorem pids_any (hW : TabAt w p m L g) : Calls Try.prog 14 #[.pointer (some ⟨p, 0, none⟩)] w fun e W' =>
      ∃ v, e = .returned v ∧ SlG W' w.heap.size v (L.map (·.pid)) ∧ Below w.heap.size w W' := by
  have HW := Lib.hid hW; clear hW
  go_enter Try.func14, Try.ntmps14
  go_wp2_with (go_at_call 33; refine (pids_those HW.out).mono ?_; rintro e w' ⟨v, rfl, h1, h2⟩)
  go_ret
  exact ⟨v, rfl, h1, h2⟩

theorem wake_those (hW : TabAt w p m L g) (s : ByteArray) (c : Nat) (hc : BoxA w c 9 #[.string s]) : Calls Try.prog 33 #[.pointer (some ⟨p, 0, none⟩), .func (.func 45) #[] #[.pointer (some ⟨c, 0, none⟩)]] w fun e W' =>
      ∃ v, e = .returned v ∧ SlG W' w.heap.size v (thoseL (wakB s) L) ∧ Below w.heap.size w W' :=
  those_any hW 45 _ _ (enters_of Try.func45 (by kernel_rfl) rfl) (fun q W hB => sleeps_any q s c W (hc.below' hB))
theorem wake_chg (hW : TabAt w p m L g) (s : ByteArray) {v : Value} (hv : SlAt w p m v (thoseL (wakB s) L)) : Calls Try.prog 38 #[.pointer (some ⟨p, 0, none⟩), .func (.func 46) #[] #[], v] w fun e w' => e = .returned (.tuple #[]) ∧ TabAt w' p m (wakL L s) g ∧ Turn p m w w' := by
  have h1 := change_any hW 46 #[] awakeV awake_pid (enters_of Try.func46 (by kernel_rfl) rfl) (fun q W _ => awake_any q W) hv (those_in_list hW.ok) (by have := thoseL_len (wakB s) L; have := hW.ok.len; omega)
  have h2 := chg_those awake_pid (wakB s) L [] hW.ok
  simp only [List.nil_append] at h2
  rw [h2] at h1
  exact h1

set_option maxRecDepth 100000 in
set_option maxHeartbeats 1000000 in
theorem wake_any (hW : TabAt w p m L g) (s : ByteArray) : Calls Try.prog 22 #[.pointer (some ⟨p, 0, none⟩), .string s] w fun e w' =>
      ∃ v, e = .returned v ∧ SlG w' w.heap.size v (thoseL (wakB s) L) ∧ TabAt w' p m (wakL L s) g ∧ Turn p m w w' := by
  have hmf : ∀ (fn : Fn) (first cap : Array Value) (w : World), (Instr.makeFunc fn first cap).run Try.prog w = .ok (.func fn first cap) w := fun _ _ _ _ => rfl
  have hpl := hW.p_lt; have hml := hW.m_lt
  have HW := Lib.hid (hW.alloc (.cells #[.string s] 9))
  have HBX := Lib.hid (BoxA.new w 9 #[.string s])
  have HB0 := Lib.hid ((Below.refl w.heap.size w).alloc (Nat.le_refl _) (.cells #[.string s] 9))
  clear hW
  go_enter Try.func22, Try.ntmps22
  go_wp2_with (first | (go_at_call 33; refine (wake_those HW.out s _ HBX.out).mono ?_; rintro e w1 ⟨v, rfl, h1, h2⟩; have HV := Lib.hid (h1.mono (n' := w.heap.size) (by simp)); have HT := Lib.hid (HW.out.below' h2); have HB1 := Lib.hid (HB0.out.trans (h2.mono (by simp))); clear h1 h2) | (go_at_call 38; refine (wake_chg HT.out s (HV.out.at hpl hml)).mono ?_; rintro e w2 ⟨rfl, h3, h4⟩))
  go_ret
  exact ⟨v, rfl, HV.out.turn h4 hpl hml, h3, (Turn.of_below HB1.out).trans h4⟩

/-- one process changed. -/
theorem change_one (hW : TabAt w p m L g) (F : Nat) (caps : Array Value) (f : PV → PV) (hfp : ∀ q, (f q).pid = q.pid) (hent : ∀ args w, (callFunc F args).run Try.prog w = .ok (.enter F args) w)
    (hcall : ∀ (q : PV) (W : World), Turn p m w W → Calls Try.prog F (#[q.val] ++ caps) W fun e W' => e = .returned (f q).val ∧ Below W.heap.size W W')
    {k : Int} {r : Nat} (hr : BoxA w r 3 #[.int .i64 k]) (hk : (getL L k).isSome) (h1 : r ≠ p) (h2 : r ≠ m) :
    Calls Try.prog 38 #[.pointer (some ⟨p, 0, none⟩), .func (.func F) #[] caps, .slice (some ⟨r, 0, none⟩) 1 1] w fun e w' => e = .returned (.tuple #[]) ∧ TabAt w' p m (setL L k (f (atL L k))) g ∧ Turn p m w w' :=
  change_any hW F caps f hfp hent hcall (SlAt.one hr h1 h2) (by simpa using hk) (by simp)

theorem sl_chg (hW : TabAt w p m L g) (s : ByteArray) {c r : Nat} {k : Int} (hc : BoxA w c 9 #[.string s]) (h1 : c ≠ p) (h2 : c ≠ m) (hr : BoxA w r 3 #[.int .i64 k]) (h3 : r ≠ p) (h4 : r ≠ m) (hk : (getL L k).isSome) :
    Calls Try.prog 38 #[.pointer (some ⟨p, 0, none⟩), .func (.func 44) #[] #[.pointer (some ⟨c, 0, none⟩)], .slice (some ⟨r, 0, none⟩) 1 1] w fun e w' => e = .returned (.tuple #[]) ∧ TabAt w' p m (setL L k (slV s (atL L k))) g ∧ Turn p m w w' :=
  change_one hW 44 #[.pointer (some ⟨c, 0, none⟩)] (slV s) (fun _ => rfl) (enters_of Try.func44 (by kernel_rfl) rfl) (fun q W hU => sl_any q s c W (hc.keep (hU.block _ hc.lt h1 h2))) hr hk h3 h4

theorem kiE_some {q : PV} {k : Int} (h : getL L k = some q) : kiE L k = if k = 1 then 2 else if q.st = 3 then 60 else 0 := by unfold kiE; rw [h]
theorem kiL_no {k : Int} (h : kiE L k ≠ 0) : kiL L k = L := by unfold kiL; rw [if_neg h]
theorem kiL_yes {k : Int} (h : kiE L k = 0) : kiL L k = setL L k (killV (atL L k)) := by unfold kiL; rw [if_pos h]
theorem slL_no {k : Int} {s : ByteArray} (h : runE L k ≠ 0) : slL L k s = L := by unfold slL; rw [if_neg h]
theorem slL_yes {k : Int} {s : ByteArray} (h : runE L k = 0) : slL L k s = setL L k (slV s (atL L k)) := by unfold slL; rw [if_pos h]

set_option maxRecDepth 100000 in
set_option maxHeartbeats 2000000 in
theorem tkill_any (hW : TabAt w p m L g) (k : Int) : Calls Try.prog 20 #[.pointer (some ⟨p, 0, none⟩), .int .i64 k] w fun e w' => e = .returned (.int .i64 (kiE L k)) ∧ TabAt w' p m (kiL L k) g ∧ Turn p m w w' := by
  have hG := get_eq hW k
  have hpl := hW.p_lt; have hml := hW.m_lt
  have HW := Lib.hid hW; clear hW
  cases e : getL L k with
  | none =>
    have h1 : kiE L k = 60 := by unfold kiE; rw [e]
    have h2 : getE L k = 60 := by unfold getE; rw [e]; rfl
    rw [h1, kiL_no (by rw [h1]; decide)]
    rw [h2, atL_none e] at hG
    have HG := Lib.hid hG
    clear hG e h1 h2
    go_enter Try.func20, Try.ntmps20
    go_wp2_with (go_at_call 15; refine HG.out.mono ?_; rintro e w' ⟨rfl, rfl⟩; unfold PV.val PV.cells PV.zero; dsimp only)
    go_ret
    exact ⟨rfl, ((HW.out.alloc _).alloc _).alloc _, Turn.of_below ((((Below.refl _ _).alloc (Nat.le_refl _) _).alloc (by simp) _).alloc (by simp; omega) _)⟩
  | some q =>
    have h2 : getE L k = 0 := by unfold getE; rw [e]; rfl
    have hk := kiE_some e
    have HS : Hid ((getL L k).isSome) := by unfold Hid; rw [e]; rfl
    have h3 := atL_some e
    rw [h2, h3] at hG
    have HG := Lib.hid hG
    have H3 := Lib.hid h3
    clear hG e h2 h3
    obtain ⟨a0, a1, a2, a3, a4, a5, a6, a7⟩ := q
    dsimp only at hk
    by_cases c1 : k = 1
    · rw [if_pos c1] at hk
      rw [kiL_no (by rw [hk]; decide), hk]
      subst c1
      go_enter Try.func20, Try.ntmps20
      go_wp2_with (go_at_call 15; refine HG.out.mono ?_; rintro e w' ⟨rfl, rfl⟩; unfold PV.val PV.cells; dsimp only)
      go_ret
      exact ⟨rfl, ((HW.out.alloc _).alloc _).alloc _, Turn.of_below ((((Below.refl _ _).alloc (Nat.le_refl _) _).alloc (by simp) _).alloc (by simp; omega) _)⟩
    · have b1 : (k == 1) = false := by simpa using c1
      rw [if_neg c1] at hk
      by_cases c3 : a2 = 3
      · rw [if_pos c3] at hk
        rw [kiL_no (by rw [hk]; decide), hk]
        subst c3
        go_enter Try.func20, Try.ntmps20
        go_wp2_with (go_at_call 15; refine HG.out.mono ?_; rintro e w' ⟨rfl, rfl⟩; unfold PV.val PV.cells; dsimp only)
        go_ret
        exact ⟨rfl, ((HW.out.alloc _).alloc _).alloc _, Turn.of_below ((((Below.refl _ _).alloc (Nat.le_refl _) _).alloc (by simp) _).alloc (by simp; omega) _)⟩
      · have b3 : (a2 == 3) = false := by simpa using c3
        rw [if_neg c3] at hk
        rw [kiL_yes hk, hk]
        have bX := BoxA.new (((w.alloc (.cells #[.int .i64 a0, .int .i64 a1, .int .i64 a2, .int .i64 a3, .int .i64 a4, .string a5, .int .i64 a6, .bool a7] 39)).alloc (.cells #[.int .i64 a0, .int .i64 a1, .int .i64 a2, .int .i64 a3, .int .i64 a4, .string a5, .int .i64 a6, .bool a7] 39)).alloc (.cells #[.int .i64 a0, .int .i64 a1, .int .i64 a2, .int .i64 a3, .int .i64 a4, .string a5, .int .i64 a6, .bool a7] 39)) 3 #[.int .i64 k]
        simp only [World.size_alloc] at bX
        have HBX := Lib.hid bX
        clear bX
        have HT := Lib.hid ((((HW.out.alloc (.cells #[.int .i64 a0, .int .i64 a1, .int .i64 a2, .int .i64 a3, .int .i64 a4, .string a5, .int .i64 a6, .bool a7] 39)).alloc (.cells #[.int .i64 a0, .int .i64 a1, .int .i64 a2, .int .i64 a3, .int .i64 a4, .string a5, .int .i64 a6, .bool a7] 39)).alloc (.cells #[.int .i64 a0, .int .i64 a1, .int .i64 a2, .int .i64 a3, .int .i64 a4, .string a5, .int .i64 a6, .bool a7] 39)).alloc (.cells #[.int .i64 k] 3))
        have HB := Lib.hid ((((((Below.refl w.heap.size w).alloc (Nat.le_refl _) (.cells #[.int .i64 a0, .int .i64 a1, .int .i64 a2, .int .i64 a3, .int .i64 a4, .string a5, .int .i64 a6, .bool a7] 39)).alloc (by simp) (.cells #[.int .i64 a0, .int .i64 a1, .int .i64 a2, .int .i64 a3, .int .i64 a4, .string a5, .int .i64 a6, .bool a7] 39)).alloc (by simp; omega) (.cells #[.int .i64 a0, .int .i64 a1, .int .i64 a2, .int .i64 a3, .int .i64 a4, .string a5, .int .i64 a6, .bool a7] 39))).alloc (by simp; omega) (.cells #[.int .i64 k] 3))
        go_enter Try.func20, Try.ntmps20
        go_wp2_with (first | (go_at_call 15; refine HG.out.mono ?_; rintro e w' ⟨rfl, rfl⟩; unfold PV.val PV.cells; dsimp only) | (go_at_call 38; refine (change_one HT.out 43 #[] killV kill_pid (enters_of Try.func43 (by kernel_rfl) rfl) (fun q W _ => kill_any q W) HBX.out HS.out (by simp; omega) (by simp; omega)).mono ?_; rintro e w2 ⟨rfl, h3, h4⟩))
        go_ret
        exact ⟨rfl, h3, (Turn.of_below HB.out).trans h4⟩

set_option maxRecDepth 100000 in
set_option maxHeartbeats 2000000 in
theorem tsleep_any (hW : TabAt w p m L g) (k : Int) (s : ByteArray) : Calls Try.prog 21 #[.pointer (some ⟨p, 0, none⟩), .int .i64 k, .string s] w fun e w' => e = .returned (.int .i64 (runE L k)) ∧ TabAt w' p m (slL L k s) g ∧ Turn p m w w' := by
  have hmf : ∀ (fn : Fn) (first cap : Array Value) (w : World), (Instr.makeFunc fn first cap).run Try.prog w = .ok (.func fn first cap) w := fun _ _ _ _ => rfl
  have hpl := hW.p_lt; have hml := hW.m_lt
  have hR := run_any (hW.alloc (.cells #[.string s] 9)) k
  have HW := Lib.hid (hW.alloc (.cells #[.string s] 9))
  have HC := Lib.hid (BoxA.new w 9 #[.string s])
  have HB0 := Lib.hid ((Below.refl w.heap.size w).alloc (Nat.le_refl _) (.cells #[.string s] 9))
  clear hW
  obtain ⟨q, hq⟩ : ∃ q, q = runQ L k := ⟨_, rfl⟩
  rw [← hq] at hR
  obtain ⟨a0, a1, a2, a3, a4, a5, a6, a7⟩ := q
  clear hq
  by_cases h0 : runE L k = 0
  · rw [h0] at hR ⊢
    have HS : Hid ((getL L k).isSome) := by obtain ⟨q, hq, _⟩ := runE_some h0; unfold Hid; rw [hq]; rfl
    rw [slL_yes h0]
    have HR := Lib.hid hR
    clear hR h0
    go_enter Try.func21, Try.ntmps21
    go_wp2_with (first | (go_at_call 35; refine HR.out.mono ?_; rintro e w1 ⟨rfl, hB⟩; unfold PV.val PV.cells; dsimp only; have HT := Lib.hid (((HW.out.below' hB).alloc (.cells #[.int .i64 a0, .int .i64 a1, .int .i64 a2, .int .i64 a3, .int .i64 a4, .string a5, .int .i64 a6, .bool a7] 39)).alloc (.cells #[.int .i64 k] 3)); have HC1 := Lib.hid (((HC.out.below' hB).alloc (.cells #[.int .i64 a0, .int .i64 a1, .int .i64 a2, .int .i64 a3, .int .i64 a4, .string a5, .int .i64 a6, .bool a7] 39)).alloc (.cells #[.int .i64 k] 3)); have bX := BoxA.new (w1.alloc (.cells #[.int .i64 a0, .int .i64 a1, .int .i64 a2, .int .i64 a3, .int .i64 a4, .string a5, .int .i64 a6, .bool a7] 39)) 3 #[.int .i64 k]; rw [World.size_alloc] at bX; have HBX := Lib.hid bX; clear bX; have hsz : w.heap.size + 1 ≤ w1.heap.size := (by have := hB.size; rw [World.size_alloc] at this; exact this); have HB := Lib.hid (((HB0.out.trans (hB.mono HB0.out.size)).alloc (by omega) (.cells #[.int .i64 a0, .int .i64 a1, .int .i64 a2, .int .i64 a3, .int .i64 a4, .string a5, .int .i64 a6, .bool a7] 39)).alloc (by simp; omega) (.cells #[.int .i64 k] 3)); clear hB) | (go_at_call 38; refine (sl_chg HT.out s HC1.out (by omega) (by omega) HBX.out (by omega) (by omega) HS.out).mono ?_; rintro e w2 ⟨rfl, h3, h4⟩))
    go_ret
    exact ⟨rfl, h3, (Turn.of_below HB.out).trans h4⟩
  · have hb : (runE L k == 0) = false := by simpa using h0
    rw [slL_no h0]
    have HR := Lib.hid hR
    clear hR
    go_enter Try.func21, Try.ntmps21
    go_wp2_with (go_at_call 35; refine HR.out.mono ?_; rintro e w1 ⟨rfl, hB⟩; unfold PV.val PV.cells; dsimp only; have HT := Lib.hid (HW.out.below' hB); have HB := Lib.hid (HB0.out.trans (hB.mono HB0.out.size)); clear hB)
    go_ret
    exact ⟨rfl, HT.out.alloc _, Turn.of_below (HB.out.alloc HB.out.size _)⟩
end
end Go.Proofs.Ytonllnbincgdpaa
