/- Package pipe: the iterator counts and its closure, walked; none. -/
import Derived.Test.YtpfldelmbigmbaaDoorPiMem
import Derived.Test.YtpfldelmbigmbaaDoorQuKeep
import Derived.BigRegionIn
namespace Go.Proofs.YtpfldelmbigmbaaDoor
open Go.RowKit Go.Shelf

attribute [local go_sem] Oper.semAt_some

/-- how many ends there are of a kind. -/
def endN (r v k : Nat) : Nat := if k = 1 then r else v
/-- kinds in a block of their own. -/
structure KindsAt (w : World) (b : Nat) (K : List Nat) : Prop where
  blk : ∃ (xs : Array Value) (t : TypeId), w.heap[b]? = some (.cells xs t (0, 0)) ∧ ∀ (i k : Nat), K[i]? = some k → xs[i]? = some (Value.int .i64 (k : Int))
  kind : ∀ k ∈ K, k = 1 ∨ k = 2
section
variable {g : Nat} {A : Fin 4 → Addr} {w w' : World} {p q r v b : Nat} {L : List UInt8} {K : List Nat}
theorem KindsAt.lt (h : KindsAt w b K) : b < w.heap.size := by obtain ⟨xs, t, e, _⟩ := h.blk; exact (Array.getElem?_eq_some_iff.1 e).1
theorem KindsAt.below (h : KindsAt w b K) (hb : Below w.heap.size w w') : KindsAt w' b K := ⟨by obtain ⟨xs, t, e, f⟩ := h.blk; exact ⟨xs, t, (hb.block b h.lt).trans e, f⟩, h.kind⟩
theorem KindsAt.at (h : KindsAt w b K) {i k : Nat} (hk : K[i]? = some k) : w.cell? ⟨b, i, none⟩ = some (.int .i64 (k : Int)) := by
  obtain ⟨xs, t, e, f⟩ := h.blk
  simp [World.cell?, e, f i k hk]

set_option maxHeartbeats 400000 in
theorem counts_in (n : Nat) (a : Option Addr) (s : Value) (hs : ∃ x l c, s = .slice x l c) (w : World) :
    CallsIn Fence.wide n Tryd.prog 41 #[.pointer a, s] w fun e w' => e = .returned (.func (.func 46) #[] #[.pointer (some ⟨w.heap.size + 1, 0, none⟩), .pointer (some ⟨w.heap.size, 0, none⟩)]) ∧ w' = (w.alloc (.cells #[.pointer a] 79)).alloc (.cells #[s] 73) := by
  obtain ⟨x, l, c, rfl⟩ := hs
  refine callsIn_of_wp Tryd.func41 rfl trivial ?_ rfl
  simp only [Tryd.ntmps41, List.size_toArray, List.length_cons, List.length_nil, Nat.reduceAdd, Nat.reduceSub, Array.replicate_succ, Array.replicate_zero, List.push_toArray, List.append_toArray, List.nil_append, List.cons_append]
  gi_wp2
  go_ret
  exact ⟨rfl, rfl⟩

/-- what is handed on for the i-th kind. -/
def cntV (r v : Nat) (K : List Nat) (x : Fin K.length) : Array Value := #[.int .i64 ((endN r v K[x] : Nat) : Int)]

set_option maxRecDepth 100000 in
set_option maxHeartbeats 2000000 in
theorem counts1_in (n : Nat) (hn : 1 ≤ n) (l Bb Bk cap n₀ : Nat) (J Jx : List (Fin K.length) → World → Prop) (W : World)
    (hY : ∀ pre (x : Fin K.length) W, J pre W → pre.length < K.length → YieldAt Fence.wide (n - 1) Tryd.prog l (cntV r v K x) W fun e W' =>
      (e = .returned (.bool true) ∧ J (pre ++ [x]) W' ∧ KpC n₀ W W') ∨ (e = .returned (.bool false) ∧ Jx (pre ++ [x]) W'))
    (hP : PM g A W p q L r v) (hlow : ∀ k, (k = p ∨ k = q) ∨ k < g → k < n₀) (hK : KindsAt W b K) (hbn : b < n₀) (cb : BoxA W Bb 79 #[.pointer (some ⟨p, 0, none⟩)]) (ck : BoxA W Bk 73 #[.slice (some ⟨b, 0, none⟩) K.length cap]) (hlen : K.length ≤ 2) (h0 : J [] W) :
    CallsIn Fence.wide n Tryd.prog 46 #[.func (.yield l) #[] #[], .pointer (some ⟨Bk, 0, none⟩), .pointer (some ⟨Bb, 0, none⟩)] W fun e W' => (∃ v, e = .returned v) ∧
      ((∃ ys : List (Fin K.length), ys.map Fin.val = List.range K.length ∧ J ys W') ∨ (∃ pre : List (Fin K.length), (∃ k, k ≤ K.length ∧ pre.map Fin.val = List.range k) ∧ Jx pre W')) := by
  refine callsIn_of_wp Tryd.func46 rfl trivial ?_ rfl
  simp only [Tryd.ntmps46, List.size_toArray, List.length_cons, List.length_nil, Nat.reduceAdd, Nat.reduceSub, Array.replicate_succ, Array.replicate_zero, List.push_toArray, List.append_toArray, List.nil_append, List.cons_append]
  have HKK := Lib.hid hK.kind
  have HY := Lib.hid hY
  have HP := Lib.hid hP
  have HK := Lib.hid hK
  have HCB := Lib.hid cb
  have HCK := Lib.hid ck
  have HLow := Lib.hid hlow
  have k0 := ck.at 0 (v := .slice (some ⟨b, 0, none⟩) K.length cap) rfl
  have HJ0 := Lib.hid h0
  clear hP hK hY h0 cb ck hlow
  gi_wp2_with fail
  gi_loopw [8] (fun i wr => ∃ (j : Nat) (pre : List (Fin K.length)), j ≤ K.length ∧ i = .int .i64 (j : Int) ∧ pre.map Fin.val = List.range j ∧ J pre wr ∧ KpC n₀ W wr) (fun i _ => K.length - (intOf i).toNat)
  case atStart => exact ⟨0, [], by omega, rfl, rfl, HJ0.out, KpC.refl _⟩
  case round =>
    obtain ⟨j, pre, hj, rfl, hpre, hJs, hkp⟩ := hrel
    have HPR := Lib.hid hpre; have HKP := Lib.hid hkp; have HJS := Lib.hid hJs
    clear hpre hkp hJs
    by_cases hlt : j < K.length
    · have hjl : (j : Int) < (K.length : Int) := by omega
      have hplen : pre.length < K.length := by
        have := congrArg List.length HPR.out
        simp at this; omega
      have HP1 := Lib.hid (HP.out.keep HKP.out.below.size (fun k hk => HKP.out.below.block k (HLow.out k hk)))
      have HK1 : Hid (KindsAt wr b K) := ⟨by obtain ⟨xs, t, e, f⟩ := HK.out.blk; exact ⟨xs, t, (HKP.out.below.block b hbn).trans e, f⟩, HKK.out⟩
      have HCB1 := Lib.hid (HCB.out.keep (HKP.out.blk Bb _ HCB.out.blk rfl))
      obtain ⟨k, hk⟩ : ∃ k, K[j]? = some k := ⟨_, List.getElem?_eq_getElem hlt⟩
      have ckd := HK1.out.at hk
      have cbb := HCB1.out.at 0 (v := .pointer (some ⟨p, 0, none⟩)) rfl
      have hk12 : k = 1 ∨ k = 2 := HKK.out k (List.mem_of_getElem? hk)
      have hkv : K[(⟨j, hlt⟩ : Fin K.length)] = k := by
        rw [List.getElem?_eq_getElem hlt] at hk; exact Option.some.inj hk
      obtain ⟨fn, tmps, assign, body, hy, hR⟩ := HY.out pre ⟨j, hlt⟩ wr HJS.out hplen
      have HRn := Lib.hid hR
      unfold cntV at hy
      rw [hkv] at hy
      clear hR hkv hk
      have cv : wr.cell? ⟨p, k, none⟩ = some (.int .i64 ((endN r v k : Nat) : Int)) := by
        rcases hk12 with rfl | rfl
        · exact HP1.out.box.at 1 rfl
        · exact HP1.out.box.at 2 rfl
      have E : ∀ w, Calls Tryd.prog 33 #[.pointer (some ⟨p, 0, none⟩), .int .i64 (k : Int)] w fun e w' => e = .returned (.pointer (some ⟨p, k, none⟩)) ∧ w' = w := fun w => by
        rcases hk12 with rfl | rfl
        · exact end_any p 1 w
        · exact end_any p 2 w
      have HE := Lib.hid E
      generalize endN r v k = z at *
      clear E hk12
      gi_wp2_with (refine ⟨trivial, ?_⟩; gi_at_call 33; refine (callsIn_wide.2 (HE.out _)).mono ?_; rintro e w' ⟨rfl, rfl⟩)
      refine HRn.out.mono ?_
      rintro e W3 (⟨rfl, hJ3, hk3⟩ | ⟨rfl, hJx3⟩)
      · have HK3 := Lib.hid hk3
        clear hk3
        gi_wp2
        go_roundw
        case rel => exact ⟨j + 1, pre ++ [⟨j, hlt⟩], by omega, by go_num, by rw [List.map_append, HPR.out, List.range_succ]; rfl, hJ3, HKP.out.trans HK3.out⟩
        case measure => simp [intOf]; omega
      · gi_wp2
        refine bodyPost_ret (results_none rfl _ _ _) rfl ?_
        exact ⟨⟨_, rfl⟩, .inr ⟨_, ⟨j + 1, by omega, by rw [List.map_append, HPR.out, List.range_succ]; rfl⟩, hJx3⟩⟩
    · obtain rfl : j = K.length := by omega
      gi_wp2
      go_end0
      exact ⟨⟨_, rfl⟩, .inl ⟨pre, HPR.out, HJS.out⟩⟩

theorem counts_stops (n : Nat) (hn : 1 ≤ n) (Bb Bk cap n₀ : Nat) (w : World) (hP : PM g A w p q L r v) (hlow : ∀ k, (k = p ∨ k = q) ∨ k < g → k < n₀) (hK : KindsAt w b K) (hbn : b < n₀) (hlen : K.length ≤ 2)
    (cb : BoxA w Bb 79 #[.pointer (some ⟨p, 0, none⟩)]) (ck : BoxA w Bk 73 #[.slice (some ⟨b, 0, none⟩) K.length cap]) :
    SeqStopsK Fence.wide n Tryd.prog 46 #[.pointer (some ⟨Bk, 0, none⟩), .pointer (some ⟨Bb, 0, none⟩)] (cntV r v K) (KpC n₀) (fun ys => ys.map Fin.val = List.range K.length) (fun pre => ∃ k, k ≤ K.length ∧ pre.map Fin.val = List.range k) K.length w := fun l J Jx W hb _ _ hY h0 =>
  counts1_in n hn l Bb Bk cap n₀ J Jx W hY (hP.below' hb) hlow (hK.below hb) hbn (cb.below' hb) (ck.below' hb) hlen h0
end
end Go.Proofs.YtpfldelmbigmbaaDoor
