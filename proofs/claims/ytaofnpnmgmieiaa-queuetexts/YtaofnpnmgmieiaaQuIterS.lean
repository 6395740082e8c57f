/- Package queue, of string: the iterator inOrder and its closure, walked. -/
import Derived.Test.YtaofnpnmgmieiaaQuPartsS
import Derived.Test.YtaofnpnmgmieiaaQuKeep
namespace Go.Proofs.Ytaofnpnmgmieiaa
open Go.RowKit Go.Shelf

attribute [local go_sem] Oper.semAt_some

section
variable {w : World} {q f n B : Nat} {L : List ByteArray}

set_option maxHeartbeats 400000 in
theorem inOrderS (n : Nat) (a : Option Addr) (l c : Nat) (w : World) :
    CallsIn Fence.wide n Try.prog 37 #[.slice a l c] w fun e w' => e = .returned (.func (.func 41) #[] #[.pointer (some ⟨w.heap.size, 0, none⟩)]) ∧ w' = w.alloc (.cells #[.slice a l c] 69) := by
  refine callsIn_of_wp Try.func37 rfl trivial ?_ rfl
  simp only [Try.ntmps37, List.size_toArray, List.length_cons, List.length_nil, Nat.reduceAdd, Nat.reduceSub, Array.replicate_succ, Array.replicate_zero, List.push_toArray, List.append_toArray, List.nil_append, List.cons_append]
  gi_wp2
  go_ret
  exact ⟨rfl, rfl⟩

/-- the parts of a queue lie in the block B. -/
structure PartsAtS (w : World) (q B f : Nat) (L : List ByteArray) : Prop where
  qu : QAt encS w q 64 f L
  bx : ∃ o, (0 < len1 f L.length → o = f) ∧ BoxA w B 42 #[.slice (some ⟨q, o, none⟩) (len1 f L.length) (len1 f L.length), .slice (some ⟨q, 0, none⟩) (len2 f L.length) (len2 f L.length)]
theorem PartsAtS.kept {w' : World} (h : PartsAtS w q B f L) (k : KpC n w w') : PartsAtS w' q B f L := by
  obtain ⟨xs, hb, _⟩ := h.qu.blk
  obtain ⟨o, ho, bx⟩ := h.bx
  exact ⟨h.qu.keep (k.blk q _ hb rfl), o, ho, bx.keep (k.blk B _ bx.blk rfl)⟩
theorem PartsAtS.below {w' : World} (h : PartsAtS w q B f L) (k : Below w.heap.size w w') : PartsAtS w' q B f L := by
  obtain ⟨o, ho, bx⟩ := h.bx
  exact ⟨h.qu.below' k, o, ho, bx.below' k⟩
theorem PartsAtS.part (h : PartsAtS w q B f L) {p : Nat} (hp : p < 2) : ∃ o m, w.cell? ⟨B, p, none⟩ = some (.slice (some ⟨q, o, none⟩) m m) ∧ stQ f L.length p + m = stQ f L.length (p + 1) ∧ m ≤ 64 ∧ ∀ j x, j < m → L[stQ f L.length p + j]? = some x → w.cell? ⟨q, o + j, none⟩ = some (.string x) := by
  obtain ⟨o, ho, bx⟩ := h.bx
  have hf := h.qu.hf; have hl := h.qu.hl
  match p, hp with
  | 0, _ =>
    have s0 : stQ f L.length 0 = 0 := rfl
    have s1 : stQ f L.length (0 + 1) = min (f + L.length) 64 - f := rfl
    refine ⟨o, len1 f L.length, bx.at 0 rfl, by rw [s0, s1]; unfold len1; omega, by unfold len1; omega, fun j x hj hx => ?_⟩
    have := h.qu.at hx
    rw [s0, show (f + (0 + j)) % 64 = f + j by unfold len1 at hj; omega] at this
    rw [ho (by omega)]
    exact this
  | 1, _ =>
    have s1 : stQ f L.length 1 = min (f + L.length) 64 - f := rfl
    have s2 : stQ f L.length (1 + 1) = L.length := rfl
    refine ⟨0, len2 f L.length, bx.at 1 rfl, by rw [s1, s2]; unfold len2; omega, by unfold len2; omega, fun j x hj hx => ?_⟩
    have := h.qu.at hx
    rw [s1, show (f + (min (f + L.length) 64 - f + j)) % 64 = 0 + j by unfold len2 at hj; omega] at this
    exact this

/-- what is handed on for a thing: its index, itself. -/
def eltS (L : List ByteArray) (x : Fin L.length) : Array Value := #[.int .i64 (x.1 : Int), (.string L[x.1])]

set_option maxRecDepth 100000 in
set_option maxHeartbeats 2000000 in
theorem inOrder1S (m : Nat) (hm : 1 ≤ m) (l Bt n₀ : Nat) (J Jx : List (Fin L.length) → World → Prop)
    (hY : ∀ pre (x : Fin L.length) W, J pre W → pre.length < L.length → YieldAt Fence.wide (m - 1) Try.prog l (eltS L x) W fun e W' =>
      (e = .returned (.bool true) ∧ J (pre ++ [x]) W' ∧ KpC n₀ W W') ∨ (e = .returned (.bool false) ∧ Jx (pre ++ [x]) W'))
    (W : World) (hW : PartsAtS W q B f L) (hB : BoxA W Bt 69 #[.slice (some ⟨B, 0, none⟩) 2 2]) (h0 : J [] W) :
    CallsIn Fence.wide m Try.prog 41 #[.func (.yield l) #[] #[], .pointer (some ⟨Bt, 0, none⟩)] W fun e W' => (∃ v, e = .returned v) ∧
      ((∃ ys : List (Fin L.length), ys.map Fin.val = List.range L.length ∧ J ys W') ∨ (∃ pre : List (Fin L.length), (∃ k, k ≤ L.length ∧ pre.map Fin.val = List.range k) ∧ Jx pre W')) := by
  refine callsIn_of_wp Try.func41 rfl trivial ?_ rfl
  simp only [Try.ntmps41, List.size_toArray, List.length_cons, List.length_nil, Nat.reduceAdd, Nat.reduceSub, Array.replicate_succ, Array.replicate_zero, List.push_toArray, List.append_toArray, List.nil_append, List.cons_append]
  have HW := Lib.hid hW
  have hl := hW.qu.hl
  have cb := hB.at 0 (v := .slice (some ⟨B, 0, none⟩) 2 2) rfl
  have hst2 : stQ f L.length 2 = L.length := rfl
  clear hW
  gi_wp2
  gi_loopw [3, 10] (fun i p wr => ∃ (k : Nat) (pre : List (Fin L.length)), k ≤ 2 ∧ i = .int .i64 (stQ f L.length k : Int) ∧ p = .int .i64 (k : Int) ∧ pre.map Fin.val = List.range (stQ f L.length k) ∧ J pre wr ∧ KpC n₀ W wr)
    (fun _ p _ => 2 - (intOf p).toNat)
  case atStart => exact ⟨0, [], by omega, rfl, rfl, rfl, h0, KpC.refl _⟩
  case round =>
    obtain ⟨k, pre, hk, rfl, rfl, hpre, hJs, hnx⟩ := hrel
    have HP := Lib.hid hpre; clear hpre
    have HK := Lib.hid hnx; clear hnx
    by_cases hlt : k < 2
    · obtain ⟨o, m1, hc, hs, hm64, hcs⟩ := (HW.out.kept HK.out).part hlt
      have HC := Lib.hid hcs; clear hcs
      have HS := Lib.hid hs; clear hs
      obtain ⟨s, hsq⟩ : ∃ s, stQ f L.length k = s := ⟨_, rfl⟩
      have HSQ := Lib.hid hsq
      rw [hsq] at HP HC HS ⊢
      clear hsq
      gi_wp2
      rw [show decide ((k : Int) < 2) = true by simp; omega]
      gi_loopw [3, 16] (fun i j wr => ∃ (j0 : Nat) (pre : List (Fin L.length)), j0 ≤ m1 ∧ i = .int .i64 ((s : Int) + (j0 : Int)) ∧ j = .int .i64 (j0 : Int) ∧ pre.map Fin.val = List.range (s + j0) ∧ J pre wr ∧ KpC n₀ W wr)
        (fun _ j _ => m1 - (intOf j).toNat)
      case atStart => exact ⟨0, pre, by omega, by simp, rfl, HP.out, hJs, HK.out⟩
      case round =>
        obtain ⟨j0, pre2, hj, rfl, rfl, hpre2, hJ2, hnx2⟩ := hrel
        have HP2 := Lib.hid hpre2; clear hpre2
        have HK2 := Lib.hid hnx2; clear hnx2
        by_cases hlt2 : j0 < m1
        · have hlL : s + j0 < L.length := by
            have h1 := HS.out; have h2 : stQ f L.length (k + 1) ≤ L.length := stQ_le hlt
            omega
          obtain ⟨fn, tmps, assign, body, hy, hR⟩ := hY pre2 ⟨s + j0, hlL⟩ wr hJ2 (by have := congrArg List.length HP2.out; simp at this; omega)
          have hce : wr.cell? ⟨q, o + j0, none⟩ = some (.string L[s + j0]) := by
            rw [← HC.out j0 _ hlt2 (List.getElem?_eq_getElem hlL)]
            exact World.cell?_of_block (w := _) ((HK2.out.blk q _ (HW.out.qu.blk.choose_spec.1) rfl).trans (HK.out.blk q _ (HW.out.qu.blk.choose_spec.1) rfl).symm)
          unfold eltS at hy
          dsimp only at hy
          simp only [Int.natCast_add] at hy
          gi_wp2
          refine hR.mono ?_
          rintro e W3 (⟨rfl, hJ3, hk3⟩ | ⟨rfl, hJx3⟩)
          · gi_wp2
            go_roundw
            case rel => exact ⟨j0 + 1, pre2 ++ [⟨s + j0, hlL⟩], by omega, by go_num, by go_num, by rw [List.map_append, HP2.out, ← Nat.add_assoc, List.range_succ]; rfl, hJ3, HK2.out.trans hk3⟩
            case measure => simp [intOf]; omega
          · gi_wp2
            refine bodyPost_ret (results_none rfl _ _ _) rfl ?_
            exact ⟨⟨_, rfl⟩, .inr ⟨_, ⟨s + j0 + 1, by omega, by rw [List.map_append, HP2.out, List.range_succ]; rfl⟩, hJx3⟩⟩
        · obtain rfl : j0 = m1 := by omega
          gi_wp2
          exact ⟨⟨k + 1, pre2, by omega, by rw [← HS.out]; simp, by go_num, by rw [← HS.out]; exact HP2.out, hJ2, HK2.out⟩, by simp [intOf]; omega⟩
    · obtain rfl : k = 2 := by omega
      rw [hst2] at *
      gi_wp2
      go_end0
      exact ⟨⟨_, rfl⟩, .inl ⟨pre, HP.out, hJs⟩⟩

theorem inOrder_stopsS (m : Nat) (hm : 1 ≤ m) (Bt n₀ : Nat) (w : World) (hW : PartsAtS w q B f L) (hB : BoxA w Bt 69 #[.slice (some ⟨B, 0, none⟩) 2 2]) :
    SeqStopsK Fence.wide m Try.prog 41 #[.pointer (some ⟨Bt, 0, none⟩)] (eltS L) (KpC n₀)
      (fun ys => ys.map Fin.val = List.range L.length) (fun pre => ∃ k, k ≤ L.length ∧ pre.map Fin.val = List.range k) L.length w := fun l J Jx W hb _ _ hY h0 =>
  inOrder1S m hm l Bt n₀ J Jx hY W (hW.below hb) (hB.below' hb) h0
end
end Go.Proofs.Ytaofnpnmgmieiaa
