/- Package slots, of string: numbered, and its closure, walked, for every loop body that keeps the slots and the closure's two boxes. -/
import Derived.Test.YteannfenkmejjaaSlMemS
import Derived.Test.YteannfenkmejjaaSlPat
import Derived.Test.YteannfenkmejjaaIter
import Derived.BigRegionIn
namespace Go.Proofs.Yteannfenkmejjaa
open Go.RowKit Go.Shelf

attribute [local go_sem] Oper.semAt_some

set_option maxHeartbeats 400000 in
theorem numbered_inS (n : Nat) (a v : Value) (ha : ∃ x, a = .pointer x) (hv : ∃ x l c, v = .slice x l c) (w : World) :
    CallsIn Fence.wide n Try.prog 43 #[a, v] w fun e w' => e = .returned (.func (.func 48) #[] #[.pointer (some ⟨w.heap.size, 0, none⟩), .pointer (some ⟨w.heap.size + 1, 0, none⟩)]) ∧ w' = (w.alloc (.cells #[a] 44)).alloc (.cells #[v] 34) := by
  obtain ⟨x, rfl⟩ := ha
  obtain ⟨y, l, c, rfl⟩ := hv
  refine callsIn_of_wp Try.func43 rfl trivial ?_ rfl
  simp only [Try.ntmps43, List.size_toArray, List.length_cons, List.length_nil, Nat.reduceAdd, Nat.reduceSub, Array.replicate_succ, Array.replicate_zero, List.push_toArray, List.append_toArray, List.nil_append, List.cons_append]
  gi_wp2
  go_ret
  exact ⟨rfl, rfl⟩

/-- what is handed on for a slot: its number, its address. -/
def numVS (p : Nat) (L : SlT ByteArray) (x : Fin 8) : Array Value := #[.int .i64 (idS x.1 (seqS L x.1)), .pointer (some ⟨p, x.1 * 3, none⟩)]
/-- the numbers that are asked for (none: all), and which slots have one of them. -/
def SelS (W : World) (v : Value) (x : Nat) (L : SlT ByteArray) (sel : Nat → Bool) : Prop :=
  (v = .slice none 0 0 ∧ ∀ i, sel i = true) ∨ ∃ id : Int, v = .slice (some ⟨x, 0, none⟩) 1 1 ∧ W.cell? ⟨x, 0, none⟩ = some (.int .i64 id) ∧ ∀ i, sel i = (idS i (seqS L i) == id)

set_option maxRecDepth 100000 in
set_option maxHeartbeats 2000000 in
theorem numbered1_inS (n : Nat) (hn : 1 ≤ n) (l p Ba Bb x : Nat) (L : SlT ByteArray) (v : Value) (sel : Nat → Bool) (J Jx : List (Fin 8) → World → Prop) (W : World) (hJ : AbidesFrom W.heap.size J)
    (hY : ∀ pre (y : Fin 8) W, J pre W → pre.length < 8 → YieldAt Fence.wide (n - 1) Try.prog l (numVS p L y) W fun e W' =>
      (e = .returned (.bool true) ∧ J (pre ++ [y]) W' ∧ Kp4 p Ba Bb x W W') ∨ (e = .returned (.bool false) ∧ Jx (pre ++ [y]) W'))
    (hv : SelS W v x L sel) (hx : x < W.heap.size) (hW : MemS W p L) (ba : Boxed W Ba 44 (.pointer (some ⟨p, 0, none⟩))) (bb : Boxed W Bb 34 v) (h0 : J [] W) :
    CallsIn Fence.wide n Try.prog 48 #[.func (.yield l) #[] #[], .pointer (some ⟨Ba, 0, none⟩), .pointer (some ⟨Bb, 0, none⟩)] W fun e W' => (∃ v, e = .returned v) ∧
      ((∃ ys : List (Fin 8), ys.map Fin.val = (List.range 8).filter sel ∧ J ys W') ∨ (∃ pre : List (Fin 8), (∃ k, k ≤ 8 ∧ pre.map Fin.val = (List.range k).filter sel) ∧ Jx pre W')) := by
  refine callsIn_of_wp Try.func48 rfl trivial ?_ rfl
  simp only [Try.ntmps48, List.size_toArray, List.length_cons, List.length_nil, Nat.reduceAdd, Nat.reduceSub, Array.replicate_succ, Array.replicate_zero, List.push_toArray, List.append_toArray, List.nil_append, List.cons_append]
  have c0 := ba.cell
  have HY := Lib.hid hY; have HB := Lib.hid bb; have HA := Lib.hid ba; have HW := Lib.hid hW; have HV := Lib.hid hv; have H0 := Lib.hid h0; have HJ := Lib.hid hJ
  have hpl := hW.lt; have hal := ba.lt; have hbl := bb.lt
  clear hY bb hW ba hv h0 hJ
  gi_wp2_with fail
  gi_loopw [9] (fun i wr => ∃ (j : Nat) (pre : List (Fin 8)), j ≤ 8 ∧ i = .int .i64 (j : Int) ∧ pre.map Fin.val = (List.range j).filter sel ∧ J pre wr ∧ Kp4 p Ba Bb x W wr) (fun i _ => 8 - (intOf i).toNat)
  case atStart => exact ⟨0, [], by omega, rfl, rfl, H0.out, Kp4.refl _ _ _ _ _⟩
  case round =>
    obtain ⟨j, pre, hj, rfl, hpre, hJs, hK⟩ := hrel
    have HP := Lib.hid hpre; have HJs := Lib.hid hJs; have HK := Lib.hid hK
    clear hpre hJs hK
    by_cases hlt : j < 8
    · have hlen : pre.length < 8 := by
        have := congrArg List.length HP.out
        have h2 := List.length_filter_le sel (List.range j)
        simp at this h2; omega
      have c1 : wr.cell? ⟨Ba, 0, none⟩ = some (.pointer (some ⟨p, 0, none⟩)) := (World.cell?_of_block (a := ⟨Ba, 0, none⟩) HK.out.a).trans c0
      have c2 : wr.cell? ⟨Bb, 0, none⟩ = some v := (World.cell?_of_block (a := ⟨Bb, 0, none⟩) HK.out.b).trans HB.out.cell
      have c3 : wr.cell? ⟨p, j * 3, none⟩ = some (.int .i64 (seqS L j : Int)) := (HW.out.keep HK.out.p).c0 hlt
      have hq : seqS L j < 4096 := HW.out.ok.seq j
      have hN : Hid (∀ w, Calls Try.prog 46 #[.int .i64 (seqS L j : Int), .int .i64 (j : Int)] w fun e w' => e = .returned (.int .i64 (idS j (seqS L j))) ∧ w' = w) := number_any _ _ hq hlt
      have hS : Hid (pre.map Fin.val ++ (if sel j then [j] else []) = (List.range (j + 1)).filter sel) := by
        unfold Hid
        rw [HP.out, List.range_succ, List.filter_append]
        cases hsj : sel j <;> simp [hsj]
      have hl1 := Kp4.lt HK.out.p hpl; have hl2 := Kp4.lt HK.out.a hal; have hl3 := Kp4.lt HK.out.b hbl; have hl4 := Kp4.lt HK.out.x hx
      rcases HV.out with ⟨rfl, hs⟩ | ⟨id, rfl, cx, hs⟩
      · have hsj := hs j
        obtain ⟨fn, tmps, assign, body, hy, hR⟩ := HY.out pre ⟨j, hlt⟩ wr HJs.out hlen
        unfold numVS at hy
        dsimp only at hy
        rw [hsj] at hS
        clear hlen hs hsj hq
        generalize idS j (seqS L j) = a at *
        generalize seqS L j = q at *
        gi_wp2_with (refine ⟨trivial, ?_⟩; gi_at_call 46; refine (callsIn_wide.2 (hN.out _)).mono ?_; rintro e w' ⟨rfl, rfl⟩)
        refine ⟨trivial, ?_⟩
        gi_wp2
        refine hR.mono ?_
        rintro e W3 (⟨rfl, hJ3, hK3⟩ | ⟨rfl, hJx3⟩)
        · gi_wp2
          go_roundw
          case rel => exact ⟨j + 1, pre ++ [⟨j, hlt⟩], by omega, by go_num, by rw [List.map_append, ← hS.out]; rfl, hJ3, HK.out.trans hK3⟩
          case measure => simp [intOf]; omega
        · gi_wp2
          refine bodyPost_ret (results_none rfl _ _ _) rfl ?_
          exact ⟨⟨_, rfl⟩, .inr ⟨_, ⟨j + 1, by omega, by rw [List.map_append, ← hS.out]; rfl⟩, hJx3⟩⟩
      · have hsj := hs j
        have hC : Hid (Calls Try.prog 47 #[.slice (some ⟨x, 0, none⟩) 1 1, .int .i64 (idS j (seqS L j))] wr fun e w' => e = .returned (.bool (idS j (seqS L j) == id)) ∧ Below wr.heap.size wr w') :=
          contains11 x id _ wr ((World.cell?_of_block (a := ⟨x, 0, none⟩) HK.out.x).trans cx)
        cases hb : (idS j (seqS L j) == id) with
        | true =>
          rw [hb] at hsj hC
          rw [hsj] at hS
          have hY2 := Lib.hid (fun W hw => HY.out pre ⟨j, hlt⟩ W hw hlen)
          unfold numVS at hY2
          clear hlen hs hsj hq hb
          generalize idS j (seqS L j) = a at *
          generalize seqS L j = q at *
          gi_wp2_with (refine ⟨trivial, ?_⟩; gi_at_call 46; refine (callsIn_wide.2 (hN.out _)).mono ?_; rintro e w' ⟨rfl, rfl⟩)
          refine ⟨trivial, ?_⟩
          gi_at_call 47
          refine (callsIn_wide.2 hC.out).mono ?_
          rintro e w1 ⟨rfl, hB1⟩
          have HB1 := Lib.hid hB1
          obtain ⟨fn, tmps, assign, body, hy, hR⟩ := hY2.out w1 (HJ.out _ _ _ none HJs.out (grown_of_below7 hB1 none) (fun r e => by cases e))
          try dsimp only at hy
          clear hB1
          gi_wp2
          refine hR.mono ?_
          rintro e W3 (⟨rfl, hJ3, hK3⟩ | ⟨rfl, hJx3⟩)
          · gi_wp2
            go_roundw
            case rel => exact ⟨j + 1, pre ++ [⟨j, hlt⟩], by omega, by go_num, by rw [List.map_append, ← hS.out]; rfl, hJ3, (HK.out.trans (Kp4.of_below HB1.out hl1 hl2 hl3 hl4)).trans hK3⟩
            case measure => simp [intOf]; omega
          · gi_wp2
            refine bodyPost_ret (results_none rfl _ _ _) rfl ?_
            exact ⟨⟨_, rfl⟩, .inr ⟨_, ⟨j + 1, by omega, by rw [List.map_append, ← hS.out]; rfl⟩, hJx3⟩⟩
        | false =>
          rw [hb] at hsj hC
          rw [hsj] at hS
          clear hlen hs hsj hq hb
          generalize idS j (seqS L j) = a at *
          generalize seqS L j = q at *
          gi_wp2_with (refine ⟨trivial, ?_⟩; gi_at_call 46; refine (callsIn_wide.2 (hN.out _)).mono ?_; rintro e w' ⟨rfl, rfl⟩)
          refine ⟨trivial, ?_⟩
          gi_at_call 47
          refine (callsIn_wide.2 hC.out).mono ?_
          rintro e w1 ⟨rfl, hB1⟩
          have HB1 := Lib.hid hB1
          clear hB1
          gi_wp2
          exact ⟨⟨j + 1, pre, by omega, by go_num, by rw [← hS.out]; simp, HJ.out _ _ _ none HJs.out (grown_of_below7 HB1.out none) (fun r e => by cases e), HK.out.trans (Kp4.of_below HB1.out hl1 hl2 hl3 hl4)⟩, by simp [intOf]; omega⟩
    · obtain rfl : j = 8 := by omega
      gi_wp2
      go_end0
      exact ⟨⟨_, rfl⟩, .inl ⟨pre, HP.out, HJs.out⟩⟩
end Go.Proofs.Yteannfenkmejjaa
