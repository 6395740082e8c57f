/- QueueTexts: for every list of acts the law answers true: a queue of texts does with them what one of numbers does with their places in a list of texts. No conditions. -/
import Derived.Test.YtaofnpnmgmieiaaQuPure2
import Derived.Test.YtaofnpnmgmieiaaQuFindS
import Derived.Test.YtaofnpnmgmieiaaQuActs
import Derived.Deep.RegionHeld3
namespace Go.Proofs.Ytaofnpnmgmieiaa
open Go.RowKit Go.ChangeShapes Go.WideShapes Go.ChangeAt

/-- the texts. -/
def nmB : Nat → ByteArray
  | 0 => ⟨#[]⟩
  | 1 => ⟨#[97]⟩
  | 2 => ⟨#[98]⟩
  | 3 => ⟨#[97, 98]⟩
  | _ => ⟨#[97, 32, 108, 111, 110, 103, 101, 114, 32, 111, 110, 101]⟩
theorem nmB_inj5 : ∀ i j : Fin 5, nmB i.1 = nmB j.1 → i = j := by decide
theorem nmB_inj {i j : Nat} (hi : i < 5) (hj : j < 5) (h : nmB i = nmB j) : i = j := congrArg Fin.val (nmB_inj5 ⟨i, hi⟩ ⟨j, hj⟩ h)
def iof (n : Nat) : Int := n
section
variable {α β : Type} [BEq α] [LawfulBEq α] [BEq β] [LawfulBEq β]
theorem map_contains (f : α → β) : ∀ (L : List α) (n : α), (∀ x ∈ L, f x = f n → x = n) → (L.map f).contains (f n) = L.contains n
  | [], _, _ => rfl
  | x :: L, n, h => by
    have ih := map_contains f L n (fun y hy => h y (by simp [hy]))
    simp only [List.map_cons, List.contains_cons, ih]
    congr 1
    rw [Bool.eq_iff_iff]
    simp only [beq_iff_eq]
    exact ⟨fun e => (h x (by simp) e.symm).symm, fun e => by rw [e]⟩
theorem map_erase (f : α → β) : ∀ (L : List α) (n : α), (∀ x ∈ L, f x = f n → x = n) → (L.map f).erase (f n) = (L.erase n).map f
  | [], _, _ => rfl
  | x :: L, n, h => by
    have ih := map_erase f L n (fun y hy => h y (by simp [hy]))
    simp only [List.map_cons, List.erase_cons]
    by_cases e : x = n
    · subst e; simp
    · have e2 : (x == n) = false := by simpa using e
      have e3 : (f x == f n) = false := by simp; exact fun c => e (h x (by simp) c)
      simp only [e2, e3, Bool.false_eq_true, if_false, List.map_cons, ih]
end
theorem mod5 (x : Int) : ∃ n : Nat, n < 5 ∧ wrap64 ((IntKind.u64.wrap x).tmod 5) = (n : Int) := by
  have h0 := wrap_u64_nonneg x
  generalize IntKind.u64.wrap x = y at *
  have h1 : 0 ≤ y.tmod 5 := Int.tmod_nonneg _ h0
  have h3 : y.tmod 5 < 5 := Int.tmod_lt_of_pos _ (by omega)
  exact ⟨(y.tmod 5).toNat, by omega, by unfold wrap64; omega⟩

/-- the list of the texts lies in the block nb. -/
abbrev namesV : Array Value := #[.string ⟨#[]⟩, .string ⟨#[97]⟩, .string ⟨#[98]⟩, .string ⟨#[97, 98]⟩, .string ⟨#[97, 32, 108, 111, 110, 103, 101, 114, 32, 111, 110, 101]⟩]
theorem name_at {w : World} {nb n : Nat} (h : BoxA w nb 9 namesV) (hn : n < 5) : w.cell? ⟨nb, n, none⟩ = some (.string (nmB n)) := by
  match n, hn with
  | 0, _ => exact h.at 0 rfl
  | 1, _ => exact h.at 1 rfl
  | 2, _ => exact h.at 2 rfl
  | 3, _ => exact h.at 3 rfl
  | 4, _ => exact h.at 4 rfl

theorem push_two (L : List Nat) (n : Nat) : pushE (L.map iof) = pushE L ∧ pushE (L.map nmB) = pushE L ∧ pushL (L.map iof) (n : Int) = (pushL L n).map iof ∧ pushL (L.map nmB) (nmB n) = (pushL L n).map nmB := by
  unfold pushE pushL
  simp only [List.length_map]
  by_cases h : L.length < 64
  · simp only [if_pos h, List.map_append, List.map_cons, List.map_nil]; exact ⟨trivial, trivial, rfl, trivial⟩
  · simp only [if_neg h]; exact ⟨trivial, trivial, trivial, trivial⟩
theorem push_lt5 {L : List Nat} {n : Nat} (h : ∀ x ∈ L, x < 5) (hn : n < 5) : ∀ x ∈ pushL L n, x < 5 := by
  unfold pushL
  split
  · intro x hx; rcases List.mem_append.1 hx with c | c; exact h x c; simp at c; omega
  · exact h
theorem drop_two {L : List Nat} {n : Nat} (h : ∀ x ∈ L, x < 5) (hn : n < 5) : dropE (L.map iof) (n : Int) = dropE L n ∧ dropE (L.map nmB) (nmB n) = dropE L n ∧ (L.map iof).erase (n : Int) = (L.erase n).map iof ∧ (L.map nmB).erase (nmB n) = (L.erase n).map nmB := by
  have i1 : ∀ x ∈ L, iof x = iof n → x = n := fun x _ e => by unfold iof at e; omega
  have i2 : ∀ x ∈ L, nmB x = nmB n → x = n := fun x hx e => nmB_inj (h x hx) hn e
  unfold dropE
  exact ⟨by rw [show (n : Int) = iof n from rfl, map_contains iof L n i1], by rw [map_contains nmB L n i2], map_erase iof L n i1, map_erase nmB L n i2⟩

set_option maxRecDepth 100000 in
set_option maxHeartbeats 4000000 in
theorem texts_walk (a : Option Addr) (len cap : Nat) (w : World) (hA : ActsAt w a len) :
    Calls Try.prog 4 #[.slice a len cap] w fun e w' => e = .returned (.bool true) ∧ Below w.heap.size w w' := by
  have S := shown7 w
  obtain ⟨hm, hcell⟩ := hA
  have HX := Lib.hid hcell; clear hcell
  obtain ⟨N, hN⟩ : ∃ N : Nat, N = min len 200 := ⟨_, rfl⟩
  have hN1 : N ≤ 200 := by omega
  have hN2 : N ≤ len := by omega
  have HN3 : Hid (∀ j : Nat, ¬ j < N → ¬ (j : Int) < (len : Int) ∨ ((j : Int) < (len : Int) ∧ ¬ (j : Int) < 200)) := fun j hj => by omega
  unfold maxLen at hm
  clear hN
  go_enter Try.func4, Try.ntmps4
  go_wp2_with (go_at_call 9; refine S.mono ?_; clear S; rintro e w0 ⟨rfl, hB0⟩; have B0 := Lib.hid hB0; have hq0 := hB0.size; have NW := newI (w0.alloc (.cells namesV 9)); clear hB0)
  go_wp2_with (go_at_call 10; refine NW.mono ?_; clear NW; rintro e w1 ⟨rfl, h1, b1⟩; have Q1 := Lib.hid h1; have hs1 := h1.lt; have BN := Lib.hid ((BoxA.new w0 9 namesV).below' b1); have B1 := Lib.hid ((B0.out.alloc hq0 _).trans (b1.mono (by simp; omega))); have NS := newS w1; clear h1 b1)
  go_wp2_with (go_at_call 20; refine NS.mono ?_; clear NS; rintro e w2 ⟨rfl, h1, b1⟩; have S2 := Lib.hid h1; have B2 := Lib.hid (B1.out.trans (b1.mono B1.out.size)); have Q2 := Lib.hid (Q1.out.below' b1); have BN2 := Lib.hid (BN.out.below' b1); clear h1 b1)
  have hnq : (w0.alloc (.cells namesV 9)).heap.size = w0.heap.size + 1 := by simp
  rw [hnq] at Q2 hs1
  have n1 : w0.heap.size ≠ w0.heap.size + 1 := by omega
  have n2 : w0.heap.size ≠ w1.heap.size := by omega
  have n3 : w0.heap.size + 1 ≠ w1.heap.size := by omega
  have l1 : w.heap.size ≤ w0.heap.size + 1 := by omega
  have l2 : w.heap.size ≤ w1.heap.size := by omega
  generalize w0.heap.size + 1 = q at *
  generalize w0.heap.size = nb at *
  generalize w1.heap.size = t at *
  go_loopw [7] (fun i wr => ∃ j : Nat, j ≤ N ∧ i = .int .i64 (j : Int) ∧ ∃ L : List Nat, (∀ x ∈ L, x < 5) ∧ BoxA wr nb 9 namesV ∧ (∃ f, QAt encI wr q 53 f (L.map iof)) ∧ (∃ f, QAt encS wr t 64 f (L.map nmB)) ∧ Below w.heap.size w wr) (fun i _ => N - (intOf i).toNat)
  case atStart => exact ⟨0, by omega, rfl, [], by simp, BN2.out, ⟨0, Q2.out⟩, ⟨0, S2.out⟩, B2.out⟩
  case round =>
    obtain ⟨j, hj, rfl, L, hL, hN, ⟨f, hQ⟩, ⟨g, hS⟩, hB⟩ := hrel
    have HQ := Lib.hid hQ; have HS := Lib.hid hS; have HB := Lib.hid hB
    have HL := Lib.hid hL; have HN := Lib.hid hN
    clear hQ hB hS hL hN
    by_cases hlt : j < N
    · obtain ⟨b, o, rfl, hb, hc⟩ := HX.out (by omega)
      obtain ⟨d, x, hact⟩ := hc j (by omega)
      have c0 := (HB.out.cell (p := ⟨b, o + j * 2, none⟩) hb).trans hact.c0
      have c1 := (HB.out.cell (p := ⟨b, o + j * 2 + 1, none⟩) hb).trans hact.c1
      have k1 : (j : Int) < (len : Int) := by omega
      have k2 : (j : Int) < 200 := by omega
      obtain ⟨n, hn, hmod⟩ := mod5 x
      have s0 := name_at HN.out hn
      have k3 : (n : Int) < 5 := by omega
      clear hc hact
      rcases mod4 d with x0 | ⟨x0, x1⟩ | ⟨x0, x1, x2⟩ | ⟨x0, x1, x2, x3⟩
      · obtain ⟨e1, e2, e3, e4⟩ := push_two L n
        have PI : Hid (∀ W, QAt encI W q 53 f (L.map iof) → Calls Try.prog 11 #[.pointer (some ⟨q, 0, none⟩), .int .i64 (n : Int)] W fun e w' => e = .returned (.int .i64 (pushE L)) ∧ (∃ f', QAt encI w' q 53 f' ((pushL L n).map iof)) ∧ Tur q W w') := fun W hW => by
          have := pushI hW (n : Int)
          rw [e1, e3] at this
          exact this.mono (by rintro e w' ⟨h1, h2, h3⟩; exact ⟨h1, ⟨_, h2⟩, h3⟩)
        have PS : Hid (∀ W, QAt encS W t 64 g (L.map nmB) → Calls Try.prog 21 #[.pointer (some ⟨t, 0, none⟩), .string (nmB n)] W fun e w' => e = .returned (.int .i64 (pushE L)) ∧ (∃ f', QAt encS w' t 64 f' ((pushL L n).map nmB)) ∧ Tur t W w') := fun W hW => by
          have := pushS hW (nmB n)
          rw [e2, e4] at this
          exact this.mono (by rintro e w' ⟨h1, h2, h3⟩; exact ⟨h1, ⟨_, h2⟩, h3⟩)
        have HLT := Lib.hid (push_lt5 HL.out hn)
        clear e1 e2 e3 e4
        generalize pushL L n = L2 at *
        generalize pushE L = pe at *
        go_wp2
        go_region_held3 (fun w' => w'.cell? ⟨nb, n, none⟩ = some (.string (nmB n))) (first | exact s0 | exact s1 | exact s2) (first
          | (go_at_call 11; refine (PI.out _ (HQ.out.keep (by rfl))).mono ?_; rintro e w3 ⟨rfl, ⟨f2, h2⟩, t2⟩; have HN2 := Lib.hid (HN.out.keep (t2.block nb HN.out.lt n1)); have s1 := name_at HN2.out hn; have HQ2 := Lib.hid h2; have HS2 := Lib.hid ((HS.out.keep (by rfl)).tur t2 (Ne.symm n3)); have HB2 := Lib.hid (t2.below (below_drew7 HB.out) l1 HB.out.size); clear h2 t2)
          | (go_at_call 21; refine (PS.out _ HS2.out).mono ?_; rintro e w4 ⟨rfl, ⟨g2, h2⟩, t2⟩; have HN4 := Lib.hid (HN2.out.keep (t2.block nb HN2.out.lt n2)); have s2 := name_at HN4.out hn; have HS3 := Lib.hid h2; have HQ3 := Lib.hid (HQ2.out.tur t2 n3); have HB3 := Lib.hid (t2.below HB2.out l2 HB2.out.size); clear h2 t2))
        all_goals
          go_wp2_with (first
            | (go_at_call 19; refine (lenI HQ3.out).mono ?_; rintro e wa ⟨rfl, rfl⟩; rw [List.length_map])
            | (go_at_call 24; refine (lenS HS3.out).mono ?_; rintro e wb ⟨rfl, rfl⟩; rw [List.length_map]))
          exact ⟨⟨j + 1, by omega, by go_num, _, HLT.out, HN4.out, ⟨_, HQ3.out⟩, ⟨_, HS3.out⟩, HB3.out⟩, by simp [intOf]; omega⟩
      · obtain ⟨e1, e2, e3, e4⟩ := push_two L n
        have PI : Hid (∀ W, QAt encI W q 53 f (L.map iof) → Calls Try.prog 11 #[.pointer (some ⟨q, 0, none⟩), .int .i64 (n : Int)] W fun e w' => e = .returned (.int .i64 (pushE L)) ∧ (∃ f', QAt encI w' q 53 f' ((pushL L n).map iof)) ∧ Tur q W w') := fun W hW => by
          have := pushI hW (n : Int)
          rw [e1, e3] at this
          exact this.mono (by rintro e w' ⟨h1, h2, h3⟩; exact ⟨h1, ⟨_, h2⟩, h3⟩)
        have PS : Hid (∀ W, QAt encS W t 64 g (L.map nmB) → Calls Try.prog 21 #[.pointer (some ⟨t, 0, none⟩), .string (nmB n)] W fun e w' => e = .returned (.int .i64 (pushE L)) ∧ (∃ f', QAt encS w' t 64 f' ((pushL L n).map nmB)) ∧ Tur t W w') := fun W hW => by
          have := pushS hW (nmB n)
          rw [e2, e4] at this
          exact this.mono (by rintro e w' ⟨h1, h2, h3⟩; exact ⟨h1, ⟨_, h2⟩, h3⟩)
        have HLT := Lib.hid (push_lt5 HL.out hn)
        clear e1 e2 e3 e4
        generalize pushL L n = L2 at *
        generalize pushE L = pe at *
        go_wp2
        go_region_held3 (fun w' => w'.cell? ⟨nb, n, none⟩ = some (.string (nmB n))) (first | exact s0 | exact s1 | exact s2) (first
          | (go_at_call 11; refine (PI.out _ (HQ.out.keep (by rfl))).mono ?_; rintro e w3 ⟨rfl, ⟨f2, h2⟩, t2⟩; have HN2 := Lib.hid (HN.out.keep (t2.block nb HN.out.lt n1)); have s1 := name_at HN2.out hn; have HQ2 := Lib.hid h2; have HS2 := Lib.hid ((HS.out.keep (by rfl)).tur t2 (Ne.symm n3)); have HB2 := Lib.hid (t2.below (below_drew7 HB.out) l1 HB.out.size); clear h2 t2)
          | (go_at_call 21; refine (PS.out _ HS2.out).mono ?_; rintro e w4 ⟨rfl, ⟨g2, h2⟩, t2⟩; have HN4 := Lib.hid (HN2.out.keep (t2.block nb HN2.out.lt n2)); have s2 := name_at HN4.out hn; have HS3 := Lib.hid h2; have HQ3 := Lib.hid (HQ2.out.tur t2 n3); have HB3 := Lib.hid (t2.below HB2.out l2 HB2.out.size); clear h2 t2))
        all_goals
          go_wp2_with (first
            | (go_at_call 19; refine (lenI HQ3.out).mono ?_; rintro e wa ⟨rfl, rfl⟩; rw [List.length_map])
            | (go_at_call 24; refine (lenS HS3.out).mono ?_; rintro e wb ⟨rfl, rfl⟩; rw [List.length_map]))
          exact ⟨⟨j + 1, by omega, by go_num, _, HLT.out, HN4.out, ⟨_, HQ3.out⟩, ⟨_, HS3.out⟩, HB3.out⟩, by simp [intOf]; omega⟩
      · cases L with
        | nil =>
          have HQ3 := HQ; have HS3 := HS
          go_wp2_with (first
            | (go_at_call 13; refine (pop_noI HQ.out).mono ?_; rintro e wc ⟨rfl, rfl⟩)
            | (go_at_call 22; refine (pop_noS HS.out).mono ?_; rintro e wd ⟨rfl, rfl⟩)
            | (go_at_call 19; refine (lenI HQ3.out).mono ?_; rintro e wa ⟨rfl, rfl⟩; rw [List.length_map])
            | (go_at_call 24; refine (lenS HS3.out).mono ?_; rintro e wb ⟨rfl, rfl⟩; rw [List.length_map]))
          go_roundw
          case rel => exact ⟨j + 1, by omega, by go_num, _, HL.out, HN.out, ⟨_, HQ.out⟩, ⟨_, HS.out⟩, HB.out⟩
          case measure => simp [intOf]; omega
        | cons m M =>
          have hm5 := HL.out m (by simp)
          have k4 : (m : Int) < 5 := by omega
          have k5 : ¬ ((m : Int) < 0) := by omega
          have k6 : ¬ (4 < (m : Int)) := by omega
          have PQ := Lib.hid (popI (x := iof m) (L := M.map iof) HQ.out)
          have PS := Lib.hid (popS (x := nmB m) (L := M.map nmB) HS.out)
          unfold iof at PQ
          go_wp2_with (first
            | (go_at_call 13; refine PQ.out.mono ?_; rintro e w3 ⟨rfl, h2, t2⟩; have HQ2 := Lib.hid h2; have HN2 := Lib.hid (HN.out.keep (t2.block nb HN.out.lt n1)); have HSX := Lib.hid ((show QAt encS wr t 64 g (nmB m :: M.map nmB) from HS.out).tur t2 (Ne.symm n3)); have HB2 := Lib.hid (t2.below HB.out l1 HB.out.size); have PS2 := Lib.hid (popS HSX.out); clear h2 t2)
            | (go_at_call 22; refine PS2.out.mono ?_; rintro e w4 ⟨rfl, h2, t2⟩; have HN4 := Lib.hid (HN2.out.keep (t2.block nb HN2.out.lt n2)); have s2 := name_at HN4.out hm5; have HS3 := Lib.hid h2; have HQ3 := Lib.hid (HQ2.out.tur t2 n3); have HB3 := Lib.hid (t2.below HB2.out l2 HB2.out.size); clear h2 t2)
            | (go_at_call 19; refine (lenI HQ3.out).mono ?_; rintro e wa ⟨rfl, rfl⟩; rw [List.length_map])
            | (go_at_call 24; refine (lenS HS3.out).mono ?_; rintro e wb ⟨rfl, rfl⟩; rw [List.length_map]))
          exact ⟨⟨j + 1, by omega, by go_num, M, fun y hy => HL.out y (by simp [hy]), HN4.out, ⟨_, HQ3.out⟩, ⟨_, HS3.out⟩, HB3.out⟩, by simp [intOf]; omega⟩
      · obtain ⟨e1, e2, e3, e4⟩ := drop_two HL.out hn
        have PI : Hid (∀ W, QAt encI W q 53 f (L.map iof) → Calls Try.prog 15 #[.pointer (some ⟨q, 0, none⟩), .int .i64 (n : Int)] W fun e w' => e = .returned (.int .i64 (dropE L n)) ∧ (∃ f', QAt encI w' q 53 f' ((L.erase n).map iof)) ∧ Tur q W w') := fun W hW => by
          have := dropI hW (n : Int)
          rw [e1, e3] at this
          exact this
        have PS : Hid (∀ W, QAt encS W t 64 g (L.map nmB) → Calls Try.prog 23 #[.pointer (some ⟨t, 0, none⟩), .string (nmB n)] W fun e w' => e = .returned (.int .i64 (dropE L n)) ∧ (∃ f', QAt encS w' t 64 f' ((L.erase n).map nmB)) ∧ Tur t W w') := fun W hW => by
          have := dropS hW (nmB n)
          rw [e2, e4] at this
          exact this
        have HLT : Hid (∀ x ∈ L.erase n, x < 5) := fun x hx => HL.out x (List.mem_of_mem_erase hx)
        clear e1 e2 e3 e4
        generalize L.erase n = L2 at *
        generalize dropE L n = pe at *
        go_wp2
        go_region_held3 (fun w' => w'.cell? ⟨nb, n, none⟩ = some (.string (nmB n))) (first | exact s0 | exact s1 | exact s2) (first
          | (go_at_call 15; refine (PI.out _ (HQ.out.keep (by rfl))).mono ?_; rintro e w3 ⟨rfl, ⟨f2, h2⟩, t2⟩; have HN2 := Lib.hid (HN.out.keep (t2.block nb HN.out.lt n1)); have s1 := name_at HN2.out hn; have HQ2 := Lib.hid h2; have HS2 := Lib.hid ((HS.out.keep (by rfl)).tur t2 (Ne.symm n3)); have HB2 := Lib.hid (t2.below (below_drew7 HB.out) l1 HB.out.size); clear h2 t2)
          | (go_at_call 23; refine (PS.out _ HS2.out).mono ?_; rintro e w4 ⟨rfl, ⟨g2, h2⟩, t2⟩; have HN4 := Lib.hid (HN2.out.keep (t2.block nb HN2.out.lt n2)); have s2 := name_at HN4.out hn; have HS3 := Lib.hid h2; have HQ3 := Lib.hid (HQ2.out.tur t2 n3); have HB3 := Lib.hid (t2.below HB2.out l2 HB2.out.size); clear h2 t2))
        all_goals
          go_wp2_with (first
            | (go_at_call 19; refine (lenI HQ3.out).mono ?_; rintro e wa ⟨rfl, rfl⟩; rw [List.length_map])
            | (go_at_call 24; refine (lenS HS3.out).mono ?_; rintro e wb ⟨rfl, rfl⟩; rw [List.length_map]))
          exact ⟨⟨j + 1, by omega, by go_num, _, HLT.out, HN4.out, ⟨_, HQ3.out⟩, ⟨_, HS3.out⟩, HB3.out⟩, by simp [intOf]; omega⟩
    · obtain rfl : j = N := by omega
      rcases HN3.out j hlt with c | ⟨c, c2⟩
      all_goals
        go_wp2
        go_ret
        exact ⟨rfl, HB.out⟩
set_option maxRecDepth 100000 in
theorem texts_lifted (os : Os) (started : os.Started) (H : Type) (enc : TypeId × Value → H) :
    ReturnsInHanded {} Try.checked os 4 .any (Rows.queueTextsSpec.pre6 enc Try.prog Try.f4 Rows.queueTextsRow.domain false) (Rows.queueTextsSpec.post enc Try.prog Try.f4 false true false false) := by
  refine returnsInHanded_of_change (C := Try.checked) own started (by kernel_rfl) Try.func4
    (ChangeSpec.witness6 (enc := enc) (C := Try.checked) false ⟨#[], #[.slice none 0 0], []⟩ 8 (by kernel_rfl) (by kernel_rfl) (by kernel_rfl) (by kernel_rfl)) ?_
  intro W base args ds gs before hval0 hW _ _
  have hval : ∀ (j : Nat) t v, Try.f4.params[j]? = some t → args[j]? = some v → Value.okWide Try.prog W .any base t v := hval0
  have hW' := hW
  obtain ⟨p, q, hA0, hV, rfl, hfz, hnd⟩ := hW
  have hA : DataW.TrodAll enc Try.prog W 0 (fun _ => true) true Try.f4.params.toList args.toList ds p := hA0
  rw [Try.params4] at hA hval
  obtain ⟨v0, vs0, d0, ds0, p0, q0, hargs, rfl, rfl, h0, r0⟩ := trodAll_cons hA
  obtain ⟨rfl, rfl, rfl⟩ := trodAll_nil r0
  obtain rfl : args = #[v0] := by cases args; simp_all
  obtain ⟨a0, len0, cap0, rfl, hacts0⟩ := open_acts (hval 0 22 v0 rfl rfl) h0
  have hwalk : Calls Try.prog 4 #[.slice a0 len0 cap0] W fun e w' => e = .returned (.bool true) ∧ Below W.heap.size W w' := texts_walk a0 len0 cap0 W hacts0
  refine hwalk.mono fun e W' ⟨he, bel⟩ => ⟨_, he, ?_⟩
  exact law_post laidOut (of_decide_eq_true (by kernel_rfl)) rfl Try.underlying4 rfl hW' (fun ds' e => by subst e; rfl) bel

theorem queueTexts_holds : Rows.QueueTextsSaid :=
  OpenClaim.holds_of_wide 4 Try.f4 rfl rfl rfl rfl rfl rfl rfl ⟨rfl, rfl, rfl, rfl, rfl⟩ rfl rfl rfl rfl rfl (by kernel_rfl) Try.func4 (by kernel_rfl)
    (of_decide_eq_true (by kernel_rfl)) (by unfold Func.isWrapper; rw [if_neg (by decide +kernel)]; exact ⟨rfl, rfl⟩)
    (fun os started H enc _ => texts_lifted os started H enc)

#print axioms queueTexts_holds
end Go.Proofs.Ytaofnpnmgmieiaa
