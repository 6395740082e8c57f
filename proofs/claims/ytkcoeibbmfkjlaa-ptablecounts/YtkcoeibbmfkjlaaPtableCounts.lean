/- PtableCounts: for every list of acts the law answers true: a root and its tables have as many frames as sixteens of pages with a mapped one, and one. No conditions. -/
import Derived.Test.YtkcoeibbmfkjlaaPtRow
import Derived.Test.YtkcoeibbmfkjlaaPtActs
namespace Go.Proofs.Ytkcoeibbmfkjlaa
open Go.RowKit Go.ChangeShapes Go.WideShapes Go.ChangeAt

/-- how often the sixteen turns, and the last one. -/
def chgs : Int → List Nat → Nat
  | _, [] => 0
  | last, x :: r => (if (x : Int) / 16 = last then 0 else 1) + chgs ((x : Int) / 16) r
def lasts : Int → List Nat → Int
  | last, [] => last
  | _, x :: r => lasts ((x : Int) / 16) r
theorem chgs_snoc : ∀ (last : Int) (l : List Nat) (x : Nat), chgs last (l ++ [x]) = chgs last l + if (x : Int) / 16 = lasts last l then 0 else 1
  | last, [], x => by rw [List.nil_append, chgs, chgs, chgs, lasts]; omega
  | last, y :: r, x => by
    have ih := chgs_snoc ((y : Int) / 16) r x
    rw [List.cons_append, chgs, chgs, lasts, ih]
    omega
theorem lasts_snoc : ∀ (last : Int) (l : List Nat) (x : Nat), lasts last (l ++ [x]) = (x : Int) / 16
  | _, [], _ => rfl
  | last, y :: r, x => by rw [List.cons_append, lasts]; exact lasts_snoc _ r x
theorem chgs_le : ∀ (last : Int) (l : List Nat), chgs last l ≤ l.length
  | _, [] => Nat.le_refl _
  | last, y :: r => by
    have ih := chgs_le ((y : Int) / 16) r
    rw [chgs, List.length_cons]
    split <;> omega
/-- a row of pages of one sixteen. -/
theorem chgs_row (i : Nat) : ∀ (l rest : List Nat), (∀ x ∈ l, x / 16 = i) → chgs (i : Int) (l ++ rest) = chgs (i : Int) rest
  | [], rest, _ => rfl
  | x :: l, rest, h => by
    have hx := h x (by simp)
    have e : (x : Int) / 16 = (i : Int) := by omega
    rw [List.cons_append, chgs, if_pos e, e, chgs_row i l rest (fun y hy => h y (by simp [hy]))]
    omega
theorem chgs_flat (f : Nat → List Nat) : ∀ (is : List Nat) (last : Int), is.Pairwise (· < ·) → (∀ i ∈ is, last < (i : Int)) → (∀ i ∈ is, f i ≠ [] ∧ ∀ x ∈ f i, x / 16 = i) → chgs last (is.flatMap f) = is.length
  | [], _, _, _, _ => rfl
  | i :: is, last, hp, hl, hf => by
    obtain ⟨hp1, hp2⟩ := List.pairwise_cons.1 hp
    obtain ⟨hne, hall⟩ := hf i (by simp)
    have ih := chgs_flat f is (i : Int) hp2 (fun j hj => by have := hp1 j hj; omega) (fun j hj => hf j (by simp [hj]))
    rw [List.flatMap_cons, List.length_cons]
    cases hfi : f i with
    | nil => exact absurd hfi hne
    | cons x l =>
      rw [hfi] at hall
      have hx := hall x (by simp)
      have e : (x : Int) / 16 = (i : Int) := by omega
      have hli := hl i (by simp)
      rw [List.cons_append, chgs, if_neg (by omega), e, chgs_row i l _ (fun y hy => hall y (by simp [hy])), ih]
      omega
theorem chgs_pages {n root : Nat} {S : PtS} (h : S.ok n root) : chgs (-1) (pagesL S.E) = tabs S.T := by
  rw [← pgL_pages h]
  unfold pgL tabs
  have e1 : entsTo (S.B root) 16 = (List.range 16).filter fun i => decide (S.T i ≠ (0, 0)) := by
    unfold entsTo
    apply List.filter_congr
    intro i hi
    rw [Rep.pT h (List.mem_range.1 hi)]
  rw [e1]
  refine chgs_flat _ _ _ (List.Pairwise.filter _ List.pairwise_lt_range) (fun i _ => by omega) (fun i hi => ?_)
  obtain ⟨h1, h2⟩ := List.mem_filter.1 hi
  have hi' := List.mem_range.1 h1
  have hT : S.T i ≠ (0, 0) := by simpa using h2
  unfold pgOf
  refine ⟨?_, ?_⟩
  · intro c
    rw [List.map_eq_nil_iff, ents_nil] at c
    obtain ⟨j, hj, hE⟩ := (Rep.tb h i hi' hT).2.2.2.2
    have := c j hj
    rw [Rep.pT h hi', Rep.pE h hi' hj hT] at this
    exact hE this
  · intro x hx
    obtain ⟨j, hj, rfl⟩ := List.mem_map.1 hx
    have : j < 16 := by
      unfold entsTo at hj
      exact List.mem_range.1 (List.mem_filter.1 hj).1
    omega
theorem take_snoc_nat (zs : List Nat) (k : Nat) (h : k < zs.length) : zs.take (k + 1) = zs.take k ++ [zs[k]?.getD 0] := by
  rw [List.take_succ_eq_append_getElem h]; simp [h]

set_option maxRecDepth 100000 in
set_option maxHeartbeats 8000000 in
theorem counts_walk (a : Option Addr) (len cap : Nat) (w : World) (hacts : ActsAt w a len) :
    Calls Try.prog 8 #[.slice a len cap] w fun e w' => e = .returned (.bool true) ∧ Below w.heap.size w w' := by
  obtain ⟨_hlen, hc⟩ := hacts
  unfold maxLen at _hlen
  have HC := Lib.hid hc; clear hc
  go_enter Try.func8, Try.ntmps8
  go_wp2_with fail
  refine (shown_any _).mono ?_
  rintro e w1 ⟨rfl, hB1⟩
  have HB1 := Lib.hid hB1; clear hB1
  go_wp2_with fail
  refine (new_ok 40 (by omega) (by omega) _).mono ?_
  rintro e w2 ⟨rfl, hM2, hB2⟩
  have HB2 := Lib.hid (below_step HB1.out hB2); clear hB2
  have hsz : Hid (w.heap.size ≤ w1.heap.size) := HB1.out.size
  go_wp2_with fail
  refine (pnew_any hM2).mono ?_
  rintro e w3 ⟨rfl, hM3, hG3⟩
  generalize w1.heap.size + 1 = p at *
  generalize w1.heap.size = g at *
  have hgb : Hid (∀ (W W' : World), Below w.heap.size w W → W.grownBy W' (some g) → Below w.heap.size w W') := fun W W' h1 h => h1.trans (below_of_grown h h1.size (fun j e => by cases e; exact hsz.out))
  have HB3 := Lib.hid (hgb.out _ _ HB2.out hG3); clear hG3 hM2
  have HM3 := Lib.hid hM3; clear hM3
  go_wp2_with fail
  go_loopw [8] (fun i wr => ∃ (k : Nat) (S : PtS), k ≤ len ∧ i = .int .i64 k ∧ S.ok 40 0 ∧ S.at wr p g 40 ∧ Below w.heap.size w wr) (fun i _ => len - (intOf i).toNat)
  case atStart => exact ⟨0, S0, Nat.zero_le _, rfl, S0_ok (by omega) (by omega), HM3.out, HB3.out⟩
  case round =>
    obtain ⟨k, S, hk, rfl, hok, hM, hB⟩ := hrel
    have HO := Lib.hid hok; have HM := Lib.hid hM
    clear hok hM
    by_cases hgo : k < len ∧ k < 60
    · obtain ⟨hlt, h60⟩ := hgo
      obtain ⟨b, off, rfl, hb, hcs⟩ := HC.out (by omega)
      obtain ⟨d, pg, fr, fl, hA⟩ := hcs k hlt
      have HX0 := Lib.hid hA.h0; have HX1 := Lib.hid hA.h1
      have i0 : (0 : Int) ≤ (k : Int) := by omega
      have i1 : (k : Int) < (len : Int) := by omega
      have hbg : Hid (b ≠ g) := by have := hsz.out; unfold Hid; omega
      obtain ⟨c0, c1, c2, c3, _, _⟩ := hA.below hB hb
      have HB := Lib.hid hB
      clear hA hB hcs
      cases hdd : ((IntKind.u64.wrap d).tmod 4 == 3) with
      | true =>
        go_wp2_with fail
        refine (unmap_rep HM.out HO.out pg).mono ?_
        rintro e w6 ⟨rfl, hM6, hG6⟩
        have HM6 := Lib.hid hM6; have HB6 := Lib.hid (hgb.out _ _ HB.out hG6)
        clear hM6 hG6 c0 c1 c2 c3 hdd
        generalize (unmapS 0 S pg).1 = u1; generalize (unmapS 0 S pg).2.1 = u2
        have HOK := Lib.hid (unmap_ok HO.out pg)
        go_wp2_with fail
        refine (pages_sl HM6.out HOK.out).mono ?_
        rintro e w7 ⟨⟨qa, qc, rfl, hL7, hO7⟩, hB7⟩
        have hp7 := pages_len_le ((unmapS 0 S pg).2.2).E
        have HM7 := Lib.hid (S_keep HM6.out hB7)
        have HB7 := Lib.hid (below_step HB6.out hB7)
        have hLF : Hid (leftN 40 ((unmapS 0 S pg).2.2).R + 1 + chgs (-1) (pagesL ((unmapS 0 S pg).2.2).E) = 40) := by
          unfold Hid; rw [chgs_pages HOK.out]; exact left_rep HOK.out
        have HST : Hid (((unmapS 0 S pg).2.2).ok 40 0 ∧ ((unmapS 0 S pg).2.2).at w7 p g 40) := ⟨HOK.out, HM7.out⟩
        have hO7' : Hid (∀ b, (Value.slice qa (pagesL ((unmapS 0 S pg).2.2).E).length qc).ownBlock = some b → b < w7.heap.size) := fun b e => (hO7 b e).2
        have HL7 := Lib.hid hL7
        clear hB7 hL7 hO7 HM6 HM7 HOK
        generalize (unmapS 0 S pg).2.2 = S2 at *
        have HPB : Hid (∀ j, j < (pagesL S2.E).length → (pagesL S2.E)[j]?.getD 0 < 256) := fun j hj => by
          rw [List.getElem?_eq_getElem hj, Option.getD_some]
          exact (pages_mem.1 (List.getElem_mem hj)).1
        generalize pagesL S2.E = PL at *
        go_wp2_with fail
        go_loopw [11, 12, 13] (fun c l i wi => ∃ j : Nat, j ≤ PL.length ∧ i = .int .i64 j ∧ c = .int .i64 (1 + (chgs (-1) (PL.take j) : Nat)) ∧ l = .int .i64 (lasts (-1) (PL.take j)) ∧ wi = w7) (fun _ _ i _ => PL.length - (intOf i).toNat)
        case atStart => exact ⟨0, Nat.zero_le _, rfl, rfl, rfl, rfl⟩
        case round =>
          obtain ⟨j, hj, rfl, rfl, rfl, rfl⟩ := hrel
          have hcb := chgs_le (-1) (PL.take j)
          rw [List.length_take] at hcb
          have hcb2 : chgs (-1) (PL.take j) ≤ 256 := by omega
          clear hcb
          by_cases hlj : j < PL.length
          · obtain ⟨qb, rfl, hcell⟩ := HL7.out.row (by omega)
            have cj := hcell j hlj
            have HT := Lib.hid (take_snoc_nat PL j hlj)
            have hx256 := HPB.out j hlj
            clear hcell
            generalize PL[j]?.getD 0 = x at cj HT hx256
            have HC1 := Lib.hid (chgs_snoc (-1) (PL.take j) x)
            have HC2 := Lib.hid (lasts_snoc (-1) (PL.take j) x)
            generalize hcc : chgs (-1) (PL.take j) = C at *
            generalize hll : lasts (-1) (PL.take j) = L at *
            have HCC := Lib.hid hcc; have HLL := Lib.hid hll
            clear hcc hll
            have j0 : (0 : Int) ≤ (j : Int) := by omega
            have j1 : (j : Int) < (PL.length : Int) := by omega
            by_cases hq : (x : Int) / 16 = L
            · have hq1 : ((x : Int) / 16 != L) = false := by simpa using hq
              have HQ := Lib.hid hq; clear hq
              go_wp2
              go_roundw
              case rel => exact ⟨j + 1, by omega, by go_num, by rw [HT.out, HC1.out, if_pos HQ.out]; rfl, by rw [HT.out, HC2.out], by first | rfl | trivial⟩
              case measure => simp [intOf]; omega
            · have hq1 : ((x : Int) / 16 != L) = true := by simpa using hq
              have HQ := Lib.hid hq; clear hq
              go_wp2
              go_roundw
              case rel => exact ⟨j + 1, by omega, by go_num, by rw [HT.out, HC1.out, if_neg HQ.out]; congr 1, by rw [HT.out, HC2.out], by first | rfl | trivial⟩
              case measure => simp [intOf]; omega
          · obtain rfl : j = PL.length := by omega
            rw [List.take_length] at hcb2 ⊢
            have hle : leftN 40 S2.R ≤ 40 := by have := hLF.out; omega
            have hL1 : ((leftN 40 S2.R : Int) != 40 - (1 + (chgs (-1) PL : Int))) = false := by
              have := hLF.out
              rw [bne_eq_false_iff_eq]; omega
            generalize chgs (-1) PL = C at *
            generalize lasts (-1) PL = L at *
            go_wp2_with fail
            refine (left_any HST.out.2).mono ?_
            rintro e w8 ⟨rfl, hB8⟩
            have HM8 := Lib.hid (S_keep HST.out.2 hB8)
            have HB8 := Lib.hid (below_step HB7.out hB8)
            clear hB8
            generalize leftN 40 S2.R = LF at *
            go_wp2
            go_roundw
            case rel => exact ⟨k + 1, S2, by omega, by go_num, HST.out.1, HM8.out, HB8.out⟩
            case measure => simp [intOf]; omega
      | false =>
        go_wp2_with fail
        go_region_held3 (fun w' => w'.cell? ⟨b, off + k * 4 + 1, none⟩ = some (.int .i64 pg) ∧ w'.cell? ⟨b, off + k * 4 + 2, none⟩ = some (.int .i64 fr) ∧ w'.cell? ⟨b, off + k * 4 + 3, none⟩ = some (.int .i64 fl)) (first | exact ⟨c1, c2, c3⟩ | exact ⟨d1, d2, d3⟩ | go_keep)
          ((go_at_call 14; refine (map_rep (MemAt.drew HM.out) HO.out pg fr fl HX0.out HX1.out).mono ?_; rintro e w6 ⟨rfl, hM6, hG6⟩; have d1 := hG6.cell c1 (by intro e; exact hbg.out (Option.some.inj e)); have d2 := hG6.cell c2 (by intro e; exact hbg.out (Option.some.inj e)); have d3 := hG6.cell c3 (by intro e; exact hbg.out (Option.some.inj e)); have HM6 := Lib.hid hM6; have HB6 := Lib.hid (hgb.out _ _ HB.out (drew_grown hG6)); clear hM6 hG6))
        clear d1 d2 d3 c0 c1 c2 c3 hdd
        generalize (mapS 40 0 S pg fr fl).1 = u1
        have HOK := Lib.hid (map_ok HO.out pg fr fl)
        go_wp2_with fail
        refine (pages_sl HM6.out HOK.out).mono ?_
        rintro e w7 ⟨⟨qa, qc, rfl, hL7, hO7⟩, hB7⟩
        have hp7 := pages_len_le ((mapS 40 0 S pg fr fl).2).E
        have HM7 := Lib.hid (S_keep HM6.out hB7)
        have HB7 := Lib.hid (below_step HB6.out hB7)
        have hLF : Hid (leftN 40 ((mapS 40 0 S pg fr fl).2).R + 1 + chgs (-1) (pagesL ((mapS 40 0 S pg fr fl).2).E) = 40) := by
          unfold Hid; rw [chgs_pages HOK.out]; exact left_rep HOK.out
        have HST : Hid (((mapS 40 0 S pg fr fl).2).ok 40 0 ∧ ((mapS 40 0 S pg fr fl).2).at w7 p g 40) := ⟨HOK.out, HM7.out⟩
        have hO7' : Hid (∀ b, (Value.slice qa (pagesL ((mapS 40 0 S pg fr fl).2).E).length qc).ownBlock = some b → b < w7.heap.size) := fun b e => (hO7 b e).2
        have HL7 := Lib.hid hL7
        clear hB7 hL7 hO7 HM6 HM7 HOK
        generalize (mapS 40 0 S pg fr fl).2 = S2 at *
        have HPB : Hid (∀ j, j < (pagesL S2.E).length → (pagesL S2.E)[j]?.getD 0 < 256) := fun j hj => by
          rw [List.getElem?_eq_getElem hj, Option.getD_some]
          exact (pages_mem.1 (List.getElem_mem hj)).1
        generalize pagesL S2.E = PL at *
        go_wp2_with fail
        go_loopw [11, 12, 13] (fun c l i wi => ∃ j : Nat, j ≤ PL.length ∧ i = .int .i64 j ∧ c = .int .i64 (1 + (chgs (-1) (PL.take j) : Nat)) ∧ l = .int .i64 (lasts (-1) (PL.take j)) ∧ wi = w7) (fun _ _ i _ => PL.length - (intOf i).toNat)
        case atStart => exact ⟨0, Nat.zero_le _, rfl, rfl, rfl, rfl⟩
        case round =>
          obtain ⟨j, hj, rfl, rfl, rfl, rfl⟩ := hrel
          have hcb := chgs_le (-1) (PL.take j)
          rw [List.length_take] at hcb
          have hcb2 : chgs (-1) (PL.take j) ≤ 256 := by omega
          clear hcb
          by_cases hlj : j < PL.length
          · obtain ⟨qb, rfl, hcell⟩ := HL7.out.row (by omega)
            have cj := hcell j hlj
            have HT := Lib.hid (take_snoc_nat PL j hlj)
            have hx256 := HPB.out j hlj
            clear hcell
            generalize PL[j]?.getD 0 = x at cj HT hx256
            have HC1 := Lib.hid (chgs_snoc (-1) (PL.take j) x)
            have HC2 := Lib.hid (lasts_snoc (-1) (PL.take j) x)
            generalize hcc : chgs (-1) (PL.take j) = C at *
            generalize hll : lasts (-1) (PL.take j) = L at *
            have HCC := Lib.hid hcc; have HLL := Lib.hid hll
            clear hcc hll
            have j0 : (0 : Int) ≤ (j : Int) := by omega
            have j1 : (j : Int) < (PL.length : Int) := by omega
            by_cases hq : (x : Int) / 16 = L
            · have hq1 : ((x : Int) / 16 != L) = false := by simpa using hq
              have HQ := Lib.hid hq; clear hq
              go_wp2
              go_roundw
              case rel => exact ⟨j + 1, by omega, by go_num, by rw [HT.out, HC1.out, if_pos HQ.out]; rfl, by rw [HT.out, HC2.out], by first | rfl | trivial⟩
              case measure => simp [intOf]; omega
            · have hq1 : ((x : Int) / 16 != L) = true := by simpa using hq
              have HQ := Lib.hid hq; clear hq
              go_wp2
              go_roundw
              case rel => exact ⟨j + 1, by omega, by go_num, by rw [HT.out, HC1.out, if_neg HQ.out]; congr 1, by rw [HT.out, HC2.out], by first | rfl | trivial⟩
              case measure => simp [intOf]; omega
          · obtain rfl : j = PL.length := by omega
            rw [List.take_length] at hcb2 ⊢
            have hle : leftN 40 S2.R ≤ 40 := by have := hLF.out; omega
            have hL1 : ((leftN 40 S2.R : Int) != 40 - (1 + (chgs (-1) PL : Int))) = false := by
              have := hLF.out
              rw [bne_eq_false_iff_eq]; omega
            generalize chgs (-1) PL = C at *
            generalize lasts (-1) PL = L at *
            go_wp2_with fail
            refine (left_any HST.out.2).mono ?_
            rintro e w8 ⟨rfl, hB8⟩
            have HM8 := Lib.hid (S_keep HST.out.2 hB8)
            have HB8 := Lib.hid (below_step HB7.out hB8)
            clear hB8
            generalize leftN 40 S2.R = LF at *
            go_wp2
            go_roundw
            case rel => exact ⟨k + 1, S2, by omega, by go_num, HST.out.1, HM8.out, HB8.out⟩
            case measure => simp [intOf]; omega
    · have hex : (¬ k < len) ∨ (k < len ∧ ¬ k < 60) := by omega
      have HB := Lib.hid hB
      clear hgo hB
      rcases hex with h1 | ⟨h1, h2⟩
      all_goals
        go_wp2
        go_ret
        exact ⟨rfl, HB.out⟩

set_option maxRecDepth 100000 in
theorem counts_lifted (os : Os) (started : os.Started) (H : Type) (enc : TypeId × Value → H) :
    ReturnsInHanded {} Try.checked os 8 .any (Rows.ptableCountsSpec.pre6 enc Try.prog Try.f8 Rows.ptableCountsRow.domain false) (Rows.ptableCountsSpec.post enc Try.prog Try.f8 false true false false) := by
  refine returnsInHanded_of_change (C := Try.checked) own started (by kernel_rfl) Try.func8
    (ChangeSpec.witness6 (enc := enc) (C := Try.checked) false ⟨#[], #[.slice none 0 0], []⟩ 8 (by kernel_rfl) (by kernel_rfl) (by kernel_rfl) (by kernel_rfl)) ?_
  intro W base args ds gs before hval0 hW _ _
  have hval : ∀ (j : Nat) t v, Try.f8.params[j]? = some t → args[j]? = some v → Value.okWide Try.prog W .any base t v := hval0
  have hW' := hW
  obtain ⟨p, q, hA0, hV, rfl, hfz, hnd⟩ := hW
  have hA : DataW.TrodAll enc Try.prog W 0 (fun _ => true) true Try.f8.params.toList args.toList ds p := hA0
  rw [Try.params8] at hA hval
  obtain ⟨v0, vs0, d0, ds0, p0, q0, hargs, rfl, rfl, h0, r0⟩ := trodAll_cons hA
  obtain ⟨rfl, rfl, rfl⟩ := trodAll_nil r0
  obtain rfl : args = #[v0] := by cases args; simp_all
  obtain ⟨a, len, cap, rfl, hacts⟩ := open_acts (hval 0 22 v0 rfl rfl) h0
  have hwalk : Calls Try.prog 8 #[.slice a len cap] W fun e w' => e = .returned (.bool true) ∧ Below W.heap.size W w' := counts_walk a len cap W hacts
  refine hwalk.mono fun e W' ⟨he, bel⟩ => ⟨_, he, ?_⟩
  exact law_post laidOut (of_decide_eq_true (by kernel_rfl)) rfl Try.underlying4 rfl hW' (fun ds' e => by subst e; rfl) bel

theorem ptableCounts_holds : Rows.PtableCountsSaid :=
  OpenClaim.holds_of_wide 8 Try.f8 rfl rfl rfl rfl rfl rfl rfl ⟨rfl, rfl, rfl, rfl, rfl⟩ rfl rfl rfl rfl rfl (by kernel_rfl) Try.func8 (by kernel_rfl)
    (of_decide_eq_true (by kernel_rfl)) (by unfold Func.isWrapper; rw [if_neg (by decide +kernel)]; exact ⟨rfl, rfl⟩)
    (fun os started H enc _ => counts_lifted os started H enc)

#print axioms ptableCounts_holds
end Go.Proofs.Ytkcoeibbmfkjlaa
