/- FramesKeep: for every two frames, place and texts the law answers true: what is written is read, and no other frame is touched. No conditions. -/
import Derived.Test.YtgbgjnhdoedboaaFramesMach
import Derived.Test.YtgbgjnhdoedboaaLaw
namespace Go.Proofs.Ytgbgjnhdoedboaa
open Go.RowKit Go.ChangeShapes Go.WideShapes Go.ChangeAt
open Go.ChangeMaps (open_string shut_string)

theorem extract_size_le' (s : ByteArray) (a b : Nat) (h : s.size ≤ maxLen) : (s.extract a b).size ≤ maxLen := by
  rw [ByteArray.size_extract]; omega

/-- the first seventy bytes. -/
def textS (s : ByteArray) : ByteArray := if s.size ≤ 70 then s else s.extract 0 70
theorem textS_size (s : ByteArray) : (textS s).size ≤ 70 := by
  unfold textS; split
  · assumption
  · rw [ByteArray.size_extract]; omega

set_option maxHeartbeats 400000 in
theorem text_any (s : ByteArray) (hs : s.size ≤ maxLen) (w : World) : Calls Try.prog 25 #[.string s] w fun e w' => e = .returned (.string (textS s)) ∧ w = w' := by
  unfold maxLen at hs
  by_cases h : s.size ≤ 70
  · have HT : Hid (textS s = s) := by unfold Hid textS; rw [if_pos h]
    go_enter Try.func25, Try.ntmps25
    go_wp2
    all_goals
      go_ret
      refine ⟨?_, rfl⟩
      rw [HT.out]
      first | rfl | (exfalso; omega)
  · have HT : Hid (textS s = s.extract 0 70) := by unfold Hid textS; rw [if_neg h]
    go_enter Try.func25, Try.ntmps25
    go_wp2
    all_goals
      go_ret
      refine ⟨?_, rfl⟩
      rw [HT.out]
      first | rfl | (exfalso; omega)


/-- all six frames in use. -/
def AllOne (R : Nat → Int) : Prop := ∀ j, j < 6 → R j = 1

theorem one_live {R : Nat → Int} (h : AllOne R) {b : Int} (hb : 0 ≤ b ∧ b ≤ 5) : liveB 6 R b = true := by
  simp only [liveB, decide_eq_true_eq]
  refine ⟨hb.1, by omega, ?_⟩
  rw [h b.toNat (by omega)]; omega
theorem one_dead {R : Nat → Int} {b : Int} (hb : ¬ (0 ≤ b ∧ b ≤ 5)) : liveB 6 R b = false := by
  simp only [liveB, decide_eq_false_iff_not]
  omega
theorem read_all {R : Nat → Int} {B : Nat → List UInt8} {b : Int} (hl : liveB 6 R b = true) (hB : (B b.toNat).length = 64) : readE 6 R b 0 64 = 0 ∧ readS 6 R B b 0 64 = B b.toNat := by
  have h1 : readE 6 R b 0 64 = 0 := by unfold readE; rw [if_pos hl]; rfl
  refine ⟨h1, ?_⟩
  unfold readS
  rw [if_pos h1]
  show ((B b.toNat).drop 0).take 64 = _
  rw [List.drop_zero, List.take_of_length_le (by omega)]

theorem read_back {R : Nat → Int} {B : Nat → List UInt8} {a o : Int} {s : List UInt8} (hE : readE 6 R a o s.length = 0) (hB : (B a.toNat).length = 64) :
    readS 6 R (writeB 6 R B a o s) a o s.length = s := by
  have hsp : spanB o s.length = true := by
    unfold readE at hE
    cases h1 : liveB 6 R a <;> cases h2 : spanB o s.length <;> simp [h1, h2] at hE ⊢
  obtain ⟨x, y, rfl, hy, hxy⟩ := span_nat hsp
  unfold readS writeB
  rw [if_pos hE, if_pos hE, updB_same]
  simp only [Int.toNat_natCast]
  apply List.ext_getElem?
  intro i
  rw [List.getElem?_take, List.getElem?_drop, putBytes_get _ _ _ (by omega)]
  by_cases hi : i < s.length
  · rw [if_pos hi, if_pos (by omega), show x + i - x = i from by omega]
  · rw [if_neg hi, List.getElem?_eq_none (by omega)]

theorem toArray_toList (s : ByteArray) : (⟨s.data.toList.toArray⟩ : ByteArray) = s := by simp

theorem keep_below {w wr w3 w4 w5 w6 : World} {g : Nat} (h : Below w.heap.size w wr) (h3 : Below wr.heap.size wr w3) (h4 : w3.grownBy w4 (some g)) (h5 : Below w4.heap.size w4 w5) (h6 : Below w5.heap.size w5 w6) (hg : w.heap.size ≤ g) : Below w.heap.size w w6 := by
  have a3 := h.trans (h3.mono h.size)
  have a4 := a3.trans (below_of_grown h4 a3.size (fun j e => by cases e; exact hg))
  have a5 := a4.trans (h5.mono a4.size)
  exact a5.trans (h6.mono a5.size)

set_option maxRecDepth 100000 in
set_option maxHeartbeats 2000000 in
theorem keep_walk (a b o : Int) (s t : ByteArray) (hs : s.size ≤ maxLen) (ht : t.size ≤ maxLen) (w : World) :
    Calls Try.prog 6 #[.int .i64 a, .int .i64 b, .int .i64 o, .string s, .string t] w fun e w' => e = .returned (.bool true) ∧ Below w.heap.size w w' := by
  have HS := Lib.hid hs
  have HT := Lib.hid ht
  clear hs ht
  have hT70 := textS_size t
  have hS70 := textS_size s
  go_enter Try.func6, Try.ntmps6
  go_wp2_with fail
  refine (shown_any _).mono ?_
  rintro e w1 ⟨rfl, hB1⟩
  have HB1 := Lib.hid hB1; clear hB1
  go_wp2_with fail
  refine (new_ok 6 (by omega) (by omega) _).mono ?_
  rintro e w2 ⟨rfl, hM2, hB2⟩
  have HB2 := Lib.hid hB2; clear hB2
  go_wp2_with fail
  have hB3 : Hid (Below w.heap.size w w2) := HB1.out.trans (HB2.out.mono HB1.out.size)
  have hsz : Hid (w.heap.size ≤ w1.heap.size) := HB1.out.size
  go_loopw [14] (fun i wr => ∃ (k : Nat) (R : Nat → Int) (B : Nat → List UInt8), k ≤ 6 ∧ i = .int .i64 k ∧ (∀ j, j < k → R j = 1) ∧ (∀ j, k ≤ j → j < 6 → R j = 0) ∧ MemAt wr (w1.heap.size + 1) w1.heap.size 6 R B ∧ Below w.heap.size w wr) (fun i _ => 6 - (intOf i).toNat)
  case atStart => exact ⟨0, _, _, Nat.zero_le _, rfl, fun j hj => by omega, fun j _ _ => rfl, hM2, hB3.out⟩
  case round =>
    obtain ⟨k, R, B, hk, rfl, hR1, hR0, hM, hB⟩ := hrel
    have HB := Lib.hid hB; clear hB
    by_cases hlt : k < 6
    · have hF : allocF 6 R = some k := allocF_some hlt (hR0 k (Nat.le_refl _) hlt) (fun j hj => by rw [hR1 j hj]; omega)
      have hRR : Hid (allocR 6 R = updR R k 1) := by unfold Hid; simp [allocR, allocN, hF]
      have HR1 := Lib.hid hR1
      have HR0 := Lib.hid hR0
      clear hR1 hR0 hF
      go_wp2_with fail
      refine (alloc_fn hM).mono ?_
      rintro e w3 ⟨rfl, hM3, hG3⟩
      rw [hRR.out] at hM3
      have HG3 := Lib.hid hG3; clear hG3
      go_wp2_with fail
      refine (text_any t HT.out _).mono ?_
      rintro e w' ⟨rfl, rfl⟩
      go_wp2_with fail
      refine (text_any t HT.out _).mono ?_
      rintro e w' ⟨rfl, rfl⟩
      generalize hgt : textS t = T at *
      have HGT := Lib.hid hgt; clear hgt
      have HTM : Hid (T.size ≤ maxLen) := by unfold Hid maxLen; omega
      go_wp2_with fail
      all_goals
        refine (write_fn hM3 _ _ _ (by first | exact HTM.out | exact extract_size_le' _ _ _ HTM.out)).mono ?_
        rintro e w4 ⟨rfl, hM4, hG4⟩
        have HG4 := Lib.hid hG4; clear hG4
        go_wp2
        go_roundw
        case rel =>
          refine ⟨k + 1, _, _, by omega, by go_num, fun j hj => ?_, fun j hj hjn => ?_, hM4, HB.out.trans (below_of_grown (grown_trans HG3.out HG4.out) HB.out.size (fun j e => by cases e; exact hsz.out))⟩
          · by_cases e : j = k
            · subst e; simp
            · rw [updR_other _ _ e]; exact HR1.out j (by omega)
          · rw [updR_other _ _ (by omega)]; exact HR0.out j (by omega) hjn
        case measure => simp [intOf]; omega
    · obtain rfl : k = 6 := by omega
      have HA : Hid (AllOne R) := hR1
      clear hR1 hR0 hT70
      by_cases hb : 0 ≤ b ∧ b ≤ 5
      · have hlive := one_live HA.out hb
        have hbn : Hid (b.toNat < 6) := by unfold Hid; omega
        obtain ⟨r1, r2⟩ := read_all hlive (hM.hB b.toNat hbn.out)
        have HE1 := Lib.hid r1
        have HS1 := Lib.hid r2
        have HL := Lib.hid hlive
        clear r1 r2 hlive
        obtain ⟨hb0, hb5⟩ := hb
        go_wp2_with fail
        refine (read_fn hM _ _ _).mono ?_
        rintro e w3 ⟨rfl, hB4⟩
        rw [HE1.out, HS1.out]
        have hM4 := hM.below hB4
        have HB4 := Lib.hid hB4; clear hB4
        go_wp2_with fail
        refine (text_any s HS.out _).mono ?_
        rintro e w' ⟨rfl, rfl⟩
        generalize hgt : textS s = T at *
        have HGT := Lib.hid hgt; clear hgt
        have HTM : Hid (T.size ≤ maxLen) := by unfold Hid maxLen; omega
        go_wp2_with fail
        refine (write_fn hM4 _ _ _ HTM.out).mono ?_
        rintro e w4 ⟨rfl, hM5, hG5⟩
        have HG5 := Lib.hid hG5; clear hG5
        by_cases hE : readE 6 R a o T.size = 0
        · rw [hE]
          have hlen : T.data.toList.length = T.size := toList_length T
          have hla : liveB 6 R a = true := by
            cases hla : liveB 6 R a with
            | true => rfl
            | false => unfold readE at hE; rw [hla] at hE; simp at hE
          have han : a.toNat < 6 := by have := live_nat hla; obtain ⟨j, rfl, hj, _⟩ := this; simpa using hj
          have hrb : readS 6 R (writeB 6 R B a o T.data.toList) a o T.size = T.data.toList := by
            have := read_back (B := B) (a := a) (o := o) (s := T.data.toList) (by rw [hlen]; exact hE) (hM.hB a.toNat han)
            rw [hlen] at this
            exact this
          have HRB := Lib.hid hrb
          have HEa := Lib.hid hE
          obtain ⟨_, q2⟩ := read_all HL.out (hM5.hB b.toNat hbn.out)
          have HQ := Lib.hid q2
          clear hlen hla han hrb hE q2
          by_cases hab : a = b
          · have hdab : (a == b) = true := by rw [beq_iff_eq]; exact hab
            clear hab
            go_wp2_with fail
            refine (text_any s HS.out _).mono ?_
            rintro e w' ⟨rfl, rfl⟩
            rw [HGT.out]
            go_wp2_with fail
            refine (read_fn hM5 _ _ _).mono ?_
            rintro e w5 ⟨rfl, hB6⟩
            rw [HEa.out, HRB.out, toArray_toList]
            have hM6 := hM5.below hB6
            have HB6 := Lib.hid hB6; clear hB6
            go_wp2_with fail
            refine (read_fn hM6 _ _ _).mono ?_
            rintro e w6 ⟨rfl, hB7⟩
            rw [HE1.out, HQ.out]
            have HB7 := Lib.hid hB7; clear hB7
            go_wp2_with fail
            refine (text_any s HS.out _).mono ?_
            rintro e w' ⟨rfl, rfl⟩
            rw [HGT.out]
            go_wp2
            go_ret
            exact ⟨rfl, keep_below HB.out HB4.out HG5.out HB6.out HB7.out hsz.out⟩
          · have hdab : (a == b) = false := by rw [beq_eq_false_iff_ne]; exact hab
            have hne : b.toNat ≠ a.toNat ∨ ¬ (readE 6 R a o T.data.toList.length = 0) := by
              by_cases hq : readE 6 R a o T.data.toList.length = 0
              · left
                intro e
                have hla : liveB 6 R a = true := by
                  cases hla : liveB 6 R a with
                  | true => rfl
                  | false => unfold readE at hq; rw [hla] at hq; simp at hq
                obtain ⟨j, rfl, _, _⟩ := live_nat hla
                exact hab (by omega)
              · exact .inr hq
            have HW : Hid (writeB 6 R B a o T.data.toList b.toNat = B b.toNat) := by
              unfold Hid writeB
              rcases hne with hne | hne
              · split
                · exact updB_other _ _ hne
                · rfl
              · rw [if_neg hne]
            clear hab hne
            go_wp2_with fail
            refine (text_any s HS.out _).mono ?_
            rintro e w' ⟨rfl, rfl⟩
            rw [HGT.out]
            go_wp2_with fail
            refine (read_fn hM5 _ _ _).mono ?_
            rintro e w5 ⟨rfl, hB6⟩
            rw [HEa.out, HRB.out, toArray_toList]
            have hM6 := hM5.below hB6
            have HB6 := Lib.hid hB6; clear hB6
            go_wp2_with fail
            refine (read_fn hM6 _ _ _).mono ?_
            rintro e w6 ⟨rfl, hB7⟩
            rw [HE1.out, HQ.out, HW.out]
            have HB7 := Lib.hid hB7; clear hB7
            go_wp2_with fail
            refine (text_any s HS.out _).mono ?_
            rintro e w' ⟨rfl, rfl⟩
            rw [HGT.out]
            go_wp2
            go_ret
            exact ⟨rfl, keep_below HB.out HB4.out HG5.out HB6.out HB7.out hsz.out⟩
        · have hne : (readE 6 R a o T.size != 0) = true := by rw [bne_iff_ne]; exact hE
          have d1 : decide (b < 0) = false := by simp; omega
          have d2 : decide (5 < b) = false := by simp; omega
          generalize readE 6 R a o T.size = E at *
          clear hE
          go_wp2
          go_ret
          exact ⟨rfl, keep_below HB.out HB4.out HG5.out (Below.refl _ _) (Below.refl _ _) hsz.out⟩
      · have hE10 : readE 6 R b 0 64 = 10 := by unfold readE; rw [one_dead hb]; simp
        have HE1 := Lib.hid hE10
        clear hE10
        have hc : b < 0 ∨ (0 ≤ b ∧ 5 < b) := by omega
        clear hb
        rcases hc with hc | ⟨hc1, hc2⟩
        all_goals
          go_wp2_with fail
          refine (read_fn hM _ _ _).mono ?_
          rintro e w3 ⟨rfl, hB4⟩
          rw [HE1.out]
          generalize (⟨(readS 6 R B b 0 64).toArray⟩ : ByteArray) = X
          have hM4 := hM.below hB4
          have HB4 := Lib.hid hB4; clear hB4
          go_wp2_with fail
          refine (text_any s HS.out _).mono ?_
          rintro e w' ⟨rfl, rfl⟩
          generalize hgt : textS s = T at *
          have HGT := Lib.hid hgt; clear hgt
          have HTM : Hid (T.size ≤ maxLen) := by unfold Hid maxLen; omega
          go_wp2_with fail
          refine (write_fn hM4 _ _ _ HTM.out).mono ?_
          rintro e w4 ⟨rfl, hM5, hG5⟩
          have HG5 := Lib.hid hG5; clear hG5
          generalize readE 6 R a o T.size = E
          go_wp2
          go_ret
          exact ⟨rfl, keep_below HB.out HB4.out HG5.out (Below.refl _ _) (Below.refl _ _) hsz.out⟩

set_option maxRecDepth 100000 in
theorem keep_lifted (os : Os) (started : os.Started) (H : Type) (enc : TypeId × Value → H) :
    ReturnsInHanded {} Try.checked os 6 .any (Rows.framesKeepSpec.pre6 enc Try.prog Try.f6 Rows.framesKeepRow.domain false) (Rows.framesKeepSpec.post enc Try.prog Try.f6 false true false false) := by
  refine returnsInHanded_of_change (C := Try.checked) own started (by kernel_rfl) Try.func6
    (ChangeSpec.witness6 (enc := enc) (C := Try.checked) false ⟨#[], #[.int .i64 0, .int .i64 0, .int .i64 0, .string ⟨#[]⟩, .string ⟨#[]⟩], []⟩ 8 (by kernel_rfl) (by kernel_rfl) (by kernel_rfl) (by kernel_rfl)) ?_
  intro W base args ds gs before hval0 hW _ _
  have hval : ∀ (j : Nat) t v, Try.f6.params[j]? = some t → args[j]? = some v → Value.okWide Try.prog W .any base t v := hval0
  have hW' := hW
  obtain ⟨p, q, hA0, hV, rfl, hfz, hnd⟩ := hW
  have hA : DataW.TrodAll enc Try.prog W 0 (fun _ => true) true Try.f6.params.toList args.toList ds p := hA0
  rw [Try.params6] at hA hval
  obtain ⟨v0, vs0, d0, ds0, p0, q0, hargs, rfl, rfl, h0, r0⟩ := trodAll_cons hA
  obtain ⟨v1, vs1, d1, ds1, p1, q1, rfl, rfl, rfl, h1, r1⟩ := trodAll_cons r0
  obtain ⟨v2, vs2, d2, ds2, p2, q2, rfl, rfl, rfl, h2, r2⟩ := trodAll_cons r1
  obtain ⟨v3, vs3, d3, ds3, p3, q3, rfl, rfl, rfl, h3, r3⟩ := trodAll_cons r2
  obtain ⟨v4, vs4, d4, ds4, p4, q4, rfl, rfl, rfl, h4, r4⟩ := trodAll_cons r3
  obtain ⟨rfl, rfl, rfl⟩ := trodAll_nil r4
  obtain rfl : args = #[v0, v1, v2, v3, v4] := by cases args; simp_all
  obtain ⟨a0, rfl, -, -, _⟩ := open_int Try.underlying3 (hval 0 3 v0 rfl rfl) h0
  obtain ⟨a1, rfl, -, -, _⟩ := open_int Try.underlying3 (hval 1 3 v1 rfl rfl) h1
  obtain ⟨a2, rfl, -, -, _⟩ := open_int Try.underlying3 (hval 2 3 v2 rfl rfl) h2
  obtain ⟨s, rfl, -, -, hs⟩ := open_string Try.underlying9 (hval 3 9 v3 rfl rfl) h3
  obtain ⟨t, rfl, -, -, ht⟩ := open_string Try.underlying9 (hval 4 9 v4 rfl rfl) h4
  refine (keep_walk a0 a1 a2 s t hs ht W).mono fun e W' ⟨he, bel⟩ => ⟨_, he, ?_⟩
  exact law_post laidOut (of_decide_eq_true (by kernel_rfl)) rfl Try.underlying4 rfl hW' (fun ds' e => by subst e; rfl) bel

theorem framesKeep_holds : Rows.FramesKeepSaid :=
  OpenClaim.holds_of_wide 6 Try.f6 rfl rfl rfl rfl rfl rfl rfl ⟨rfl, rfl, rfl, rfl, rfl⟩ rfl rfl rfl rfl rfl (by kernel_rfl) Try.func6 (by kernel_rfl)
    (of_decide_eq_true (by kernel_rfl)) (by unfold Func.isWrapper; rw [if_neg (by decide +kernel)]; exact ⟨rfl, rfl⟩)
    (fun os started H enc _ => keep_lifted os started H enc)

#print axioms framesKeep_holds
end Go.Proofs.Ytgbgjnhdoedboaa
