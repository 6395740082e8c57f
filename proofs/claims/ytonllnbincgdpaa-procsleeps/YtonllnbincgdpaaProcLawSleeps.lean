/- ProcSleeps: for every list of acts and channel the law answers true: who sleeps on a channel runs behind its wake, and no other one. No conditions. -/
import Derived.Test.YtonllnbincgdpaaProcWas
import Derived.ChangeMaps5
namespace Go.Proofs.Ytonllnbincgdpaa
open Go.RowKit Go.ChangeShapes Go.WideShapes Go.ChangeAt
open Go.ChangeMaps (open_string shut_string)

theorem those_at {h : PV → Bool} {L : List PV} {i : Nat} {q : PV} (hq : L[i]? = some q) (hh : h q = true) : (thoseL h L)[(thoseL h (L.take i)).length]? = some q.pid := by
  obtain ⟨hl, rfl⟩ := List.getElem?_eq_some_iff.1 hq
  have e : L = L.take i ++ L[i] :: L.drop (i + 1) := by
    rw [List.getElem_cons_drop hl, List.take_append_drop]
  conv => lhs; arg 1; rw [e]
  unfold thoseL
  rw [List.filter_append, List.map_append, List.getElem?_append_right (Nat.le_refl _), Nat.sub_self, List.filter_cons, if_pos hh]
  rfl
theorem those_wak (s : ByteArray) (L : List PV) : thoseL (wakB s) (wakL L s) = [] := by
  unfold thoseL wakL
  rw [List.map_eq_nil_iff, List.filter_eq_nil_iff]
  intro x hx
  obtain ⟨q, _, rfl⟩ := List.mem_map.1 hx
  by_cases c : wakB s q = true
  · rw [if_pos c]; simp [wakB, awakeV]
  · rw [if_neg c]; exact c
theorem wak_get {L : List PV} {g : Int} (ho : TOk L g) (s : ByteArray) {q : PV} (hq : q ∈ L) : getL (wakL L s) q.pid = some (if wakB s q then awakeV q else q) :=
  getL_mapP ho (fun q => if wakB s q then awakeV q else q) (fun q => by split <;> rfl) hq
theorem bytes_ne {a b : ByteArray} (h : a ≠ b) : (a == b) = false := by
  rw [Bool.eq_false_iff]
  exact fun e => h ((Go.MapKept.bytes_beq a b).1 e)
theorem wakB_yes {s : ByteArray} {q : PV} (h2 : q.st = 2) (h5 : q.ch = s) : wakB s q = true := by unfold wakB; rw [h2, (Go.MapKept.bytes_beq _ _).2 h5]; rfl
theorem wakB_st {s : ByteArray} {q : PV} (h2 : q.st ≠ 2) : wakB s q = false := by unfold wakB; simp [h2]
theorem wakB_ch {s : ByteArray} {q : PV} (h5 : q.ch ≠ s) : wakB s q = false := by unfold wakB; rw [bytes_ne h5, Bool.and_false]

set_option maxRecDepth 100000 in
set_option maxHeartbeats 4000000 in
theorem sleeps_walk (a : Option Addr) (len cap : Nat) (s : ByteArray) (w : World) (hA : ActsAt w a len) (hs : s.size ≤ maxLen) :
    Calls Try.prog 7 #[.slice a len cap, .string s] w fun e w' => e = .returned (.bool true) ∧ Below w.heap.size w w' := by
  obtain ⟨hlen, hcell⟩ := hA
  have HC := Lib.hid hcell; clear hcell
  have HS := Lib.hid hs; clear hs
  unfold maxLen at hlen
  go_enter Try.func7, Try.ntmps7
  go_wp2_with (first
    | (go_at_call 10; refine (shown6_any _).mono ?_; rintro e w0 ⟨rfl, hB0⟩; have HB0 := Lib.hid hB0; clear hB0)
    | (go_at_call 11; refine (new_any _).mono ?_; rintro e w1 ⟨p, m, rfl, h1, hp, hm, hB⟩; have H1 := Lib.hid h1; have HB1 := Lib.hid (HB0.out.trans (hB.mono HB0.out.size)); have hp' : w.heap.size ≤ p := Nat.le_trans HB0.out.size hp; have hm' : w.heap.size ≤ m := Nat.le_trans HB0.out.size hm; clear h1 hB))
  go_loopw [7] (fun i wr => ∃ j : Nat, j ≤ len ∧ j ≤ 80 ∧ i = .int .i64 j ∧ ∃ L g, TabAt wr p m L g ∧ PInv L ∧ Below w.heap.size w wr) (fun i _ => len - (intOf i).toNat)
  case atStart => exact ⟨0, by omega, by omega, rfl, [first1], 1, H1.out, pinv_first, HB1.out⟩
  case round =>
    obtain ⟨j, hj, hj80, rfl, L, g, hT, hI, hB⟩ := hrel
    by_cases hlt : j < len ∧ j < 80
    · obtain ⟨hl1, hl2⟩ := hlt
      obtain ⟨b, off, rfl, hb, hc⟩ := HC.out (by omega)
      obtain ⟨d, k, t, u, v, s', hA⟩ := hc j hl1
      obtain ⟨c0, c1, c2, c3, c4, c5, hs⟩ := hA.below hB hb
      have HI := Lib.hid (hI.step hT.ok ((IntKind.u64.wrap d).tmod 8) k t u v s')
      have HB := Lib.hid hB
      have HD := Lib.hid (done_any hT d k t u v s' hs)
      clear hA hs hT hI hB hc H1 HB0
      generalize stL ((IntKind.u64.wrap d).tmod 8) k t u v s' L g = L' at HD HI
      generalize stN ((IntKind.u64.wrap d).tmod 8) k L g = n' at HD
      generalize stG ((IntKind.u64.wrap d).tmod 8) k L g = g' at HD
      go_wp2_with (go_at_call 23; refine HD.out.mono ?_; rintro e w2 ⟨rfl, h2, t2⟩; have HT2 := Lib.hid h2; have HB2 := Lib.hid (t2.below HB.out hp' hm' HB.out.size); clear h2 t2)
      go_roundw
      case rel => exact ⟨j + 1, by omega, by omega, by go_num, L', g', HT2.out, HI.out, HB2.out⟩
      case measure => simp [intOf]; omega
    · have hn0 : 0 < L.length := hI.pos
      have hn16 := hT.ok.len
      have HT := Lib.hid hT; have HB := Lib.hid hB
      clear hT hI hB HC H1 HB0 HB1
      rcases (show ¬ j < len ∨ (j < len ∧ ¬ j < 80) by omega) with c | ⟨c, c2⟩
      all_goals
        go_wp2_with (go_at_call 14; refine (pids_any HT.out).mono ?_; rintro e w2 ⟨vv, rfl, h3, b3⟩; obtain ⟨r, rc, rfl⟩ := h3.open (by simpa using hn0); rw [List.length_map] at h3 ⊢; have HP := Lib.hid h3; have HT2 := Lib.hid (HT.out.below' b3); have HB2 := Lib.hid (HB.out.trans (b3.mono HB.out.size)); clear h3 b3)
        obtain ⟨i0, hi0, hz0, hz1, hz2⟩ := info_parts Try.infoProc
        have HI0 := Lib.hid hi0; have HZ0 := Lib.hid hz0; have HZ1 := Lib.hid hz1; have HZ2 := Lib.hid hz2
        clear hi0 hz0 hz1 hz2
        go_loopw [9, 10] (fun vw x wi => ∃ i : Nat, i ≤ L.length ∧ x = .int .i64 i ∧ WasAt wi w2.heap.size vw (L.take i) ∧ Below w2.heap.size w2 wi) (fun _ x _ => L.length - (intOf x).toNat)
        case atStart => exact ⟨0, by omega, rfl, WasAt.nil _ _, Below.refl _ _⟩
        case round =>
          obtain ⟨i, hi, rfl, hWi, hBi⟩ := hrel
          by_cases hil : i < L.length
          · obtain ⟨q, hq⟩ : ∃ q, L[i]? = some q := ⟨_, List.getElem?_eq_getElem hil⟩
            have hX : (L.map (·.pid))[i]? = some q.pid := by simp [hq]
            have hcy := (HP.out.below hBi).cell_at hX
            have hG := get_in (HT2.out.below' hBi) (List.mem_of_getElem? hq)
            have HE := Lib.hid (take_snocP hq)
            have HWi := Lib.hid hWi; have HBi := Lib.hid hBi
            have hlt0 : (L.take i).length = i := by simp; omega
            have HL0 := Lib.hid hlt0
            clear hWi hBi hq hX hlt0
            obtain ⟨a0, a1, a2, a3, a4, a5, a6, a7⟩ := q
            dsimp only at hcy hG
            have HG := Lib.hid hG; clear hG
            go_wp2_with (first
              | (go_at_call 15; refine HG.out.mono ?_; rintro e w4 ⟨rfl, b4⟩; unfold PV.val PV.cells; dsimp only; have b5 := b4.alloc b4.size (.cells #[.int .i64 a0, .int .i64 a1, .int .i64 a2, .int .i64 a3, .int .i64 a4, .string a5, .int .i64 a6, .bool a7] 39); have HW5 := Lib.hid (HWi.out.below b5); have HB5 := Lib.hid (HBi.out.trans (b5.mono HBi.out.size)); clear b4 b5)
              | (at_builtin; refine wpList_append_own _ rfl (.tmp 53) (.tmp 55) 35 rfl w2.heap.size 39 i0 PV.zero.val 8 72 Try.underlying35 HI0.out HZ0.out HZ1.out HZ2.out rfl (by decide) _ (L.take i).length (flatL (L.take i)) rfl (World.ownsRow.alloc HW5.out _) ⟨w4.heap.size + 1, 0, none⟩ 1 1 (PV.cells ⟨a0, a1, a2, a3, a4, a5, a6, a7⟩).toList rfl rfl (by have := cell_eight_new (w4.alloc (.cells #[.int .i64 a0, .int .i64 a1, .int .i64 a2, .int .i64 a3, .int .i64 a4, .string a5, .int .i64 a6, .bool a7] 39)) ⟨a0, a1, a2, a3, a4, a5, a6, a7⟩ 39; rw [World.size_alloc] at this; exact this) (by simp [Value.oneCell', PV.cells]) (by rw [HL0.out]; unfold maxLen; omega) (by rw [HL0.out]; omega) (by have := HB5.out.size; simp at this ⊢; omega) ?_; intro v3 w7 hown3 hgrow3 _; obtain ⟨g3, cap3, rfl⟩ := ownsRow_succ hown3; have HO3 := Lib.hid hown3; have HG3 := Lib.hid hgrow3; clear hown3 hgrow3))
            go_roundw
            case rel =>
              refine ⟨i + 1, by omega, by go_num, ?_, ((HB5.out.alloc HB5.out.size _).grown HG3.out (by have := HB5.out.size; simp at this ⊢; omega) (fun k e => (HW5.out.row_lt k e).1))⟩
              have h3 := HO3.out
              rw [HL0.out] at h3
              unfold WasAt
              rw [HE.out, flatL_append, flatL_one, List.length_append, HL0.out]
              exact h3
            case measure => simp [intOf]; omega
          · obtain rfl : i = L.length := by omega
            rw [List.take_length] at hWi
            obtain ⟨r2, cap2, rfl, hr2, -⟩ := hWi.open hn0
            have hps := HT2.out.p_lt; have hms := HT2.out.m_lt
            have HWi := Lib.hid hWi
            have HBw := Lib.hid (HB2.out.trans (hBi.mono HB2.out.size))
            have HTi := Lib.hid (HT2.out.below' hBi)
            have hbs := hBi.size
            clear hWi hBi
            go_wp2_with (first
              | (go_at_call 24; refine (text_any s HS.out _).mono ?_; rintro e w' ⟨rfl, rfl⟩)
              | (go_at_call 22; refine (wake_any HTi.out (textS s)).mono ?_; rintro e w3 ⟨vw, rfl, hv, h3, t3⟩; have HT3 := Lib.hid h3; have HW3 := Lib.hid (HWi.out.turn t3 hps hms); have HB3 := Lib.hid (t3.below HBw.out hp' hm' HBw.out.size); obtain ⟨a3, cap3, rfl, hv'⟩ := hv; have HV3 : Hid (SlG w3 wr.heap.size (.slice a3 (thoseL (wakB (textS s)) L).length cap3) (thoseL (wakB (textS s)) L)) := ⟨a3, cap3, rfl, hv'⟩; clear h3 t3 hv'))
            have hK16 : (thoseL (wakB (textS s)) L).length ≤ 16 := Nat.le_trans (thoseL_len _ _) hn16
            obtain ⟨xs, hxs⟩ : ∃ xs, xs = thoseL (wakB (textS s)) L := ⟨_, rfl⟩
            rw [← hxs] at HV3 hK16 ⊢
            have HXS := Lib.hid hxs
            clear hxs
            go_loopw [14, 15] (fun y x wz => ∃ i : Nat, i ≤ L.length ∧ x = .int .i64 i ∧ y = .int .i64 (thoseL (wakB (textS s)) (L.take i)).length ∧ TabAt wz p m (wakL L (textS s)) g ∧ WasAt wz w2.heap.size (.slice (some ⟨r2, 0, none⟩) L.length cap2) L ∧ SlG wz wr.heap.size (.slice a3 xs.length cap3) xs ∧ Below w.heap.size w wz) (fun _ x _ => L.length - (intOf x).toNat)
            case atStart => exact ⟨0, by omega, rfl, rfl, HT3.out, HW3.out, HV3.out, HB3.out⟩
            case round =>
              obtain ⟨i, hi, rfl, rfl, hTz, hWz, hVz, hBz⟩ := hrel
              have HTz := Lib.hid hTz; have HWz := Lib.hid hWz; have HVz := Lib.hid hVz; have HBz := Lib.hid hBz
              by_cases hil : i < L.length
              · obtain ⟨q, hq⟩ : ∃ q, L[i]? = some q := ⟨_, List.getElem?_eq_getElem hil⟩
                have y0 := hWz.cell0 hq
                have HQ := Lib.hid hq
                have HSN := Lib.hid (take_snocP hq)
                have hG := wak_get HT2.out.ok (textS s) (List.mem_of_getElem? hq)
                have hyn : (thoseL (wakB (textS s)) (L.take i)).length ≤ 16 := Nat.le_trans (thoseL_len _ _) (by simp; omega)
                clear hTz hWz hVz hBz
                by_cases h2 : q.st = 2
                · by_cases h5 : q.ch = textS s
                  · have hw := wakB_yes h2 h5
                    have hat := those_at hq hw
                    rw [← HXS.out] at hat
                    have HN := Lib.hid (thoseL_yes (L := L.take i) hw)
                    rw [hw, if_pos rfl] at hG
                    have HG := Lib.hid (get_at HTz.out hG)
                    have hkl : (thoseL (wakB (textS s)) (L.take i)).length < xs.length := (List.getElem?_eq_some_iff.1 hat).1
                    clear hG hq hw
                    generalize hN : (thoseL (wakB (textS s)) (L.take i)).length = N at *
                    have HNN := Lib.hid hN
                    clear hN
                    obtain ⟨r3, cap', e3⟩ := HVz.out.open (by omega)
                    have e3' : a3 = some ⟨r3, 0, none⟩ := by cases e3; rfl
                    subst e3'
                    clear e3
                    have HAT := Lib.hid hat
                    obtain ⟨a0, a1, a2, a3, a4, a5, a6, a7⟩ := q
                    unfold awakeV at HG
                    dsimp only at y0 h2 h5 HG HAT HN
                    subst h2; subst h5
                    clear hat
                    go_wp2_with (go_at_call 15; refine HG.out.mono ?_; rintro e w4 ⟨rfl, b4⟩; unfold PV.val PV.cells; dsimp only; have b5 := b4.alloc b4.size (.cells #[.int .i64 a0, .int .i64 a1, .int .i64 1, .int .i64 a3, .int .i64 a4, .string ⟨#[]⟩, .int .i64 a6, .bool a7] 39); have HT5 := Lib.hid (HTz.out.below' b5); have HW5 := Lib.hid (HWz.out.below b5); have HV5 := Lib.hid (HVz.out.below b5); have HB5 := Lib.hid (HBz.out.trans (b5.mono HBz.out.size)); have x2 := HW5.out.cell HQ.out 2 rfl; have x5 := HW5.out.cell HQ.out 5 rfl; have z0 := HV5.out.cell_at HAT.out; clear b4 b5)
                    go_quiet ((go_at_call 24; exact Calls.quiet_of_same ((text_any s HS.out _).mono fun _ _ h => ⟨h.1, h.2.symm⟩)))
                    go_wp2
                    go_quiet (fail)
                    go_wp2
                    go_roundw
                    case rel => exact ⟨i + 1, by omega, by go_num, by rw [HSN.out, HN.out, List.length_append, HNN.out]; go_num, HT5.out.keep rfl rfl, HW5.out.below (below_drewN' (Below.refl _ _)), HV5.out.below (below_drewN' (Below.refl _ _)), below_drewN' HB5.out⟩
                    case measure => simp [intOf]; omega
                  · have hw := wakB_ch h5
                    have hb5 : (q.ch.toList == (textS s).toList) = false := by rw [← beq_toListBytes]; exact bytes_ne h5
                    have HN := Lib.hid (thoseL_no (L := L.take i) hw)
                    rw [hw, if_neg (by decide)] at hG
                    have HG := Lib.hid (get_at HTz.out hG)
                    clear hG hq hw h5
                    obtain ⟨a0, a1, a2, a3', a4, a5, a6, a7⟩ := q
                    dsimp only at y0 h2 hb5 HG HN
                    subst h2
                    have hzz := neq_proc ⟨a0, a1, 2, a3', a4, a5, a6, a7⟩
                    unfold PV.cells at hzz
                    dsimp only at hzz
                    go_wp2_with (go_at_call 15; refine HG.out.mono ?_; rintro e w4 ⟨rfl, b4⟩; unfold PV.val PV.cells; dsimp only; have b5 := b4.alloc b4.size (.cells #[.int .i64 a0, .int .i64 a1, .int .i64 2, .int .i64 a3', .int .i64 a4, .string a5, .int .i64 a6, .bool a7] 39); have HT5 := Lib.hid (HTz.out.below' b5); have HW5 := Lib.hid (HWz.out.below b5); have HV5 := Lib.hid (HVz.out.below b5); have HB5 := Lib.hid (HBz.out.trans (b5.mono HBz.out.size)); have x2 := HW5.out.cell HQ.out 2 rfl; have x5 := HW5.out.cell HQ.out 5 rfl; have x0 := HW5.out.cell0 HQ.out; have x1 := HW5.out.cell HQ.out 1 rfl; have x3 := HW5.out.cell HQ.out 3 rfl; have x4 := HW5.out.cell HQ.out 4 rfl; have x6 := HW5.out.cell HQ.out 6 rfl; have x7 := HW5.out.cell HQ.out 7 rfl; clear b4 b5)
                    go_quiet ((go_at_call 24; exact Calls.quiet_of_same ((text_any s HS.out _).mono fun _ _ h => ⟨h.1, h.2.symm⟩)))
                    go_wp2
                    go_quiet (fail)
                    go_wp2
                    go_roundw
                    case rel => exact ⟨i + 1, by omega, by go_num, by rw [HSN.out, HN.out], HT5.out.keep rfl rfl, HW5.out.below (below_drewN' (Below.refl _ _)), HV5.out.below (below_drewN' (Below.refl _ _)), below_drewN' HB5.out⟩
                    case measure => simp [intOf]; omega
                · have hw := wakB_st (s := textS s) h2
                  have hb2 : (q.st == 2) = false := by simpa using h2
                  have HN := Lib.hid (thoseL_no (L := L.take i) hw)
                  rw [hw, if_neg (by decide)] at hG
                  have HG := Lib.hid (get_at HTz.out hG)
                  clear hG hq hw h2
                  obtain ⟨a0, a1, a2, a3', a4, a5, a6, a7⟩ := q
                  dsimp only at y0 hb2 HG HN
                  have hzz := neq_proc ⟨a0, a1, a2, a3', a4, a5, a6, a7⟩
                  unfold PV.cells at hzz
                  dsimp only at hzz
                  go_wp2_with (go_at_call 15; refine HG.out.mono ?_; rintro e w4 ⟨rfl, b4⟩; unfold PV.val PV.cells; dsimp only; have b5 := b4.alloc b4.size (.cells #[.int .i64 a0, .int .i64 a1, .int .i64 a2, .int .i64 a3', .int .i64 a4, .string a5, .int .i64 a6, .bool a7] 39); have HT5 := Lib.hid (HTz.out.below' b5); have HW5 := Lib.hid (HWz.out.below b5); have HV5 := Lib.hid (HVz.out.below b5); have HB5 := Lib.hid (HBz.out.trans (b5.mono HBz.out.size)); have x2 := HW5.out.cell HQ.out 2 rfl; have x5 := HW5.out.cell HQ.out 5 rfl; have x0 := HW5.out.cell0 HQ.out; have x1 := HW5.out.cell HQ.out 1 rfl; have x3 := HW5.out.cell HQ.out 3 rfl; have x4 := HW5.out.cell HQ.out 4 rfl; have x6 := HW5.out.cell HQ.out 6 rfl; have x7 := HW5.out.cell HQ.out 7 rfl; clear b4 b5)
                  go_quiet (fail)
                  go_wp2
                  go_quiet (fail)
                  go_wp2
                  go_roundw
                  case rel => exact ⟨i + 1, by omega, by go_num, by rw [HSN.out, HN.out], HT5.out.keep rfl rfl, HW5.out.below (below_drewN' (Below.refl _ _)), HV5.out.below (below_drewN' (Below.refl _ _)), below_drewN' HB5.out⟩
                  case measure => simp [intOf]; omega
              · obtain rfl : i = L.length := by omega
                rw [List.take_length, ← HXS.out]
                clear hTz hWz hVz hBz
                have hWk := wake_any HTz.out (textS s)
                rw [those_wak] at hWk
                have HWk := Lib.hid hWk
                clear hWk
                go_wp2_with (first
                  | (go_at_call 24; refine (text_any s HS.out _).mono ?_; rintro e w' ⟨rfl, rfl⟩)
                  | (go_at_call 22; refine HWk.out.mono ?_; rintro e w5 ⟨vw, rfl, hv, h3, t3⟩; have HB5 := Lib.hid (t3.below HBz.out hp' hm' HBz.out.size); obtain ⟨a5, cap5, rfl, -⟩ := hv; clear h3 t3))
                go_ret
                exact ⟨rfl, HB5.out⟩

set_option maxRecDepth 100000 in
theorem sleeps_lifted (os : Os) (started : os.Started) (H : Type) (enc : TypeId × Value → H) :
    ReturnsInHanded {} Try.checked os 7 .any (Rows.procSleepsSpec.pre6 enc Try.prog Try.f7 Rows.procSleepsRow.domain false) (Rows.procSleepsSpec.post enc Try.prog Try.f7 false true false false) := by
  refine returnsInHanded_of_change (C := Try.checked) own started (by kernel_rfl) Try.func7
    (ChangeSpec.witness6 (enc := enc) (C := Try.checked) false ⟨#[], #[.slice none 0 0, .string ⟨#[]⟩], []⟩ 8 (by kernel_rfl) (by kernel_rfl) (by kernel_rfl) (by kernel_rfl)) ?_
  intro W base args ds gs before hval0 hW _ _
  have hval : ∀ (j : Nat) t v, Try.f7.params[j]? = some t → args[j]? = some v → Value.okWide Try.prog W .any base t v := hval0
  have hW' := hW
  obtain ⟨p, q, hA0, hV, rfl, hfz, hnd⟩ := hW
  have hA : DataW.TrodAll enc Try.prog W 0 (fun _ => true) true Try.f7.params.toList args.toList ds p := hA0
  rw [Try.params7] at hA hval
  obtain ⟨v0, vs0, d0, ds0, p0, q0, hargs, rfl, rfl, h0, r0⟩ := trodAll_cons hA
  obtain ⟨v1, vs1, d1, ds1, p1, q1, rfl, rfl, rfl, h1, r1⟩ := trodAll_cons r0
  obtain ⟨rfl, rfl, rfl⟩ := trodAll_nil r1
  obtain rfl : args = #[v0, v1] := by cases args; simp_all
  obtain ⟨a0, len0, cap0, rfl, hacts0⟩ := open_acts6 (hval 0 22 v0 rfl rfl) h0
  obtain ⟨s1, rfl, -, -, hs1⟩ := open_string Try.underlying9 (hval 1 9 v1 rfl rfl) h1
  have hwalk : Calls Try.prog 7 #[.slice a0 len0 cap0, .string s1] W fun e w' => e = .returned (.bool true) ∧ Below W.heap.size W w' := sleeps_walk _ _ _ _ W hacts0 hs1
  refine hwalk.mono fun e W' ⟨he, bel⟩ => ⟨_, he, ?_⟩
  exact law_post laidOut (of_decide_eq_true (by kernel_rfl)) rfl Try.underlying4 rfl hW' (fun ds' e => by subst e; rfl) bel

theorem procSleeps_holds : Rows.ProcSleepsSaid :=
  OpenClaim.holds_of_wide 7 Try.f7 rfl rfl rfl rfl rfl rfl rfl ⟨rfl, rfl, rfl, rfl, rfl⟩ rfl rfl rfl rfl rfl (by kernel_rfl) Try.func7 (by kernel_rfl)
    (of_decide_eq_true (by kernel_rfl)) (by unfold Func.isWrapper; rw [if_neg (by decide +kernel)]; exact ⟨rfl, rfl⟩)
    (fun os started H enc _ => sleeps_lifted os started H enc)

#print axioms procSleeps_holds
end Go.Proofs.Ytonllnbincgdpaa
