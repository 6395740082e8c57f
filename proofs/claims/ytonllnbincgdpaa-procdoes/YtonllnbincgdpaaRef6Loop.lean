/- The document's own table of processes (taffrailref06): Exit, Wake, walked. -/
import Derived.Test.YtonllnbincgdpaaRef6Ops
namespace Go.Proofs.Ytonllnbincgdpaa
open Go.RowKit

/-- whose parent has ended has 1 for a parent. -/
def orpF (k : Int) (q : PV) : PV := if q.par = k then orphV q else q
theorem exL_mid {L : List PV} {g k t : Int} (ho : TOk L g) {i : Nat} {x : PV} (hi : L[i]? = some x) (hx : x.pid = k) (hg : getL L k = some x) (hE : exE L k t = 0) : (L.set i (exV t x)).map (orpF k) = exL L k t := by
  unfold exL
  rw [if_pos hE, atL_some (exL0_get hg)]
  have h0 : exL0 L k = L.map (orpF k) := rfl
  have hf : orpF k (exV t x) = exV t (if x.par = k then orphV x else x) := by
    unfold orpF
    show (if x.par = k then _ else _) = _
    split <;> rfl
  rw [List.map_set, hf, ← h0]
  refine setL_set (ho.orph k) (x := orpF k x) (by rw [h0, List.getElem?_map, hi]; rfl) ?_
  unfold orpF
  split <;> exact hx

section
variable {w : World} {base q : Nat} {L : List PV} {g : Int}

set_option maxRecDepth 100000 in
set_option maxHeartbeats 2000000 in
theorem rexit {r cap : Nat} (h : RT w base q r cap L g) (ho : TOk L g) (k t : Int) : Calls Try.prog 27 #[.pointer (some ⟨q, 0, none⟩), .int .i64 k, .int .i64 t] w fun e w' => e = .returned (.int .i64 (exE L k t)) ∧ RTab w' base q (exL L k t) g ∧ Turn q r w w' := by
  have hn := ho.len
  cases e : getL L k with
  | none =>
    have hE : exE L k t = 60 := by unfold exE runE; rw [e]; rfl
    have hL : exL L k t = L := by unfold exL; rw [hE]; rfl
    rw [hL, hE]
    have HA := Lib.hid (rat_none h hn (getL_none e))
    have HR := Lib.hid h
    clear h e hE hL
    go_enter Try.func27, Try.ntmps27
    go_wp2_with (go_at_call 47; refine HA.out.mono ?_; rintro e w' ⟨rfl, rfl⟩)
    go_ret
    exact ⟨rfl, ⟨_, _, HR.out⟩, Turn.refl _⟩
  | some x =>
    obtain ⟨i, hil, hi, hx, hlo⟩ := getL_idx e
    have HA := Lib.hid (rat_some h hn hil hi hx hlo)
    have c0 := h.c0; have y2 := h.at hi 2 rfl
    by_cases hbad : t < 0 ∨ 255 < t ∨ x.st ≠ 1 ∨ k = 1
    · have hE : exE L k t = 2 := by
        unfold exE runE
        rw [e]
        by_cases hs : x.st = 1
        · have c : k = 1 ∨ t < 0 ∨ t > 255 := by omega
          simp only [hs, if_true, ne_eq, not_true_eq_false, if_false]
          rw [if_pos c]
        · simp [hs]
      have hL : exL L k t = L := by unfold exL; rw [hE]; rfl
      rw [hL, hE]
      have HR := Lib.hid h
      clear h e hlo hi hx hE hL
      obtain ⟨a0, a1, a2, a3, a4, a5, a6, a7⟩ := x
      dsimp only at hbad y2
      by_cases c1 : t < 0
      · clear hbad
        go_enter Try.func27, Try.ntmps27
        go_wp2_with (go_at_call 47; refine HA.out.mono ?_; rintro e w' ⟨rfl, rfl⟩)
        go_ret
        exact ⟨rfl, ⟨_, _, HR.out⟩, Turn.refl _⟩
      · by_cases c2 : 255 < t
        · clear hbad
          go_enter Try.func27, Try.ntmps27
          go_wp2_with (go_at_call 47; refine HA.out.mono ?_; rintro e w' ⟨rfl, rfl⟩)
          go_ret
          exact ⟨rfl, ⟨_, _, HR.out⟩, Turn.refl _⟩
        · by_cases c3 : a2 = 1
          · obtain rfl : k = 1 := by omega
            clear hbad
            subst c3
            go_enter Try.func27, Try.ntmps27
            go_wp2_with (go_at_call 47; refine HA.out.mono ?_; rintro e w' ⟨rfl, rfl⟩)
            go_ret
            exact ⟨rfl, ⟨_, _, HR.out⟩, Turn.refl _⟩
          · have b3 : (a2 == 1) = false := by simpa using c3
            have b3' : (a2 != 1) = true := by simpa using c3
            clear hbad
            go_enter Try.func27, Try.ntmps27
            go_wp2_with (go_at_call 47; refine HA.out.mono ?_; rintro e w' ⟨rfl, rfl⟩)
            go_ret
            exact ⟨rfl, ⟨_, _, HR.out⟩, Turn.refl _⟩
    · have t0 : 0 ≤ t := by omega
      have t1 : t ≤ 255 := by omega
      have hs : x.st = 1 := by omega
      have hk : k ≠ 1 := by omega
      have hE : exE L k t = 0 := by unfold exE runE; rw [e]; simp [hs]; omega
      have HS := Lib.hid (exL_mid ho hi hx e hE)
      rw [hE, ← HS.out]
      have b1 : (k == 1) = false := by simpa using hk
      have h1 := h.set (x' := { x with st := 3 }) hi 2 (u := .int .i64 3) (by decide) rfl
      have h2 := h1.set (x' := exV t x) (set_at hil) 6 (u := .int .i64 t) (by decide) rfl
      have f2 := h.fr (i * 8 + 2)
      have d0 := h1.c0; have z6 := h1.at (set_at hil) 6 rfl; have g6 := h1.fr (i * 8 + 6)
      rw [List.length_set] at d0
      rw [List.set_set] at h2
      have HR := Lib.hid h2
      have hbr := h.br
      have hl1 : (L.set i (exV t x)).length = L.length := List.length_set
      clear h h1 h2 e hlo hi hx hE hbad hk HS
      generalize L.set i (exV t x) = L1 at HR hl1 ⊢
      obtain ⟨a0, a1, a2, a3, a4, a5, a6, a7⟩ := x
      dsimp only at hs y2
      subst hs
      have HL1 := Lib.hid hl1
      clear hl1
      go_enter Try.func27, Try.ntmps27
      go_wp2_with (go_at_call 47; refine HA.out.mono ?_; rintro e w' ⟨rfl, rfl⟩)
      clear c0 y2 f2 d0 z6 g6
      go_loopw [8] (fun y wr => ∃ j : Nat, j ≤ L.length ∧ y = .int .i64 j ∧ RT wr base q r cap (midL (orpF k) L1 j) g ∧ Turn q r w wr) (fun y _ => L.length - (intOf y).toNat)
      case atStart => exact ⟨0, by omega, rfl, by rw [midL_zero]; exact HR.out, ((Turn.refl _).setM _ _).setM _ _⟩
      case round =>
        obtain ⟨j, hj, rfl, hR, hB⟩ := hrel
        have c0 := hR.c0
        rw [midL_len, HL1.out] at c0
        by_cases hjl : j < L.length
        · obtain ⟨y, hy⟩ : ∃ y, L1[j]? = some y := ⟨_, List.getElem?_eq_getElem (by rw [HL1.out]; exact hjl)⟩
          have y1 := hR.at (midL_at hy) 1 rfl
          have HB := Lib.hid hB
          by_cases hp : y.par = k
          · have f1 := hR.fr (j * 8 + 1)
            have h1 := hR.set (x' := orpF k y) (midL_at hy) 1 (u := .int .i64 1) (by decide) (by unfold orpF; rw [if_pos hp]; rfl)
            rw [midL_set hy] at h1
            have H1 := Lib.hid h1
            clear h1 hR hB hy
            rw [hp] at y1
            go_wp2
            go_roundw
            case rel => exact ⟨j + 1, by omega, by go_num, H1.out, HB.out.setM _ _⟩
            case measure => simp [intOf]; omega
          · have bp : (y.par == k) = false := by simpa using hp
            rw [midL_skip hy (by unfold orpF; rw [if_neg hp])] at hR
            have HR1 := Lib.hid hR
            clear hR hB hy hp
            go_wp2
            go_roundw
            case rel => exact ⟨j + 1, by omega, by go_num, HR1.out, HB.out⟩
            case measure => simp [intOf]; omega
        · obtain rfl : j = L.length := by omega
          rw [← HL1.out, midL_all] at hR
          have HR1 := Lib.hid hR; have HB := Lib.hid hB
          clear hR hB
          go_wp2
          go_ret
          exact ⟨rfl, ⟨_, _, HR1.out⟩, HB.out⟩

/-! ### Wake -/
theorem RT.grown {w' : World} {r cap : Nat} {row : Option Nat} (h : RT w base q r cap L g) (hg : w.grownBy w' row) (hrow : ∀ b, row = some b → ∃ cur, w.heap[b]? = some (.cells cur 3 (0, 0))) : RT w' base q r cap L g := by
  refine h.keep (hg.block q h.qlt (fun e => ?_)) (hg.block r h.rlt (fun e => ?_))
  · obtain ⟨cur, hb⟩ := hrow q e.symm
    rw [h.box.blk] at hb; cases hb
  · obtain ⟨cur, hb⟩ := hrow r e.symm
    obtain ⟨c, h1, _⟩ := h.blk
    rw [h1] at hb; cases hb
theorem own_cells {base n : Nat} {v : Value} {xs : List Value} (h : w.ownsRow base 3 1 v n xs) : ∀ b, v.ownBlock = some b → ∃ cur, w.heap[b]? = some (.cells cur 3 (0, 0)) := by
  intro b hb
  rcases h.2 with ⟨rfl, _⟩ | ⟨g', cap, cur, rfl, _, hg, _⟩
  · cases hb
  · simp [Value.ownBlock] at hb; subst hb; exact ⟨cur, hg⟩
theorem RT.row_set {r cap n o base' : Nat} {v u : Value} {xs : List Value} (h : RT w base q r cap L g) (hv : w.ownsRow base' 3 1 v n xs) : (w.setCell ⟨r, o, none⟩ u).ownsRow base' 3 1 v n xs := by
  refine ⟨hv.1, ?_⟩
  rcases hv.2 with hn | ⟨g', cap', cur, rfl, hb, hg, rest⟩
  · exact .inl hn
  · refine .inr ⟨g', cap', cur, rfl, hb, (heap_setCell_other _ _ _ _ ?_).trans hg, rest⟩
    rintro rfl
    obtain ⟨c, h1, _⟩ := h.blk
    rw [h1] at hg; cases hg

/-- who sleeps on a channel is awake. -/
def wakF (s : ByteArray) (q : PV) : PV := if wakB s q then awakeV q else q
theorem wakF_map (s : ByteArray) (L : List PV) : L.map (wakF s) = wakL L s := rfl

set_option maxRecDepth 100000 in
set_option maxHeartbeats 2000000 in
theorem rwake {r cap : Nat} (h : RT w base q r cap L g) (ho : TOk L g) (s : ByteArray) : Calls Try.prog 32 #[.pointer (some ⟨q, 0, none⟩), .string s] w fun e w' => ∃ v, e = .returned v ∧ w'.ownsRow w.heap.size 3 1 v (thoseL (wakB s) L).length ((thoseL (wakB s) L).map Go.encZ) ∧ RTab w' base q (wakL L s) g ∧ Turn q r w w' := by
  have hn := ho.len
  have hbr := h.br
  have HR := Lib.hid h
  obtain ⟨i0, hi0, hz0, hz1, hz2⟩ := info_parts Try.infoInt6
  have HI0 := Lib.hid hi0; have HZ0 := Lib.hid hz0; have HZ1 := Lib.hid hz1; have HZ2 := Lib.hid hz2
  clear h hi0 hz0 hz1 hz2
  go_enter Try.func32, Try.ntmps32
  go_wp2
  go_loopw [5, 6] (fun v y wr => ∃ j : Nat, j ≤ L.length ∧ y = .int .i64 j ∧ wr.ownsRow w.heap.size 3 1 v (thoseL (wakB s) (L.take j)).length ((thoseL (wakB s) (L.take j)).map Go.encZ) ∧ RT wr base q r cap (midL (wakF s) L j) g ∧ Turn q r w wr) (fun _ y _ => L.length - (intOf y).toNat)
  case atStart => exact ⟨0, by omega, rfl, World.ownsRow_nil _ _ _ _, by rw [midL_zero]; exact HR.out, Turn.refl _⟩
  case round =>
    obtain ⟨j, hj, rfl, hV, hR, hB⟩ := hrel
    have c0 := hR.c0
    rw [midL_len] at c0
    have HV := Lib.hid hV; have HB := Lib.hid hB
    by_cases hjl : j < L.length
    · obtain ⟨x, hx⟩ : ∃ x, L[j]? = some x := ⟨_, List.getElem?_eq_getElem hjl⟩
      have y2 := hR.at (midL_at hx) 2 rfl
      have y5 := hR.at (midL_at hx) 5 rfl
      have HSN := Lib.hid (take_snocP hx)
      have hlen16 : (thoseL (wakB s) (L.take j)).length ≤ 16 := Nat.le_trans (thoseL_len _ _) (by simp; omega)
      by_cases h2 : x.st = 2
      · by_cases h5 : x.ch = s
        · have hw : wakB s x = true := by unfold wakB; rw [h2, (Go.MapKept.bytes_beq _ _).2 h5]; rfl
          have HN := Lib.hid (thoseL_yes (L := L.take j) hw)
          have hwf : wakF s x = awakeV x := by unfold wakF; rw [if_pos hw]
          have hm := midL_at (f := wakF s) hx
          have hml : j < (midL (wakF s) L j).length := by rw [midL_len]; exact hjl
          have h1 := hR.set (x' := { x with st := 1 }) hm 2 (u := .int .i64 1) (by decide) rfl
          have h3 := h1.set (x' := awakeV x) (set_at hml) 5 (u := .string ⟨#[]⟩) (by decide) rfl
          have f2 := hR.fr (j * 8 + 2)
          have d0 := h1.c0; have z5 := h1.at (set_at hml) 5 rfl; have g5 := h1.fr (j * 8 + 5)
          have e0 := h3.c0
          have t0 : ((wr.setCell ⟨r, j * 8 + 2, none⟩ (.int .i64 1)).setCell ⟨r, j * 8 + 5, none⟩ (.string ⟨#[]⟩)).cell? ⟨r, j * 8, none⟩ = some (.int .i64 x.pid) := h3.at (set_at (by rw [List.length_set]; exact hml)) 0 rfl
          rw [List.length_set, midL_len] at d0
          rw [List.length_set, List.length_set, midL_len] at e0
          have HV3 := Lib.hid (h1.row_set (o := j * 8 + 5) (u := .string ⟨#[]⟩) (hR.row_set (o := j * 8 + 2) (u := .int .i64 1) hV))
          rw [List.set_set, ← hwf, midL_set hx] at h3
          have HR3 := Lib.hid h3
          have HB3 := Lib.hid ((hB.setM (j * 8 + 2) (.int .i64 1)).setM (j * 8 + 5) (.string ⟨#[]⟩))
          have hbs : w.heap.size ≤ ((wr.setCell ⟨r, j * 8 + 2, none⟩ (.int .i64 1)).setCell ⟨r, j * 8 + 5, none⟩ (.string ⟨#[]⟩)).heap.size := by have := hB.size; simpa using this
          have hsz : ((wr.setCell ⟨r, j * 8 + 2, none⟩ (.int .i64 1)).setCell ⟨r, j * 8 + 5, none⟩ (.string ⟨#[]⟩)).heap.size = wr.heap.size := by simp
          have HBS := Lib.hid hbs; have HSZ := Lib.hid hsz
          clear h1 h3 hR hB hV hx hm hml hwf hw hbs hsz HR
          obtain ⟨a0, a1, a2, a3, a4, a5, a6, a7⟩ := x
          dsimp only at h2 h5 y2 y5 z5 t0 HN
          subst h2; subst h5
          go_wp2_with (at_builtin; refine wpList_append_own _ rfl (.tmp 51) (.tmp 60) 33 rfl w.heap.size 3 i0 (.int .i64 0) 1 8 Try.underlying33 HI0.out HZ0.out HZ1.out HZ2.out rfl (by decide) _ _ _ rfl (HV3.out.alloc _) ⟨wr.heap.size, 0, none⟩ 1 1 [.int .i64 a0] rfl rfl (by have := cell_one_new ((wr.setCell ⟨r, j * 8 + 2, none⟩ (.int .i64 1)).setCell ⟨r, j * 8 + 5, none⟩ (.string ⟨#[]⟩)) (.int .i64 a0) 3; rw [HSZ.out] at this; exact this) (by simp [Value.oneCell']) (by unfold maxLen; omega) (by omega) (by have := HBS.out; rw [HSZ.out] at this; simp; omega) ?_; intro v3 w7 hown3 hgrow3 _; obtain ⟨g3, cap3, rfl⟩ := ownsRow_succ hown3; have HO3 := Lib.hid hown3; have HG3 := Lib.hid hgrow3; clear hown3 hgrow3)
          go_roundw
          case rel =>
            refine ⟨j + 1, by omega, by go_num, ?_, ((HR3.out.below ((Below.refl _ _).alloc (Nat.le_refl _) _)).grown HG3.out (own_cells (HV3.out.alloc _))), ((HB3.out.alloc _).grown HG3.out (fun k e => .inr (HV3.out.lt k e).1))⟩
            rw [HSN.out, HN.out, List.length_append, List.map_append]
            exact HO3.out
          case measure => simp [intOf]; omega
        · have hw : wakB s x = false := by unfold wakB; rw [Bool.eq_false_iff.2 (fun hh => h5 ((Go.MapKept.bytes_beq _ _).1 hh)), Bool.and_false]
          have HN := Lib.hid (thoseL_no (L := L.take j) hw)
          rw [midL_skip hx (by unfold wakF; rw [hw]; rfl)] at hR
          have b5 : (x.ch.toList == s.toList) = false := by rw [← beq_toListBytes]; exact Bool.eq_false_iff.2 (fun hh => h5 ((Go.MapKept.bytes_beq _ _).1 hh))
          have HR1 := Lib.hid hR
          clear hR hV hB hx hw h5 HR
          obtain ⟨a0, a1, a2, a3, a4, a5, a6, a7⟩ := x
          dsimp only at h2 b5 y2 y5 HN
          subst h2
          go_wp2
          go_roundw
          case rel => exact ⟨j + 1, by omega, by go_num, by rw [HSN.out, HN.out]; exact HV.out, HR1.out, HB.out⟩
          case measure => simp [intOf]; omega
      · have hw : wakB s x = false := by unfold wakB; simp [h2]
        have HN := Lib.hid (thoseL_no (L := L.take j) hw)
        rw [midL_skip hx (by unfold wakF; rw [hw]; rfl)] at hR
        have b2 : (x.st == 2) = false := by simpa using h2
        have HR1 := Lib.hid hR
        clear hR hV hB hx hw h2 HR
        obtain ⟨a0, a1, a2, a3, a4, a5, a6, a7⟩ := x
        dsimp only at b2 y2 y5 HN
        go_wp2
        go_roundw
        case rel => exact ⟨j + 1, by omega, by go_num, by rw [HSN.out, HN.out]; exact HV.out, HR1.out, HB.out⟩
        case measure => simp [intOf]; omega
    · obtain rfl : j = L.length := by omega
      rw [midL_all, wakF_map] at hR
      rw [List.take_length] at HV
      have HR1 := Lib.hid hR
      clear hR hV hB
      go_wp2
      go_ret
      exact ⟨_, rfl, HV.out, ⟨_, _, HR1.out⟩, HB.out⟩
end
end Go.Proofs.Ytonllnbincgdpaa
