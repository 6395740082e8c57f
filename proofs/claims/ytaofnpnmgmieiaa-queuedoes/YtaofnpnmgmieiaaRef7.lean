/- The document's own queue of layer 7 (a list of numbers): Push, Pop, Drop, walked. -/
import Derived.Test.YtaofnpnmgmieiaaQuPure2
import Derived.Deep.AppendLies
import Derived.Deep.RegionHeld3
namespace Go.Proofs.Ytaofnpnmgmieiaa
open Go.RowKit Go.Lib

theorem run_append_empty {P : Program} (w : World) (t ty e : TypeId) (i : TypeInfo) (ht : P.underlying t = some (.slice e)) (hi : P.info? e = some i) (a : Option Addr) (c : Nat) :
    (Builtin.append_ #[t, t] ty #[.slice none 0 0, .slice a 0 c]).run P w = .ok (.slice none 0 0) w := by
  cases a <;> simp [Builtin.append_, run_underlying ht, sizeOf, typeInfo, hi, Builtin.lenOf, Builtin.firstCells, loadCells, loadCellsFrom]

theorem news_of {w : World} {r o : Nat} {L : List Int} (h : ∀ j x, L[j]? = some x → w.cell? ⟨r, o + j, none⟩ = some (.int .i64 x)) : ∀ j u, (L.map encI)[j]? = some u → w.cell? ((⟨r, o, none⟩ : Addr).add j) = some u := by
  intro j u hu
  rw [List.getElem?_map] at hu
  obtain ⟨x, hx, rfl⟩ := Option.map_eq_some_iff.1 hu
  rw [Addr.add_mid]
  exact h j x hx
theorem one_of (L : List Int) : ∀ u ∈ L.map encI, u.oneCell' = true := by intro u hu; obtain ⟨x, _, rfl⟩ := List.mem_map.1 hu; rfl

/-- a list of the document's own: its room is not less than its length. -/
structure RL (w : World) (lo : Nat) (v : Value) (L : List Int) : Prop where
  ls : LsI w lo v L
  cap : ∃ a cap, v = .slice a L.length cap ∧ L.length ≤ cap
theorem RL.own {w : World} {base n : Nat} {v : Value} {L : List Int} (h : w.ownsRow base 3 1 v n (L.map encI)) (hn : n = L.length) : RL w base v L := by
  refine ⟨LsI.own h hn, ?_⟩
  subst hn
  rcases h.2 with ⟨rfl, h0⟩ | ⟨g, cap, cur, rfl, hb, hg, h1, h2, h3, h4⟩
  · exact ⟨none, 0, by rw [h0], by omega⟩
  · exact ⟨_, cap, rfl, h1⟩
theorem RL.mono {w : World} {lo lo' : Nat} {v : Value} {L : List Int} (h : RL w lo v L) (hl : lo' ≤ lo) : RL w lo' v L := ⟨h.ls.mono hl, h.cap⟩
theorem RL.below {w w' : World} {lo : Nat} {v : Value} {L : List Int} (h : RL w lo v L) (hb : Below w.heap.size w w') : RL w' lo v L := ⟨h.ls.below hb, h.cap⟩
theorem RL.tur {w w' : World} {lo q : Nat} {v : Value} {L : List Int} (h : RL w lo v L) (hb : Tur q w w') (hq : q < lo) : RL w' lo v L := ⟨h.ls.tur hb hq, h.cap⟩
theorem RL.nil (w : World) (lo : Nat) : RL w lo (.slice none 0 0) [] := ⟨LsI.nil w lo, none, 0, rfl, Nat.le_refl _⟩
theorem RL.open {w : World} {lo : Nat} {v : Value} {L : List Int} (h : RL w lo v L) : ∃ a cap, v = .slice a L.length cap ∧ L.length ≤ cap ∧ (0 < L.length → ∃ r o, a = some ⟨r, o, none⟩ ∧ lo ≤ r ∧ r < w.heap.size ∧ ∀ j x, L[j]? = some x → w.cell? ⟨r, o + j, none⟩ = some (.int .i64 x)) := by
  obtain ⟨a, cap, rfl, hl⟩ := h.cap
  obtain ⟨_, _, e, hc⟩ := h.ls
  cases e
  exact ⟨a, cap, rfl, hl, hc⟩

section
variable {w : World} {lo : Nat} {v : Value} {L : List Int}

set_option maxRecDepth 100000 in
set_option maxHeartbeats 2000000 in
theorem rpush_yes (h : RL w lo v L) (hlo : lo ≤ w.heap.size) (hl : L.length < 64) (x : Int) : Calls Try.prog 12 #[v, .int .i64 x] w fun e w' => ∃ v', e = .returned (.tuple #[v', .int .i64 0]) ∧ RL w' lo v' (L ++ [x]) ∧ Below w.heap.size w w' := by
  obtain ⟨i0, hi, hz0, hz1, hz2⟩ := info_parts Try.infoInt7
  have HI := Lib.hid hi; have HZ0 := Lib.hid hz0; have HZ1 := Lib.hid hz1; have HZ2 := Lib.hid hz2
  clear hi hz0 hz1 hz2
  obtain ⟨a, cap, rfl, hcap, hc⟩ := h.open
  have hge : ¬ (64 ≤ (L.length : Int)) := by omega
  by_cases h0 : 0 < L.length
  · obtain ⟨r, o, rfl, h1, h2, h3⟩ := hc h0
    have HC := Lib.hid h3
    clear hc h3
    go_enter Try.func12, Try.ntmps12
    go_wp2_with (first
      | (at_builtin; refine wpList_append_own _ rfl (.tmp 11) (.tmp 12) 26 rfl w.heap.size 3 i0 (.int .i64 0) 1 8 Try.underlying26 HI.out HZ0.out HZ1.out HZ2.out rfl (by decide) (.slice none 0 0) 0 [] rfl (World.ownsRow_nil _ _ _ _) ⟨r, o, none⟩ L.length cap (L.map encI) rfl (by simp) (news_of HC.out) (one_of _) (by unfold maxLen; omega) (by omega) (Nat.le_refl _) ?_; intro v1 w1 hown1 hgrow1 _; have HO1 := Lib.hid hown1; have HG1 := Lib.hid ((Below.refl w.heap.size w).grown hgrow1 (Nat.le_refl _) (fun b e => by cases e)); clear hown1 hgrow1)
      | (at_builtin; refine wpList_append_own _ rfl (.tmp 14) (.tmp 16) 26 rfl w.heap.size 3 i0 (.int .i64 0) 1 8 Try.underlying26 HI.out HZ0.out HZ1.out HZ2.out rfl (by decide) v1 (0 + L.length) ([] ++ L.map encI) rfl (HO1.out.alloc _) ⟨w1.heap.size, 0, none⟩ 1 1 [.int .i64 x] rfl rfl (cell_one_new _ _ _) (by simp [Value.oneCell']) (by unfold maxLen; omega) (by omega) (by have := HG1.out.size; simp; omega) ?_; intro v2 w2 hown2 hgrow2 _; have HO2 := Lib.hid hown2; have HG2 := Lib.hid ((HG1.out.alloc HG1.out.size _).grown hgrow2 (by have := HG1.out.size; simp; omega) (fun b e => HO1.out.lt b e |>.1)); clear hown2 hgrow2))
    go_ret2
    exact ⟨v2, rfl, (RL.own (L := L ++ [x]) (n := 0 + L.length + 1) (by rw [List.map_append]; exact HO2.out) (by simp)).mono hlo, HG2.out⟩
  · have hL : L = [] := List.eq_nil_of_length_eq_zero (by omega)
    subst hL
    go_enter Try.func12, Try.ntmps12
    go_wp2_with (first
      | (at_builtin; refine wpList_append_run _ rfl (.tmp 11) (.tmp 12) _ _ rfl _ _ rfl rfl _ _ (run_append_empty _ 26 _ 3 i0 Try.underlying26 HI.out _ _) ?_)
      | (at_builtin; refine wpList_append_own _ rfl (.tmp 14) (.tmp 16) 26 rfl w.heap.size 3 i0 (.int .i64 0) 1 8 Try.underlying26 HI.out HZ0.out HZ1.out HZ2.out rfl (by decide) (.slice none 0 0) 0 [] rfl (World.ownsRow_nil _ _ _ _) ⟨w.heap.size, 0, none⟩ 1 1 [.int .i64 x] rfl rfl (cell_one_new _ _ _) (by simp [Value.oneCell']) (by unfold maxLen; omega) (by omega) (by simp) ?_; intro v2 w2 hown2 hgrow2 _; have HO2 := Lib.hid hown2; have HG2 := Lib.hid (((Below.refl w.heap.size w).alloc (Nat.le_refl _) _).grown hgrow2 (by simp) (fun b e => by cases e)); clear hown2 hgrow2))
    go_ret2
    exact ⟨v2, rfl, (RL.own (L := [] ++ [x]) (n := 0 + 1) HO2.out (by simp)).mono hlo, HG2.out⟩

set_option maxRecDepth 100000 in
set_option maxHeartbeats 1000000 in
theorem rpush_no (h : RL w lo v L) (hl : ¬ L.length < 64) (x : Int) : Calls Try.prog 12 #[v, .int .i64 x] w fun e w' => ∃ v', e = .returned (.tuple #[v', .int .i64 71]) ∧ RL w' lo v' L ∧ Below w.heap.size w w' := by
  have HH := Lib.hid h
  obtain ⟨a, cap, rfl, hcap, hc⟩ := h.open
  have hge : 64 ≤ (L.length : Int) := by omega
  go_enter Try.func12, Try.ntmps12
  go_wp2
  go_ret2
  exact ⟨_, rfl, HH.out, Below.refl _ _⟩

theorem rpush (h : RL w lo v L) (hlo : lo ≤ w.heap.size) (x : Int) : Calls Try.prog 12 #[v, .int .i64 x] w fun e w' => ∃ v', e = .returned (.tuple #[v', .int .i64 (pushE L)]) ∧ RL w' lo v' (pushL L x) ∧ Below w.heap.size w w' := by
  unfold pushE pushL
  by_cases hl : L.length < 64
  · rw [if_pos hl, if_pos hl]; exact rpush_yes h hlo hl x
  · rw [if_neg hl, if_neg hl]; exact rpush_no h hl x

set_option maxRecDepth 100000 in
set_option maxHeartbeats 1000000 in
theorem rpop_no (h : RL w lo v []) : Calls Try.prog 14 #[v] w fun e w' => ∃ v', e = .returned (.tuple #[v', .int .i64 0, .int .i64 70]) ∧ RL w' lo v' [] ∧ Below w.heap.size w w' := by
  have HH := Lib.hid h
  obtain ⟨a, cap, rfl, hcap, hc⟩ := h.open
  clear hc hcap h
  simp only [List.length_nil] at *
  go_enter Try.func14, Try.ntmps14
  go_wp2
  exact bodyPost_ret (v := .tuple #[.slice a 0 cap, .int .i64 0, .int .i64 70]) (by simp [results, Try.results14, go_sem]) rfl ⟨_, rfl, HH.out, Below.refl _ _⟩

set_option maxRecDepth 100000 in
set_option maxHeartbeats 4000000 in
theorem rpop_yes {x : Int} (h : RL w lo v (x :: L)) (hlo : lo ≤ w.heap.size) (hl : L.length < 64) : Calls Try.prog 14 #[v] w fun e w' => ∃ v', e = .returned (.tuple #[v', .int .i64 x, .int .i64 0]) ∧ RL w' lo v' L ∧ Below w.heap.size w w' := by
  obtain ⟨i0, hi, hz0, hz1, hz2⟩ := info_parts Try.infoInt7
  have HI := Lib.hid hi; have HZ0 := Lib.hid hz0; have HZ1 := Lib.hid hz1; have HZ2 := Lib.hid hz2
  clear hi hz0 hz1 hz2
  obtain ⟨a, cap, rfl, hcap, hc⟩ := h.open
  obtain ⟨r, o, rfl, h1, h2, h3⟩ := hc (by simp)
  have c0 : w.cell? ⟨r, o, none⟩ = some (.int .i64 x) := h3 0 x rfl
  have HC : Hid (∀ j y, L[j]? = some y → w.cell? ⟨r, o + 1 + j, none⟩ = some (.int .i64 y)) := fun j y hy => by have := h3 (j + 1) y (by simpa using hy); rwa [show o + (j + 1) = o + 1 + j by omega] at this
  clear hc h3
  simp only [List.length_cons] at hcap ⊢
  have s1 : (1 : Int) ≤ (L.length : Int) + 1 := by omega
  by_cases h0 : 0 < L.length
  · have s2 : ¬ cap = 1 := by omega
    go_enter Try.func14, Try.ntmps14
    go_wp2
    go_region_held3 (fun w' => w'.cell? ⟨r, o, none⟩ = some (.int .i64 x)) (first | exact c0 | exact c1) (first | (refine step_append_lies _ (by rfl) _ _ _ (by rfl) w.heap.size 3 i0 _ 1 8 Try.underlying26 HI.out HZ0.out HZ1.out HZ2.out rfl (by omega) (.slice none 0 0) 0 [] (by rfl) (World.ownsRow_nil _ _ _ _) ⟨r, o + 1, none⟩ L.length (cap - 1) (L.map encI) (by rfl) (by simp) (news_of HC.out) (one_of _) h0 (by unfold maxLen; omega) (by omega) (Nat.le_refl _) w.heap.size (by rfl) ?_; intro gg cc w1 hown hgrow hat hlt; have c1 := (hgrow.cell (a := ⟨r, o, none⟩) c0 (fun e => by cases e)); have HO1 := Lib.hid hown; have HG1 := Lib.hid hgrow; clear hown hgrow hat hlt))
    go_wp2
    refine bodyPost_ret (v := .tuple #[.slice (some ⟨gg, 0, none⟩) L.length cc, .int .i64 x, .int .i64 0]) (by simp [results, Try.results14, go_sem]) rfl ⟨_, rfl, ?_, (Below.refl w.heap.size w).trans ⟨HG1.out.os, HG1.out.tape, HG1.out.output, HG1.out.size, fun k hk => HG1.out.block k hk (fun e => by cases e)⟩⟩
    have h5 := HO1.out
    rw [Nat.zero_add, List.nil_append] at h5
    exact (RL.own (L := L) h5 rfl).mono hlo
  · have hL : L = [] := List.eq_nil_of_length_eq_zero (by omega)
    subst hL
    by_cases s2 : cap = 1
    · subst s2
      go_enter Try.func14, Try.ntmps14
      go_wp2
      go_region
      go_wp2
      exact bodyPost_ret (v := .tuple #[.slice none 0 0, .int .i64 x, .int .i64 0]) (by simp [results, Try.results14, go_sem]) rfl ⟨_, rfl, RL.nil _ _, below_drew7 (Below.refl _ _)⟩
    · have hcap' : (1 : Int) ≤ (cap : Int) := by omega
      go_enter Try.func14, Try.ntmps14
      go_wp2
      go_region
      go_wp2
      exact bodyPost_ret (v := .tuple #[.slice none 0 0, .int .i64 x, .int .i64 0]) (by simp [results, Try.results14, go_sem]) rfl ⟨_, rfl, RL.nil _ _, below_drew7 (Below.refl _ _)⟩

set_option maxRecDepth 100000 in
set_option maxHeartbeats 4000000 in
theorem rdrop (h : RL w lo v L) (hlo : lo ≤ w.heap.size) (hl : L.length ≤ 64) (v0 : Int) : Calls Try.prog 16 #[v, .int .i64 v0] w fun e w' => ∃ v', e = .returned (.tuple #[v', .int .i64 (dropE L v0)]) ∧ RL w' lo v' (L.erase v0) ∧ Below w.heap.size w w' := by
  obtain ⟨i0, hi, hz0, hz1, hz2⟩ := info_parts Try.infoInt7
  have HI := Lib.hid hi; have HZ0 := Lib.hid hz0; have HZ1 := Lib.hid hz1; have HZ2 := Lib.hid hz2
  clear hi hz0 hz1 hz2
  have HH := Lib.hid h
  obtain ⟨a, cap, rfl, hcap, hc⟩ := h.open
  have HC := Lib.hid hc
  clear hc h
  go_enter Try.func16, Try.ntmps16
  go_wp2
  go_loopw [6, 7, 8] (fun u d i wr => ∃ k : Nat, k ≤ L.length ∧ i = .int .i64 (k : Int) ∧ d = .bool ((L.take k).contains v0) ∧ wr.ownsRow w.heap.size 3 1 u ((L.take k).erase v0).length (((L.take k).erase v0).map encI) ∧ Below w.heap.size w wr) (fun _ _ i _ => L.length - (intOf i).toNat)
  case atStart => exact ⟨0, by omega, rfl, rfl, World.ownsRow_nil _ _ _ _, Below.refl _ _⟩
  case round =>
    obtain ⟨k, hk, rfl, rfl, hO, hB2⟩ := hrel
    have HO := Lib.hid hO; have HBR := Lib.hid hB2
    clear hO hB2
    by_cases hkj : k < L.length
    · obtain ⟨b, o, rfl, _, hb, hc⟩ := HC.out (by omega)
      obtain ⟨x, hx⟩ : ∃ x, L[k]? = some x := ⟨_, List.getElem?_eq_getElem hkj⟩
      have cx := (HBR.out.cell (p := ⟨b, o + k, none⟩) hb).trans (hc k x hx)
      have k1 : (k : Int) < (L.length : Int) := by omega
      have HCS : Hid ((L.take (k + 1)).contains v0 = ((L.take k).contains v0 || (x == v0))) := by unfold Hid; rw [← take_push hx, contains_snoc]
      have HES : Hid ((L.take (k + 1)).erase v0 = if (L.take k).contains v0 = true then (L.take k).erase v0 ++ [x] else if (x == v0) = true then L.take k else L.take k ++ [x]) := by unfold Hid; rw [← take_push hx, erase_snoc]
      have HLE : Hid (((L.take k).erase v0).length ≤ k) := by unfold Hid; have := List.length_erase_le (a := v0) (l := L.take k); rw [List.length_take] at this; omega
      have hle := HLE.out
      clear hx hc
      rcases hd : (L.take k).contains v0 with _ | _
      · have HD2 := Lib.hid hd
        have HNE : Hid ((L.take k).erase v0 = L.take k) := List.erase_of_not_mem (by simpa using hd)
        clear hd
        rcases he : (x == v0) with _ | _
        · have HE := Lib.hid he
          go_wp2_with (at_builtin; refine wpList_append_own _ rfl _ _ 26 rfl w.heap.size 3 i0 (.int .i64 0) 1 8 Try.underlying26 HI.out HZ0.out HZ1.out HZ2.out rfl (by decide) u6 _ _ rfl (HO.out.alloc _) ⟨wr.heap.size, 0, none⟩ 1 1 [.int .i64 x] rfl rfl (cell_one_new _ _ _) (by simp [Value.oneCell']) (by unfold maxLen; omega) (by omega) (by have := HBR.out.size; simp; omega) ?_; intro v1 w3 hown1 hgrow1 _; have HO1 := Lib.hid hown1; have HG1 := Lib.hid hgrow1; clear hown1 hgrow1)
          go_roundw
          case rel =>
            refine ⟨k + 1, by omega, by go_num, by rw [HCS.out, HD2.out, HE.out]; rfl, ?_, (HBR.out.alloc HBR.out.size _).grown HG1.out (by have := HBR.out.size; simp; omega) (fun b e => HO.out.lt b e |>.1)⟩
            have h5 := HES.out
            rw [HD2.out, HE.out] at h5
            simp only [Bool.false_eq_true, if_false] at h5
            rw [h5, ← HNE.out, List.length_append, List.map_append]
            exact HO1.out
          case measure => simp [intOf]; omega
        · have HE := Lib.hid he
          go_wp2
          go_roundw
          case rel =>
            refine ⟨k + 1, by omega, by go_num, by rw [HCS.out, HE.out]; simp, ?_, HBR.out⟩
            have h5 := HES.out
            rw [HD2.out, HE.out] at h5
            simp only [Bool.false_eq_true, if_false, if_true] at h5
            rw [h5, ← HNE.out]
            exact HO.out
          case measure => simp [intOf]; omega
      · have HD2 := Lib.hid hd
        clear hd
        go_wp2_with (at_builtin; refine wpList_append_own _ rfl _ _ 26 rfl w.heap.size 3 i0 (.int .i64 0) 1 8 Try.underlying26 HI.out HZ0.out HZ1.out HZ2.out rfl (by decide) u6 _ _ rfl (HO.out.alloc _) ⟨wr.heap.size, 0, none⟩ 1 1 [.int .i64 x] rfl rfl (cell_one_new _ _ _) (by simp [Value.oneCell']) (by unfold maxLen; omega) (by omega) (by have := HBR.out.size; simp; omega) ?_; intro v1 w3 hown1 hgrow1 _; have HO1 := Lib.hid hown1; have HG1 := Lib.hid hgrow1; clear hown1 hgrow1)
        go_roundw
        case rel =>
          refine ⟨k + 1, by omega, by go_num, by rw [HCS.out, HD2.out]; simp, ?_, (HBR.out.alloc HBR.out.size _).grown HG1.out (by have := HBR.out.size; simp; omega) (fun b e => HO.out.lt b e |>.1)⟩
          have h5 := HES.out
          rw [HD2.out] at h5
          simp only [if_true] at h5
          rw [h5, List.length_append, List.map_append]
          exact HO1.out
        case measure => simp [intOf]; omega
    · obtain rfl : k = L.length := by omega
      have HTK : Hid (L.take L.length = L) := List.take_length
      rw [HTK.out] at HO ⊢
      rcases hd : L.contains v0 with _ | _
      · have HN : Hid (L.erase v0 = L) := List.erase_of_not_mem (by simpa using hd)
        have HD2 := Lib.hid hd
        clear hd
        go_wp2
        go_ret2
        exact ⟨_, by unfold dropE; rw [HD2.out]; rfl, by rw [HN.out]; exact HH.out.below HBR.out, HBR.out⟩
      · have HD2 := Lib.hid hd
        clear hd
        go_wp2
        go_ret2
        exact ⟨_, by unfold dropE; rw [HD2.out]; rfl, (RL.own HO.out rfl).mono hlo, HBR.out⟩
end
end Go.Proofs.Ytaofnpnmgmieiaa
