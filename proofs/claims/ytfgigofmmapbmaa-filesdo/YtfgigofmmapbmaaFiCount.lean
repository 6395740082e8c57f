/- Package files: Count, and slices.Index of its places, walked. -/
import Derived.Test.YtfgigofmmapbmaaFiOps
namespace Go.Proofs.Ytfgigofmmapbmaa
open Go.RowKit Go.MapKept

def OF.val (x : OF) : Value := .agg #[.int .i64 x.kind, .int .i64 x.thing, .int .i64 x.refs]
set_option maxRecDepth 100000 in
theorem neq_place (x : OF) (w : World) : (binOp .neq 58 (.agg #[.int .i64 x.kind, .int .i64 x.thing, .int .i64 x.refs]) (.agg #[.int .i64 0, .int .i64 0, .int .i64 0])).run Try.prog w = .ok (.bool x.live) w := by
  have e : x.live = !(x.kind == 0 && (x.thing == 0 && x.refs == 0)) := by
    obtain ⟨a, b, c⟩ := x
    unfold OF.live OF.zero
    rw [Bool.eq_iff_iff]
    simp
    omega
  rw [e]
  cases h1 : (x.kind == 0) <;> cases h2 : (x.thing == 0) <;> cases h3 : (x.refs == 0) <;> simp [go_sem, h1, h2, h3]
set_option maxRecDepth 100000 in
theorem eql_place (x : OF) (w : World) : (binOp .eql 58 (.agg #[.int .i64 0, .int .i64 0, .int .i64 0]) (.agg #[.int .i64 x.kind, .int .i64 x.thing, .int .i64 x.refs])).run Try.prog w = .ok (.bool (!x.live)) w := by
  have e : x.live = !((0 == x.kind) && ((0 == x.thing) && (0 == x.refs))) := by
    obtain ⟨a, b, c⟩ := x
    unfold OF.live OF.zero
    rw [Bool.eq_iff_iff]
    simp
    omega
  rw [e]
  cases h1 : ((0 : Int) == x.kind) <;> cases h2 : ((0 : Int) == x.thing) <;> cases h3 : ((0 : Int) == x.refs) <;> simp [go_sem, h1, h2, h3]
theorem index_place {w : World} {F : List OF} {i : Nat} {x : OF} (hi : i < 32) (hx : F[i]? = some x) : (Instr.index 59 (.agg (flatF F).toArray) (.int .i64 (i : Int))).run Try.prog w = .ok (.agg #[.int .i64 x.kind, .int .i64 x.thing, .int .i64 x.refs]) w := by
  have hs : (sizeOf 58).run Try.prog w = .ok 3 w := by kernel_rfl
  obtain ⟨h0, h1, h2⟩ := flatF_at F i x hx
  unfold Instr.index
  simp only [Sem.run_bind, asIntOf, Sem.run_pure, Result.andThen_ok, run_underlying Try.underlying59]
  rw [if_pos (by omega)]
  have hl : i * 3 + 2 < (flatF F).length := (List.getElem?_eq_some_iff.1 h2).1
  have e0 := (List.getElem?_eq_some_iff.1 h0).2
  have e1 := (List.getElem?_eq_some_iff.1 h1).2
  have e2 := (List.getElem?_eq_some_iff.1 h2).2
  simp [Sem.run_bind, hs, part]
  rw [List.drop_eq_getElem_cons (by omega), List.drop_eq_getElem_cons (by omega), List.drop_eq_getElem_cons (by omega), e0, e1, e2]
  rfl
theorem Try.infoPlaces : (Try.prog.info? 59).map (·.size) = some 96 := by kernel_rfl

section
variable {w : World} {p : Nat} {m : Option Nat} {F : List OF} {D : List (Int × Fds)}
theorem FM.range (h : FM w p m F D) : w.rangeAt p 0 (flatF F) := by
  intro j v hv
  rw [Nat.zero_add]
  have hb := h.box.blk
  simp only [World.cell?, hb, filesV, List.getElem?_toArray]
  rw [List.getElem?_append_left (List.getElem?_eq_some_iff.1 hv).1]
  exact hv

set_option maxRecDepth 100000 in
set_option maxHeartbeats 2000000 in
theorem count_any (h : FM w p m F D) : Calls Try.prog 13 #[.pointer (some ⟨p, 0, none⟩)] w fun e w' => e = .returned (.int .i64 ((F.countP OF.live : Nat) : Int)) ∧ Below w.heap.size w w' := by
  have hrange := Lib.hid h.range
  have hl : Hid ((flatF F).length = 96) := by unfold Hid; rw [flatF_len, h.len]
  have hF := Lib.hid h.len
  have hix : ∀ (w : World) (i : Nat) (x : OF), i < 32 → F[i]? = some x → (Instr.index 59 (.agg (flatF F).toArray) (.int .i64 (i : Int))).run Try.prog w = .ok (.agg #[.int .i64 x.kind, .int .i64 x.thing, .int .i64 x.refs]) w := fun w i x hi hx => index_place hi hx
  have HIX := Lib.hid hix
  have hne := neq_place
  have HNE := Lib.hid hne
  clear h hix hne
  go_enter Try.func13, Try.ntmps13
  go_wp2_with (refine wpList_load_mid rfl 59 (.tmp 11) rfl p 0 rfl (flatF F) _ hrange.out Try.underlying59 rfl (by rw [hl.out]; exact Try.infoPlaces) ?_)
  go_loopw [3, 13] (fun c t wr => ∃ j : Nat, j ≤ 32 ∧ t = .int .i64 (j : Int) ∧ c = .int .i64 (((F.take j).countP OF.live : Nat) : Int) ∧ Below w.heap.size w wr) (fun _ t _ => 32 - (intOf t).toNat)
  case atStart => exact ⟨0, by omega, rfl, rfl, Below.refl _ _⟩
  case round =>
    obtain ⟨j, hj, rfl, rfl, hB⟩ := hrel
    have HB := Lib.hid hB
    have hle : (F.take j).countP OF.live ≤ 32 := Nat.le_trans List.countP_le_length (by simp; omega)
    clear hB
    by_cases hjl : j < 32
    · obtain ⟨x, hx⟩ : ∃ x, F[j]? = some x := ⟨_, List.getElem?_eq_getElem (by rw [hF.out]; exact hjl)⟩
      have hidx := fun w => HIX.out w j x hjl hx
      have hne := HNE.out x
      have HW : Hid ((F.take (j + 1)).countP OF.live = (F.take j).countP OF.live + (if x.live then 1 else 0)) := by
        obtain ⟨hl, rfl⟩ := List.getElem?_eq_some_iff.1 hx
        unfold Hid
        rw [List.take_succ_eq_append_getElem hl, List.countP_append, List.countP_singleton]
      clear hx
      obtain ⟨a, b, c⟩ := x
      dsimp only at *
      generalize (F.take j).countP OF.live = n at *
      cases hlv : OF.live ⟨a, b, c⟩ with
      | true =>
        rw [hlv] at HW hne
        go_wp2
        go_roundw
        case rel => exact ⟨j + 1, by omega, by go_num, by rw [HW.out]; go_num, HB.out.alloc HB.out.size _⟩
        case measure => simp [intOf]; omega
      | false =>
        rw [hlv] at HW hne
        go_wp2
        go_roundw
        case rel => exact ⟨j + 1, by omega, by go_num, by rw [HW.out]; go_num, HB.out.alloc HB.out.size _⟩
        case measure => simp [intOf]; omega
    · obtain rfl : j = 32 := by omega
      rw [List.take_of_length_le (by rw [hF.out]; exact Nat.le_refl _)]
      go_wp2
      go_ret
      exact ⟨rfl, HB.out⟩

/-- the least place in which none stands. -/
def spotI (F : List OF) : Int := match F.findIdx? (fun x => !x.live) with
  | some i => i
  | none => -1
set_option maxRecDepth 100000 in
set_option maxHeartbeats 2000000 in
theorem index_any (h : FM w p m F D) : Calls Try.prog 33 #[.slice (some ⟨p, 0, none⟩) 32 32, .agg #[.int .i64 0, .int .i64 0, .int .i64 0]] w fun e w' => e = .returned (.int .i64 (spotI F)) ∧ Below w.heap.size w w' := by
  have HF := Lib.hid h
  have HNE := Lib.hid eql_place
  have hp1 := h.p_lt
  clear h
  go_enter Try.func33, Try.ntmps33
  go_wp2
  go_loopw [8] (fun t wr => ∃ j : Nat, j ≤ 32 ∧ t = .int .i64 (j : Int) ∧ (∀ i y, i < j → F[i]? = some y → y.live = true) ∧ FM wr p m F D ∧ BoxA wr w.heap.size 58 #[.int .i64 0, .int .i64 0, .int .i64 0] ∧ Below w.heap.size w wr) (fun t _ => 32 - (intOf t).toNat)
  case atStart => exact ⟨0, by omega, rfl, fun i y hi => absurd hi (by omega), HF.out.alloc _, BoxA.new w _ _, (Below.refl _ w).alloc (Nat.le_refl _) _⟩
  case round =>
    obtain ⟨j, hj, rfl, hno, hW, hBx, hB⟩ := hrel
    have HNO := Lib.hid hno; have HW := Lib.hid hW; have HBX := Lib.hid hBx; have HB := Lib.hid hB
    have x0 := hBx.at 0 rfl; have x1 := hBx.at 1 rfl; have x2 := hBx.at 2 rfl
    clear hno hW hB hBx
    by_cases hjl : j < 32
    · obtain ⟨x, hx⟩ : ∃ x, F[j]? = some x := ⟨_, List.getElem?_eq_getElem (by rw [HW.out.len]; exact hjl)⟩
      have y0 := HW.out.at0 hx; have y1 := HW.out.at1 hx; have y2 := HW.out.at2 hx
      have hne := HNE.out x
      have HX := Lib.hid hx
      clear hx
      cases hlv : OF.live x with
      | true =>
        rw [hlv] at hne
        have HL := Lib.hid hlv
        clear hlv
        obtain ⟨a, b, c⟩ := x
        dsimp only at *
        go_wp2
        go_quiet (fail)
        go_wp2
        go_roundw
        case rel =>
          refine ⟨j + 1, by omega, by go_num, fun i y hi hy => ?_, HW.out.heap rfl, HBX.out.keep rfl, below_drewN' HB.out⟩
          by_cases c : i = j
          · subst c
            rw [HX.out] at hy
            cases hy
            exact HL.out
          · exact HNO.out i y (by omega) hy
        case measure => simp [intOf]; omega
      | false =>
        rw [hlv] at hne
        have HE : Hid (spotI F = j) := by
          unfold Hid spotI
          rw [List.findIdx?_eq_some_iff_getElem.2 ⟨(List.getElem?_eq_some_iff.1 HX.out).1, by rw [(List.getElem?_eq_some_iff.1 HX.out).2, hlv]; rfl, fun i hi => by
            have hl : i < F.length := by have := HW.out.len; omega
            have := HNO.out i _ hi (List.getElem?_eq_getElem hl)
            simp [this]⟩]
        clear hlv
        obtain ⟨a, b, c⟩ := x
        dsimp only at *
        go_wp2
        go_quiet (fail)
        go_wp2
        go_ret
        exact ⟨by rw [HE.out]; rfl, below_drewN' HB.out⟩
    · obtain rfl : j = 32 := by omega
      have HE : Hid (spotI F = -1) := by
        unfold Hid spotI
        rw [List.findIdx?_eq_none_iff.2 (fun x hx => by
          obtain ⟨i, hi, rfl⟩ := List.mem_iff_getElem.1 hx
          have := HNO.out i _ (by have := HW.out.len; omega) (List.getElem?_eq_getElem hi)
          simp [this])]
      go_wp2
      go_ret
      exact ⟨by rw [HE.out]; rfl, HB.out⟩
end
end Go.Proofs.Ytfgigofmmapbmaa
