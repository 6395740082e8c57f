/- Layer 9: an act, by the program alone (done), under Works. -/
import Derived.Test.YtfgigofmmapbmaaFiWorks
namespace Go.Proofs.Ytfgigofmmapbmaa
open Go.RowKit

theorem mod8 (d : Int) : ∃ y : Nat, y < 8 ∧ (IntKind.u64.wrap d).tmod 8 = (y : Int) := by
  have h0 := wrap_u64_nonneg d
  generalize IntKind.u64.wrap d = y at *
  have h1 : 0 ≤ y.tmod 8 := Int.tmod_nonneg _ h0
  have h2 : y.tmod 8 < 8 := Int.tmod_lt_of_pos _ (by omega)
  exact ⟨(y.tmod 8).toNat, by omega, by omega⟩
/-- which act. -/
def whichY (d : Int) : Nat := ((IntKind.u64.wrap d).tmod 8).toNat

section
variable {Fi : World → (Nat → Prop) → Nat → List FV → Nat → Prop} {w0 w : World} {p n : Nat} {L : List FV}
set_option maxRecDepth 100000 in
set_option maxHeartbeats 2000000 in
theorem done9_0 (W : Works Fi) (h : St Fi w0 w p L n) (hl : L.length ≤ 80000) (hn : n ≤ 80000) (d P F k t : Int) (hd : (IntKind.u64.wrap d).tmod 8 = 0) : Calls Try.prog 22 #[.pointer (some ⟨p, 0, none⟩), .agg #[.int .i64 d, .int .i64 P, .int .i64 F, .int .i64 k, .int .i64 t]] w fun e w' =>
    e = .returned (.tuple #[]) ∧ St Fi w0 w' p (actL 0 P F k t L n) (actN 0 P k t L n) := by
  have HT := Lib.hid (h.alloc W (.cells #[.int .i64 d, .int .i64 P, .int .i64 F, .int .i64 k, .int .i64 t] 34))
  have HW := Lib.hid W; have HL := Lib.hid hl; have HN := Lib.hid hn
  have x0 : ((IntKind.u64.wrap d).tmod 8 == 0) = true := by rw [hd]; rfl
  have x1 : ((IntKind.u64.wrap d).tmod 8 == 1) = false := by rw [hd]; rfl
  have x2 : ((IntKind.u64.wrap d).tmod 8 == 2) = false := by rw [hd]; rfl
  have x3 : ((IntKind.u64.wrap d).tmod 8 == 3) = false := by rw [hd]; rfl
  have x4 : ((IntKind.u64.wrap d).tmod 8 == 4) = false := by rw [hd]; rfl
  have x5 : ((IntKind.u64.wrap d).tmod 8 == 5) = false := by rw [hd]; rfl
  have x6 : ((IntKind.u64.wrap d).tmod 8 == 6) = false := by rw [hd]; rfl
  have x7 : ((IntKind.u64.wrap d).tmod 8 == 7) = false := by rw [hd]; rfl
  clear h W hl hn hd
  go_enter Try.func22, Try.ntmps22
  go_wp2_with (go_at_call 17; refine (st_open HW.out HT.out HL.out HN.out P k t).mono ?_; rintro e w1 ⟨rfl, h1⟩; have H1 := Lib.hid h1; clear h1)
  refine bodyPost_end (results_none rfl _ _ _) rfl ?_
  exact ⟨rfl, H1.out⟩
set_option maxRecDepth 100000 in
set_option maxHeartbeats 2000000 in
theorem done9_1 (W : Works Fi) (h : St Fi w0 w p L n) (hl : L.length ≤ 80000) (hn : n ≤ 80000) (d P F k t : Int) (hd : (IntKind.u64.wrap d).tmod 8 = 1) : Calls Try.prog 22 #[.pointer (some ⟨p, 0, none⟩), .agg #[.int .i64 d, .int .i64 P, .int .i64 F, .int .i64 k, .int .i64 t]] w fun e w' =>
    e = .returned (.tuple #[]) ∧ St Fi w0 w' p (actL 1 P F k t L n) (actN 1 P k t L n) := by
  have HT := Lib.hid (h.alloc W (.cells #[.int .i64 d, .int .i64 P, .int .i64 F, .int .i64 k, .int .i64 t] 34))
  have HW := Lib.hid W; have HL := Lib.hid hl; have HN := Lib.hid hn
  have x0 : ((IntKind.u64.wrap d).tmod 8 == 0) = false := by rw [hd]; rfl
  have x1 : ((IntKind.u64.wrap d).tmod 8 == 1) = true := by rw [hd]; rfl
  have x2 : ((IntKind.u64.wrap d).tmod 8 == 2) = false := by rw [hd]; rfl
  have x3 : ((IntKind.u64.wrap d).tmod 8 == 3) = false := by rw [hd]; rfl
  have x4 : ((IntKind.u64.wrap d).tmod 8 == 4) = false := by rw [hd]; rfl
  have x5 : ((IntKind.u64.wrap d).tmod 8 == 5) = false := by rw [hd]; rfl
  have x6 : ((IntKind.u64.wrap d).tmod 8 == 6) = false := by rw [hd]; rfl
  have x7 : ((IntKind.u64.wrap d).tmod 8 == 7) = false := by rw [hd]; rfl
  clear h W hl hn hd
  go_enter Try.func22, Try.ntmps22
  go_wp2_with (go_at_call 17; refine (st_open HW.out HT.out HL.out HN.out P k t).mono ?_; rintro e w1 ⟨rfl, h1⟩; have H1 := Lib.hid h1; clear h1)
  refine bodyPost_end (results_none rfl _ _ _) rfl ?_
  exact ⟨rfl, H1.out⟩
set_option maxRecDepth 100000 in
set_option maxHeartbeats 2000000 in
theorem done9_2 (W : Works Fi) (h : St Fi w0 w p L n) (hl : L.length ≤ 80000) (hn : n ≤ 80000) (d P F k t : Int) (hd : (IntKind.u64.wrap d).tmod 8 = 2) : Calls Try.prog 22 #[.pointer (some ⟨p, 0, none⟩), .agg #[.int .i64 d, .int .i64 P, .int .i64 F, .int .i64 k, .int .i64 t]] w fun e w' =>
    e = .returned (.tuple #[]) ∧ St Fi w0 w' p (actL 2 P F k t L n) (actN 2 P k t L n) := by
  have HT := Lib.hid (h.alloc W (.cells #[.int .i64 d, .int .i64 P, .int .i64 F, .int .i64 k, .int .i64 t] 34))
  have HW := Lib.hid W; have HL := Lib.hid hl; have HN := Lib.hid hn
  have x0 : ((IntKind.u64.wrap d).tmod 8 == 0) = false := by rw [hd]; rfl
  have x1 : ((IntKind.u64.wrap d).tmod 8 == 1) = false := by rw [hd]; rfl
  have x2 : ((IntKind.u64.wrap d).tmod 8 == 2) = true := by rw [hd]; rfl
  have x3 : ((IntKind.u64.wrap d).tmod 8 == 3) = false := by rw [hd]; rfl
  have x4 : ((IntKind.u64.wrap d).tmod 8 == 4) = false := by rw [hd]; rfl
  have x5 : ((IntKind.u64.wrap d).tmod 8 == 5) = false := by rw [hd]; rfl
  have x6 : ((IntKind.u64.wrap d).tmod 8 == 6) = false := by rw [hd]; rfl
  have x7 : ((IntKind.u64.wrap d).tmod 8 == 7) = false := by rw [hd]; rfl
  clear h W hl hn hd
  go_enter Try.func22, Try.ntmps22
  go_wp2_with (go_at_call 17; refine (st_open HW.out HT.out HL.out HN.out P k t).mono ?_; rintro e w1 ⟨rfl, h1⟩; have H1 := Lib.hid h1; clear h1)
  refine bodyPost_end (results_none rfl _ _ _) rfl ?_
  exact ⟨rfl, H1.out⟩
set_option maxRecDepth 100000 in
set_option maxHeartbeats 2000000 in
theorem done9_3 (W : Works Fi) (h : St Fi w0 w p L n) (hl : L.length ≤ 80000) (hn : n ≤ 80000) (d P F k t : Int) (hd : (IntKind.u64.wrap d).tmod 8 = 3) : Calls Try.prog 22 #[.pointer (some ⟨p, 0, none⟩), .agg #[.int .i64 d, .int .i64 P, .int .i64 F, .int .i64 k, .int .i64 t]] w fun e w' =>
    e = .returned (.tuple #[]) ∧ St Fi w0 w' p (actL 3 P F k t L n) (actN 3 P k t L n) := by
  have HT := Lib.hid (h.alloc W (.cells #[.int .i64 d, .int .i64 P, .int .i64 F, .int .i64 k, .int .i64 t] 34))
  have HW := Lib.hid W; have HL := Lib.hid hl; have HN := Lib.hid hn
  have x0 : ((IntKind.u64.wrap d).tmod 8 == 0) = false := by rw [hd]; rfl
  have x1 : ((IntKind.u64.wrap d).tmod 8 == 1) = false := by rw [hd]; rfl
  have x2 : ((IntKind.u64.wrap d).tmod 8 == 2) = false := by rw [hd]; rfl
  have x3 : ((IntKind.u64.wrap d).tmod 8 == 3) = true := by rw [hd]; rfl
  have x4 : ((IntKind.u64.wrap d).tmod 8 == 4) = false := by rw [hd]; rfl
  have x5 : ((IntKind.u64.wrap d).tmod 8 == 5) = false := by rw [hd]; rfl
  have x6 : ((IntKind.u64.wrap d).tmod 8 == 6) = false := by rw [hd]; rfl
  have x7 : ((IntKind.u64.wrap d).tmod 8 == 7) = false := by rw [hd]; rfl
  clear h W hl hn hd
  go_enter Try.func22, Try.ntmps22
  go_wp2_with (go_at_call 18; refine (st_dup HW.out HT.out HL.out HN.out P F).mono ?_; rintro e w1 ⟨rfl, h1⟩; have H1 := Lib.hid h1; clear h1)
  refine bodyPost_end (results_none rfl _ _ _) rfl ?_
  exact ⟨rfl, H1.out⟩
set_option maxRecDepth 100000 in
set_option maxHeartbeats 2000000 in
theorem done9_4 (W : Works Fi) (h : St Fi w0 w p L n) (hl : L.length ≤ 80000) (hn : n ≤ 80000) (d P F k t : Int) (hd : (IntKind.u64.wrap d).tmod 8 = 4) : Calls Try.prog 22 #[.pointer (some ⟨p, 0, none⟩), .agg #[.int .i64 d, .int .i64 P, .int .i64 F, .int .i64 k, .int .i64 t]] w fun e w' =>
    e = .returned (.tuple #[]) ∧ St Fi w0 w' p (actL 4 P F k t L n) (actN 4 P k t L n) := by
  have HT := Lib.hid (h.alloc W (.cells #[.int .i64 d, .int .i64 P, .int .i64 F, .int .i64 k, .int .i64 t] 34))
  have HW := Lib.hid W; have HL := Lib.hid hl; have HN := Lib.hid hn
  have x0 : ((IntKind.u64.wrap d).tmod 8 == 0) = false := by rw [hd]; rfl
  have x1 : ((IntKind.u64.wrap d).tmod 8 == 1) = false := by rw [hd]; rfl
  have x2 : ((IntKind.u64.wrap d).tmod 8 == 2) = false := by rw [hd]; rfl
  have x3 : ((IntKind.u64.wrap d).tmod 8 == 3) = false := by rw [hd]; rfl
  have x4 : ((IntKind.u64.wrap d).tmod 8 == 4) = true := by rw [hd]; rfl
  have x5 : ((IntKind.u64.wrap d).tmod 8 == 5) = false := by rw [hd]; rfl
  have x6 : ((IntKind.u64.wrap d).tmod 8 == 6) = false := by rw [hd]; rfl
  have x7 : ((IntKind.u64.wrap d).tmod 8 == 7) = false := by rw [hd]; rfl
  clear h W hl hn hd
  go_enter Try.func22, Try.ntmps22
  go_wp2_with (go_at_call 19; refine (st_cls HW.out HT.out HL.out HN.out P F).mono ?_; rintro e w1 ⟨rfl, h1⟩; have H1 := Lib.hid h1; clear h1)
  refine bodyPost_end (results_none rfl _ _ _) rfl ?_
  exact ⟨rfl, H1.out⟩
set_option maxRecDepth 100000 in
set_option maxHeartbeats 2000000 in
theorem done9_5 (W : Works Fi) (h : St Fi w0 w p L n) (hl : L.length ≤ 80000) (hn : n ≤ 80000) (d P F k t : Int) (hd : (IntKind.u64.wrap d).tmod 8 = 5) : Calls Try.prog 22 #[.pointer (some ⟨p, 0, none⟩), .agg #[.int .i64 d, .int .i64 P, .int .i64 F, .int .i64 k, .int .i64 t]] w fun e w' =>
    e = .returned (.tuple #[]) ∧ St Fi w0 w' p (actL 5 P F k t L n) (actN 5 P k t L n) := by
  have HT := Lib.hid (h.alloc W (.cells #[.int .i64 d, .int .i64 P, .int .i64 F, .int .i64 k, .int .i64 t] 34))
  have HW := Lib.hid W; have HL := Lib.hid hl; have HN := Lib.hid hn
  have x0 : ((IntKind.u64.wrap d).tmod 8 == 0) = false := by rw [hd]; rfl
  have x1 : ((IntKind.u64.wrap d).tmod 8 == 1) = false := by rw [hd]; rfl
  have x2 : ((IntKind.u64.wrap d).tmod 8 == 2) = false := by rw [hd]; rfl
  have x3 : ((IntKind.u64.wrap d).tmod 8 == 3) = false := by rw [hd]; rfl
  have x4 : ((IntKind.u64.wrap d).tmod 8 == 4) = false := by rw [hd]; rfl
  have x5 : ((IntKind.u64.wrap d).tmod 8 == 5) = true := by rw [hd]; rfl
  have x6 : ((IntKind.u64.wrap d).tmod 8 == 6) = false := by rw [hd]; rfl
  have x7 : ((IntKind.u64.wrap d).tmod 8 == 7) = false := by rw [hd]; rfl
  clear h W hl hn hd
  go_enter Try.func22, Try.ntmps22
  go_wp2
  refine bodyPost_end (results_none rfl _ _ _) rfl ?_
  exact ⟨rfl, HT.out⟩
set_option maxRecDepth 100000 in
set_option maxHeartbeats 2000000 in
theorem done9_6 (W : Works Fi) (h : St Fi w0 w p L n) (hl : L.length ≤ 80000) (hn : n ≤ 80000) (d P F k t : Int) (hd : (IntKind.u64.wrap d).tmod 8 = 6) : Calls Try.prog 22 #[.pointer (some ⟨p, 0, none⟩), .agg #[.int .i64 d, .int .i64 P, .int .i64 F, .int .i64 k, .int .i64 t]] w fun e w' =>
    e = .returned (.tuple #[]) ∧ St Fi w0 w' p (actL 6 P F k t L n) (actN 6 P k t L n) := by
  have HT := Lib.hid (h.alloc W (.cells #[.int .i64 d, .int .i64 P, .int .i64 F, .int .i64 k, .int .i64 t] 34))
  have HW := Lib.hid W; have HL := Lib.hid hl; have HN := Lib.hid hn
  have x0 : ((IntKind.u64.wrap d).tmod 8 == 0) = false := by rw [hd]; rfl
  have x1 : ((IntKind.u64.wrap d).tmod 8 == 1) = false := by rw [hd]; rfl
  have x2 : ((IntKind.u64.wrap d).tmod 8 == 2) = false := by rw [hd]; rfl
  have x3 : ((IntKind.u64.wrap d).tmod 8 == 3) = false := by rw [hd]; rfl
  have x4 : ((IntKind.u64.wrap d).tmod 8 == 4) = false := by rw [hd]; rfl
  have x5 : ((IntKind.u64.wrap d).tmod 8 == 5) = false := by rw [hd]; rfl
  have x6 : ((IntKind.u64.wrap d).tmod 8 == 6) = true := by rw [hd]; rfl
  have x7 : ((IntKind.u64.wrap d).tmod 8 == 7) = false := by rw [hd]; rfl
  clear h W hl hn hd
  go_enter Try.func22, Try.ntmps22
  go_wp2_with (go_at_call 20; refine (st_fork HW.out HT.out HL.out HN.out P F).mono ?_; rintro e w1 ⟨rfl, h1⟩; have H1 := Lib.hid h1; clear h1)
  refine bodyPost_end (results_none rfl _ _ _) rfl ?_
  exact ⟨rfl, H1.out⟩
set_option maxRecDepth 100000 in
set_option maxHeartbeats 2000000 in
theorem done9_7 (W : Works Fi) (h : St Fi w0 w p L n) (hl : L.length ≤ 80000) (hn : n ≤ 80000) (d P F k t : Int) (hd : (IntKind.u64.wrap d).tmod 8 = 7) : Calls Try.prog 22 #[.pointer (some ⟨p, 0, none⟩), .agg #[.int .i64 d, .int .i64 P, .int .i64 F, .int .i64 k, .int .i64 t]] w fun e w' =>
    e = .returned (.tuple #[]) ∧ St Fi w0 w' p (actL 7 P F k t L n) (actN 7 P k t L n) := by
  have HT := Lib.hid (h.alloc W (.cells #[.int .i64 d, .int .i64 P, .int .i64 F, .int .i64 k, .int .i64 t] 34))
  have HW := Lib.hid W; have HL := Lib.hid hl; have HN := Lib.hid hn
  have x0 : ((IntKind.u64.wrap d).tmod 8 == 0) = false := by rw [hd]; rfl
  have x1 : ((IntKind.u64.wrap d).tmod 8 == 1) = false := by rw [hd]; rfl
  have x2 : ((IntKind.u64.wrap d).tmod 8 == 2) = false := by rw [hd]; rfl
  have x3 : ((IntKind.u64.wrap d).tmod 8 == 3) = false := by rw [hd]; rfl
  have x4 : ((IntKind.u64.wrap d).tmod 8 == 4) = false := by rw [hd]; rfl
  have x5 : ((IntKind.u64.wrap d).tmod 8 == 5) = false := by rw [hd]; rfl
  have x6 : ((IntKind.u64.wrap d).tmod 8 == 6) = false := by rw [hd]; rfl
  have x7 : ((IntKind.u64.wrap d).tmod 8 == 7) = true := by rw [hd]; rfl
  clear h W hl hn hd
  go_enter Try.func22, Try.ntmps22
  go_wp2_with (go_at_call 21; refine (st_drop HW.out HT.out HL.out HN.out P).mono ?_; rintro e w1 ⟨u, rfl, -, h1⟩; have H1 := Lib.hid h1; clear h1)
  refine bodyPost_end (results_none rfl _ _ _) rfl ?_
  exact ⟨rfl, H1.out⟩
theorem done9 (W : Works Fi) (h : St Fi w0 w p L n) (hl : L.length ≤ 80000) (hn : n ≤ 80000) (d P F k t : Int) : Calls Try.prog 22 #[.pointer (some ⟨p, 0, none⟩), .agg #[.int .i64 d, .int .i64 P, .int .i64 F, .int .i64 k, .int .i64 t]] w fun e w' =>
    e = .returned (.tuple #[]) ∧ St Fi w0 w' p (actL (whichY d) P F k t L n) (actN (whichY d) P k t L n) := by
  obtain ⟨y, hy, hd⟩ := mod8 d
  have hw : whichY d = y := by unfold whichY; rw [hd]; rfl
  rw [hw]
  match y, hy with
  | 0, _ => exact done9_0 W h hl hn d P F k t hd
  | 1, _ => exact done9_1 W h hl hn d P F k t hd
  | 2, _ => exact done9_2 W h hl hn d P F k t hd
  | 3, _ => exact done9_3 W h hl hn d P F k t hd
  | 4, _ => exact done9_4 W h hl hn d P F k t hd
  | 5, _ => exact done9_5 W h hl hn d P F k t hd
  | 6, _ => exact done9_6 W h hl hn d P F k t hd
  | 7, _ => exact done9_7 W h hl hn d P F k t hd
end
end Go.Proofs.Ytfgigofmmapbmaa
