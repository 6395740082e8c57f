/- Layer 9: an act on both (did): the same is told, and both hold the same behind it. Printed by wip/gen/did9.py. -/
import Derived.Test.YtfgigofmmapbmaaFiBoth
import Derived.Test.YtfgigofmmapbmaaFiDone
import Derived.Test.YtfgigofmmapbmaaRef9Same
namespace Go.Proofs.Ytfgigofmmapbmaa
open Go.RowKit

set_option maxRecDepth 100000 in
theorem eql_same9 (k t : Int) (w : World) : (binOp .eql 32 (.agg #[.int .i64 k, .int .i64 t]) (.agg #[.int .i64 k, .int .i64 t])).run Try.prog w = .ok (.bool true) w := by simp [go_sem]

section
variable {Fi : World → (Nat → Prop) → Nat → List FV → Nat → Prop} {w0 w : World} {p q t n : Nat} {L : List FV}

set_option maxRecDepth 100000 in
set_option maxHeartbeats 4000000 in
theorem did9_0 (W : Works Fi) (h : Bo Fi w0 w p q t L n L n) (hl : L.length ≤ 80000) (hn : n ≤ 80000) (d P F k x : Int) (hd : (IntKind.u64.wrap d).tmod 8 = 0) : Calls Try.prog 12 #[.pointer (some ⟨p, 0, none⟩), .pointer (some ⟨q, 0, none⟩), .agg #[.int .i64 d, .int .i64 P, .int .i64 F, .int .i64 k, .int .i64 x]] w fun e w' =>
    e = .returned (.bool true) ∧ ∃ t', Bo Fi w0 w' p q t' (actL 0 P F k x L n) (actN 0 P k x L n) (actL 0 P F k x L n) (actN 0 P k x L n) := by
  have h0 := h.side W (.cells #[.int .i64 d, .int .i64 P, .int .i64 F, .int .i64 k, .int .i64 x] 34)
  have HT := Lib.hid h0
  have HW := Lib.hid W; have HL := Lib.hid hl; have HN := Lib.hid hn
  have x0 : ((IntKind.u64.wrap d).tmod 8 == 0) = true := by rw [hd]; rfl
  have x1 : ((IntKind.u64.wrap d).tmod 8 == 1) = false := by rw [hd]; rfl
  have x2 : ((IntKind.u64.wrap d).tmod 8 == 2) = false := by rw [hd]; rfl
  have x3 : ((IntKind.u64.wrap d).tmod 8 == 3) = false := by rw [hd]; rfl
  have x4 : ((IntKind.u64.wrap d).tmod 8 == 4) = false := by rw [hd]; rfl
  have x5 : ((IntKind.u64.wrap d).tmod 8 == 5) = false := by rw [hd]; rfl
  have x6 : ((IntKind.u64.wrap d).tmod 8 == 6) = false := by rw [hd]; rfl
  have x7 : ((IntKind.u64.wrap d).tmod 8 == 7) = false := by rw [hd]; rfl
  have HF : Hid (∀ w1, Bo (FiA Fi (one9 w.heap.size (.cells #[.int .i64 d, .int .i64 P, .int .i64 F, .int .i64 k, .int .i64 x] 34))) w0 w1 p q t L n L n → Calls Try.prog 17 #[.pointer (some ⟨p, 0, none⟩), .int .i64 P, .agg #[.int .i64 k, .int .i64 x]] w1 fun e w' => e = .returned (.tuple #[.int .i64 (openN L n P k x), .int .i64 (openE L n P k x)]) ∧ Bo (FiA Fi (one9 w.heap.size (.cells #[.int .i64 d, .int .i64 P, .int .i64 F, .int .i64 k, .int .i64 x] 34))) w0 w' p q t (openL L n P k x) (openG L n P k x) L n) := fun w1 h1 => bof_open (works_side HW.out _) h1 HL.out HN.out P k x
  have HR : Hid (∀ w1, Bo (FiA Fi (one9 w.heap.size (.cells #[.int .i64 d, .int .i64 P, .int .i64 F, .int .i64 k, .int .i64 x] 34))) w0 w1 p q t (openL L n P k x) (openG L n P k x) L n → Calls Try.prog 23 #[.pointer (some ⟨q, 0, none⟩), .int .i64 P, .agg #[.int .i64 k, .int .i64 x]] w1 fun e w' => e = .returned (.tuple #[.int .i64 (openN L n P k x), .int .i64 (openE L n P k x)]) ∧ Bo (FiA Fi (one9 w.heap.size (.cells #[.int .i64 d, .int .i64 P, .int .i64 F, .int .i64 k, .int .i64 x] 34))) w0 w' p q w'.heap.size (openL L n P k x) (openG L n P k x) (openL L n P k x) (openG L n P k x)) := fun w1 h1 => bor_open (works_side HW.out _) h1 HL.out HN.out P k x
  clear h h0 W hl hn hd
  generalize openN L n P k x = N9 at *
  generalize openE L n P k x = E9 at *
  go_enter Try.func12, Try.ntmps12
  go_wp2_with (first
    | (go_at_call 17; refine (HF.out _ HT.out).mono ?_; rintro e w1 ⟨rfl, h1⟩; have H1 := Lib.hid h1; have y1 := h1.box.at 1 (v := .int .i64 P) rfl; have y3 := h1.box.at 3 (v := .int .i64 k) rfl; have y4 := h1.box.at 4 (v := .int .i64 x) rfl; clear h1)
    | (go_at_call 23; refine (HR.out _ H1.out).mono ?_; rintro e w2 ⟨rfl, h2⟩; have H2 := Lib.hid h2; clear h2))
  go_ret
  exact ⟨rfl, _, H2.out.un⟩

set_option maxRecDepth 100000 in
set_option maxHeartbeats 4000000 in
theorem did9_1 (W : Works Fi) (h : Bo Fi w0 w p q t L n L n) (hl : L.length ≤ 80000) (hn : n ≤ 80000) (d P F k x : Int) (hd : (IntKind.u64.wrap d).tmod 8 = 1) : Calls Try.prog 12 #[.pointer (some ⟨p, 0, none⟩), .pointer (some ⟨q, 0, none⟩), .agg #[.int .i64 d, .int .i64 P, .int .i64 F, .int .i64 k, .int .i64 x]] w fun e w' =>
    e = .returned (.bool true) ∧ ∃ t', Bo Fi w0 w' p q t' (actL 1 P F k x L n) (actN 1 P k x L n) (actL 1 P F k x L n) (actN 1 P k x L n) := by
  have h0 := h.side W (.cells #[.int .i64 d, .int .i64 P, .int .i64 F, .int .i64 k, .int .i64 x] 34)
  have HT := Lib.hid h0
  have HW := Lib.hid W; have HL := Lib.hid hl; have HN := Lib.hid hn
  have x0 : ((IntKind.u64.wrap d).tmod 8 == 0) = false := by rw [hd]; rfl
  have x1 : ((IntKind.u64.wrap d).tmod 8 == 1) = true := by rw [hd]; rfl
  have x2 : ((IntKind.u64.wrap d).tmod 8 == 2) = false := by rw [hd]; rfl
  have x3 : ((IntKind.u64.wrap d).tmod 8 == 3) = false := by rw [hd]; rfl
  have x4 : ((IntKind.u64.wrap d).tmod 8 == 4) = false := by rw [hd]; rfl
  have x5 : ((IntKind.u64.wrap d).tmod 8 == 5) = false := by rw [hd]; rfl
  have x6 : ((IntKind.u64.wrap d).tmod 8 == 6) = false := by rw [hd]; rfl
  have x7 : ((IntKind.u64.wrap d).tmod 8 == 7) = false := by rw [hd]; rfl
  have HF : Hid (∀ w1, Bo (FiA Fi (one9 w.heap.size (.cells #[.int .i64 d, .int .i64 P, .int .i64 F, .int .i64 k, .int .i64 x] 34))) w0 w1 p q t L n L n → Calls Try.prog 17 #[.pointer (some ⟨p, 0, none⟩), .int .i64 P, .agg #[.int .i64 k, .int .i64 x]] w1 fun e w' => e = .returned (.tuple #[.int .i64 (openN L n P k x), .int .i64 (openE L n P k x)]) ∧ Bo (FiA Fi (one9 w.heap.size (.cells #[.int .i64 d, .int .i64 P, .int .i64 F, .int .i64 k, .int .i64 x] 34))) w0 w' p q t (openL L n P k x) (openG L n P k x) L n) := fun w1 h1 => bof_open (works_side HW.out _) h1 HL.out HN.out P k x
  have HR : Hid (∀ w1, Bo (FiA Fi (one9 w.heap.size (.cells #[.int .i64 d, .int .i64 P, .int .i64 F, .int .i64 k, .int .i64 x] 34))) w0 w1 p q t (openL L n P k x) (openG L n P k x) L n → Calls Try.prog 23 #[.pointer (some ⟨q, 0, none⟩), .int .i64 P, .agg #[.int .i64 k, .int .i64 x]] w1 fun e w' => e = .returned (.tuple #[.int .i64 (openN L n P k x), .int .i64 (openE L n P k x)]) ∧ Bo (FiA Fi (one9 w.heap.size (.cells #[.int .i64 d, .int .i64 P, .int .i64 F, .int .i64 k, .int .i64 x] 34))) w0 w' p q w'.heap.size (openL L n P k x) (openG L n P k x) (openL L n P k x) (openG L n P k x)) := fun w1 h1 => bor_open (works_side HW.out _) h1 HL.out HN.out P k x
  clear h h0 W hl hn hd
  generalize openN L n P k x = N9 at *
  generalize openE L n P k x = E9 at *
  go_enter Try.func12, Try.ntmps12
  go_wp2_with (first
    | (go_at_call 17; refine (HF.out _ HT.out).mono ?_; rintro e w1 ⟨rfl, h1⟩; have H1 := Lib.hid h1; have y1 := h1.box.at 1 (v := .int .i64 P) rfl; have y3 := h1.box.at 3 (v := .int .i64 k) rfl; have y4 := h1.box.at 4 (v := .int .i64 x) rfl; clear h1)
    | (go_at_call 23; refine (HR.out _ H1.out).mono ?_; rintro e w2 ⟨rfl, h2⟩; have H2 := Lib.hid h2; clear h2))
  go_ret
  exact ⟨rfl, _, H2.out.un⟩

set_option maxRecDepth 100000 in
set_option maxHeartbeats 4000000 in
theorem did9_2 (W : Works Fi) (h : Bo Fi w0 w p q t L n L n) (hl : L.length ≤ 80000) (hn : n ≤ 80000) (d P F k x : Int) (hd : (IntKind.u64.wrap d).tmod 8 = 2) : Calls Try.prog 12 #[.pointer (some ⟨p, 0, none⟩), .pointer (some ⟨q, 0, none⟩), .agg #[.int .i64 d, .int .i64 P, .int .i64 F, .int .i64 k, .int .i64 x]] w fun e w' =>
    e = .returned (.bool true) ∧ ∃ t', Bo Fi w0 w' p q t' (actL 2 P F k x L n) (actN 2 P k x L n) (actL 2 P F k x L n) (actN 2 P k x L n) := by
  have h0 := h.side W (.cells #[.int .i64 d, .int .i64 P, .int .i64 F, .int .i64 k, .int .i64 x] 34)
  have HT := Lib.hid h0
  have HW := Lib.hid W; have HL := Lib.hid hl; have HN := Lib.hid hn
  have x0 : ((IntKind.u64.wrap d).tmod 8 == 0) = false := by rw [hd]; rfl
  have x1 : ((IntKind.u64.wrap d).tmod 8 == 1) = false := by rw [hd]; rfl
  have x2 : ((IntKind.u64.wrap d).tmod 8 == 2) = true := by rw [hd]; rfl
  have x3 : ((IntKind.u64.wrap d).tmod 8 == 3) = false := by rw [hd]; rfl
  have x4 : ((IntKind.u64.wrap d).tmod 8 == 4) = false := by rw [hd]; rfl
  have x5 : ((IntKind.u64.wrap d).tmod 8 == 5) = false := by rw [hd]; rfl
  have x6 : ((IntKind.u64.wrap d).tmod 8 == 6) = false := by rw [hd]; rfl
  have x7 : ((IntKind.u64.wrap d).tmod 8 == 7) = false := by rw [hd]; rfl
  have HF : Hid (∀ w1, Bo (FiA Fi (one9 w.heap.size (.cells #[.int .i64 d, .int .i64 P, .int .i64 F, .int .i64 k, .int .i64 x] 34))) w0 w1 p q t L n L n → Calls Try.prog 17 #[.pointer (some ⟨p, 0, none⟩), .int .i64 P, .agg #[.int .i64 k, .int .i64 x]] w1 fun e w' => e = .returned (.tuple #[.int .i64 (openN L n P k x), .int .i64 (openE L n P k x)]) ∧ Bo (FiA Fi (one9 w.heap.size (.cells #[.int .i64 d, .int .i64 P, .int .i64 F, .int .i64 k, .int .i64 x] 34))) w0 w' p q t (openL L n P k x) (openG L n P k x) L n) := fun w1 h1 => bof_open (works_side HW.out _) h1 HL.out HN.out P k x
  have HR : Hid (∀ w1, Bo (FiA Fi (one9 w.heap.size (.cells #[.int .i64 d, .int .i64 P, .int .i64 F, .int .i64 k, .int .i64 x] 34))) w0 w1 p q t (openL L n P k x) (openG L n P k x) L n → Calls Try.prog 23 #[.pointer (some ⟨q, 0, none⟩), .int .i64 P, .agg #[.int .i64 k, .int .i64 x]] w1 fun e w' => e = .returned (.tuple #[.int .i64 (openN L n P k x), .int .i64 (openE L n P k x)]) ∧ Bo (FiA Fi (one9 w.heap.size (.cells #[.int .i64 d, .int .i64 P, .int .i64 F, .int .i64 k, .int .i64 x] 34))) w0 w' p q w'.heap.size (openL L n P k x) (openG L n P k x) (openL L n P k x) (openG L n P k x)) := fun w1 h1 => bor_open (works_side HW.out _) h1 HL.out HN.out P k x
  clear h h0 W hl hn hd
  generalize openN L n P k x = N9 at *
  generalize openE L n P k x = E9 at *
  go_enter Try.func12, Try.ntmps12
  go_wp2_with (first
    | (go_at_call 17; refine (HF.out _ HT.out).mono ?_; rintro e w1 ⟨rfl, h1⟩; have H1 := Lib.hid h1; have y1 := h1.box.at 1 (v := .int .i64 P) rfl; have y3 := h1.box.at 3 (v := .int .i64 k) rfl; have y4 := h1.box.at 4 (v := .int .i64 x) rfl; clear h1)
    | (go_at_call 23; refine (HR.out _ H1.out).mono ?_; rintro e w2 ⟨rfl, h2⟩; have H2 := Lib.hid h2; clear h2))
  go_ret
  exact ⟨rfl, _, H2.out.un⟩

set_option maxRecDepth 100000 in
set_option maxHeartbeats 4000000 in
theorem did9_3 (W : Works Fi) (h : Bo Fi w0 w p q t L n L n) (hl : L.length ≤ 80000) (hn : n ≤ 80000) (d P F k x : Int) (hd : (IntKind.u64.wrap d).tmod 8 = 3) : Calls Try.prog 12 #[.pointer (some ⟨p, 0, none⟩), .pointer (some ⟨q, 0, none⟩), .agg #[.int .i64 d, .int .i64 P, .int .i64 F, .int .i64 k, .int .i64 x]] w fun e w' =>
    e = .returned (.bool true) ∧ ∃ t', Bo Fi w0 w' p q t' (actL 3 P F k x L n) (actN 3 P k x L n) (actL 3 P F k x L n) (actN 3 P k x L n) := by
  have h0 := h.side W (.cells #[.int .i64 d, .int .i64 P, .int .i64 F, .int .i64 k, .int .i64 x] 34)
  have HT := Lib.hid h0
  have HW := Lib.hid W; have HL := Lib.hid hl; have HN := Lib.hid hn
  have x0 : ((IntKind.u64.wrap d).tmod 8 == 0) = false := by rw [hd]; rfl
  have x1 : ((IntKind.u64.wrap d).tmod 8 == 1) = false := by rw [hd]; rfl
  have x2 : ((IntKind.u64.wrap d).tmod 8 == 2) = false := by rw [hd]; rfl
  have x3 : ((IntKind.u64.wrap d).tmod 8 == 3) = true := by rw [hd]; rfl
  have x4 : ((IntKind.u64.wrap d).tmod 8 == 4) = false := by rw [hd]; rfl
  have x5 : ((IntKind.u64.wrap d).tmod 8 == 5) = false := by rw [hd]; rfl
  have x6 : ((IntKind.u64.wrap d).tmod 8 == 6) = false := by rw [hd]; rfl
  have x7 : ((IntKind.u64.wrap d).tmod 8 == 7) = false := by rw [hd]; rfl
  have HF : Hid (∀ w1, Bo (FiA Fi (one9 w.heap.size (.cells #[.int .i64 d, .int .i64 P, .int .i64 F, .int .i64 k, .int .i64 x] 34))) w0 w1 p q t L n L n → Calls Try.prog 18 #[.pointer (some ⟨p, 0, none⟩), .int .i64 P, .int .i64 F] w1 fun e w' => e = .returned (.tuple #[.int .i64 (dupN L P F), .int .i64 (dupE L P F)]) ∧ Bo (FiA Fi (one9 w.heap.size (.cells #[.int .i64 d, .int .i64 P, .int .i64 F, .int .i64 k, .int .i64 x] 34))) w0 w' p q t (dupL L P F) n L n) := fun w1 h1 => bof_dup (works_side HW.out _) h1 HL.out HN.out P F
  have HR : Hid (∀ w1, Bo (FiA Fi (one9 w.heap.size (.cells #[.int .i64 d, .int .i64 P, .int .i64 F, .int .i64 k, .int .i64 x] 34))) w0 w1 p q t (dupL L P F) n L n → Calls Try.prog 24 #[.pointer (some ⟨q, 0, none⟩), .int .i64 P, .int .i64 F] w1 fun e w' => e = .returned (.tuple #[.int .i64 (dupN L P F), .int .i64 (dupE L P F)]) ∧ Bo (FiA Fi (one9 w.heap.size (.cells #[.int .i64 d, .int .i64 P, .int .i64 F, .int .i64 k, .int .i64 x] 34))) w0 w' p q w'.heap.size (dupL L P F) n (dupL L P F) n) := fun w1 h1 => bor_dup (works_side HW.out _) h1 HL.out P F
  clear h h0 W hl hn hd
  generalize dupN L P F = N9 at *
  generalize dupE L P F = E9 at *
  go_enter Try.func12, Try.ntmps12
  go_wp2_with (first
    | (go_at_call 18; refine (HF.out _ HT.out).mono ?_; rintro e w1 ⟨rfl, h1⟩; have H1 := Lib.hid h1; have y1 := h1.box.at 1 (v := .int .i64 P) rfl; have y2 := h1.box.at 2 (v := .int .i64 F) rfl; clear h1)
    | (go_at_call 24; refine (HR.out _ H1.out).mono ?_; rintro e w2 ⟨rfl, h2⟩; have H2 := Lib.hid h2; clear h2))
  go_ret
  exact ⟨rfl, _, H2.out.un⟩

set_option maxRecDepth 100000 in
set_option maxHeartbeats 4000000 in
theorem did9_4 (W : Works Fi) (h : Bo Fi w0 w p q t L n L n) (hl : L.length ≤ 80000) (hn : n ≤ 80000) (d P F k x : Int) (hd : (IntKind.u64.wrap d).tmod 8 = 4) : Calls Try.prog 12 #[.pointer (some ⟨p, 0, none⟩), .pointer (some ⟨q, 0, none⟩), .agg #[.int .i64 d, .int .i64 P, .int .i64 F, .int .i64 k, .int .i64 x]] w fun e w' =>
    e = .returned (.bool true) ∧ ∃ t', Bo Fi w0 w' p q t' (actL 4 P F k x L n) (actN 4 P k x L n) (actL 4 P F k x L n) (actN 4 P k x L n) := by
  have h0 := h.side W (.cells #[.int .i64 d, .int .i64 P, .int .i64 F, .int .i64 k, .int .i64 x] 34)
  have HT := Lib.hid h0
  have HW := Lib.hid W; have HL := Lib.hid hl; have HN := Lib.hid hn
  have x0 : ((IntKind.u64.wrap d).tmod 8 == 0) = false := by rw [hd]; rfl
  have x1 : ((IntKind.u64.wrap d).tmod 8 == 1) = false := by rw [hd]; rfl
  have x2 : ((IntKind.u64.wrap d).tmod 8 == 2) = false := by rw [hd]; rfl
  have x3 : ((IntKind.u64.wrap d).tmod 8 == 3) = false := by rw [hd]; rfl
  have x4 : ((IntKind.u64.wrap d).tmod 8 == 4) = true := by rw [hd]; rfl
  have x5 : ((IntKind.u64.wrap d).tmod 8 == 5) = false := by rw [hd]; rfl
  have x6 : ((IntKind.u64.wrap d).tmod 8 == 6) = false := by rw [hd]; rfl
  have x7 : ((IntKind.u64.wrap d).tmod 8 == 7) = false := by rw [hd]; rfl
  have HF : Hid (∀ w1, Bo (FiA Fi (one9 w.heap.size (.cells #[.int .i64 d, .int .i64 P, .int .i64 F, .int .i64 k, .int .i64 x] 34))) w0 w1 p q t L n L n → Calls Try.prog 19 #[.pointer (some ⟨p, 0, none⟩), .int .i64 P, .int .i64 F] w1 fun e w' => e = .returned (.tuple #[.agg #[.int .i64 (getX L P F).kind, .int .i64 (getX L P F).thing], .bool (clsB L P F), .int .i64 (getE L P F)]) ∧ Bo (FiA Fi (one9 w.heap.size (.cells #[.int .i64 d, .int .i64 P, .int .i64 F, .int .i64 k, .int .i64 x] 34))) w0 w' p q t (clsL L P F) n L n) := fun w1 h1 => bof_cls (works_side HW.out _) h1 HL.out HN.out P F
  have HR : Hid (∀ w1 C, Bo (FiA (FiA Fi (one9 w.heap.size (.cells #[.int .i64 d, .int .i64 P, .int .i64 F, .int .i64 k, .int .i64 x] 34))) C) w0 w1 p q t (clsL L P F) n L n → Calls Try.prog 25 #[.pointer (some ⟨q, 0, none⟩), .int .i64 P, .int .i64 F] w1 fun e w' => e = .returned (.tuple #[.agg #[.int .i64 (getX L P F).kind, .int .i64 (getX L P F).thing], .bool (clsB L P F), .int .i64 (getE L P F)]) ∧ Bo (FiA (FiA Fi (one9 w.heap.size (.cells #[.int .i64 d, .int .i64 P, .int .i64 F, .int .i64 k, .int .i64 x] 34))) C) w0 w' p q w'.heap.size (clsL L P F) n (clsL L P F) n) := fun w1 C h1 => bor_cls (works_side (works_side HW.out _) _) h1 HL.out P F
  clear h h0 W hl hn hd
  generalize (getX L P F).kind = K9 at *
  generalize (getX L P F).thing = T9 at *
  generalize getE L P F = E9 at *
  generalize clsB L P F = B9 at *
  have hq := eql_same9 K9 T9
  go_enter Try.func12, Try.ntmps12
  go_wp2_with (first
    | (go_at_call 19; refine (HF.out _ HT.out).mono ?_; rintro e w1 ⟨rfl, h1⟩; have h1s := h1.side (works_side HW.out _) (.cells #[.int .i64 K9, .int .i64 T9] 32); have H1 := Lib.hid h1s; have y1 := h1s.un.box.at 1 (v := .int .i64 P) rfl; have y2 := h1s.un.box.at 2 (v := .int .i64 F) rfl; clear h1 h1s)
    | (go_at_call 25; refine (HR.out _ _ H1.out).mono ?_; rintro e w2 ⟨rfl, h2⟩; have h2s := h2.alloc (works_side (works_side HW.out _) _) (.cells #[.int .i64 K9, .int .i64 T9] 32); have z0 := h2s.box.at 0 (v := .int .i64 K9) rfl; have z1 := h2s.box.at 1 (v := .int .i64 T9) rfl; have H2 := Lib.hid h2s; clear h2 h2s))
  go_ret
  exact ⟨rfl, _, H2.out.un.un⟩

set_option maxRecDepth 100000 in
set_option maxHeartbeats 4000000 in
theorem did9_5 (W : Works Fi) (h : Bo Fi w0 w p q t L n L n) (hl : L.length ≤ 80000) (hn : n ≤ 80000) (d P F k x : Int) (hd : (IntKind.u64.wrap d).tmod 8 = 5) : Calls Try.prog 12 #[.pointer (some ⟨p, 0, none⟩), .pointer (some ⟨q, 0, none⟩), .agg #[.int .i64 d, .int .i64 P, .int .i64 F, .int .i64 k, .int .i64 x]] w fun e w' =>
    e = .returned (.bool true) ∧ ∃ t', Bo Fi w0 w' p q t' (actL 5 P F k x L n) (actN 5 P k x L n) (actL 5 P F k x L n) (actN 5 P k x L n) := by
  have h0 := h.side W (.cells #[.int .i64 d, .int .i64 P, .int .i64 F, .int .i64 k, .int .i64 x] 34)
  have HT := Lib.hid h0
  have HW := Lib.hid W; have HL := Lib.hid hl; have HN := Lib.hid hn
  have x0 : ((IntKind.u64.wrap d).tmod 8 == 0) = false := by rw [hd]; rfl
  have x1 : ((IntKind.u64.wrap d).tmod 8 == 1) = false := by rw [hd]; rfl
  have x2 : ((IntKind.u64.wrap d).tmod 8 == 2) = false := by rw [hd]; rfl
  have x3 : ((IntKind.u64.wrap d).tmod 8 == 3) = false := by rw [hd]; rfl
  have x4 : ((IntKind.u64.wrap d).tmod 8 == 4) = false := by rw [hd]; rfl
  have x5 : ((IntKind.u64.wrap d).tmod 8 == 5) = true := by rw [hd]; rfl
  have x6 : ((IntKind.u64.wrap d).tmod 8 == 6) = false := by rw [hd]; rfl
  have x7 : ((IntKind.u64.wrap d).tmod 8 == 7) = false := by rw [hd]; rfl
  have HF : Hid (∀ w1, Bo (FiA Fi (one9 w.heap.size (.cells #[.int .i64 d, .int .i64 P, .int .i64 F, .int .i64 k, .int .i64 x] 34))) w0 w1 p q t L n L n → Calls Try.prog 15 #[.pointer (some ⟨p, 0, none⟩), .int .i64 P, .int .i64 F] w1 fun e w' => e = .returned (.tuple #[.agg #[.int .i64 (getX L P F).kind, .int .i64 (getX L P F).thing], .int .i64 (getE L P F)]) ∧ Bo (FiA Fi (one9 w.heap.size (.cells #[.int .i64 d, .int .i64 P, .int .i64 F, .int .i64 k, .int .i64 x] 34))) w0 w' p q t L n L n) := fun w1 h1 => bof_get (works_side HW.out _) h1 HL.out HN.out P F
  have HR : Hid (∀ w1 C, Bo (FiA (FiA Fi (one9 w.heap.size (.cells #[.int .i64 d, .int .i64 P, .int .i64 F, .int .i64 k, .int .i64 x] 34))) C) w0 w1 p q t L n L n → Calls Try.prog 16 #[.pointer (some ⟨q, 0, none⟩), .int .i64 P, .int .i64 F] w1 fun e w' => e = .returned (.tuple #[.agg #[.int .i64 (getX L P F).kind, .int .i64 (getX L P F).thing], .int .i64 (getE L P F)]) ∧ Bo (FiA (FiA Fi (one9 w.heap.size (.cells #[.int .i64 d, .int .i64 P, .int .i64 F, .int .i64 k, .int .i64 x] 34))) C) w0 w' p q t L n L n) := fun w1 C h1 => bor_get (works_side (works_side HW.out _) _) h1 HL.out P F
  clear h h0 W hl hn hd
  generalize (getX L P F).kind = K9 at *
  generalize (getX L P F).thing = T9 at *
  generalize getE L P F = E9 at *
  have hq := eql_same9 K9 T9
  go_enter Try.func12, Try.ntmps12
  go_wp2_with (first
    | (go_at_call 15; refine (HF.out _ HT.out).mono ?_; rintro e w1 ⟨rfl, h1⟩; have h1s := h1.side (works_side HW.out _) (.cells #[.int .i64 K9, .int .i64 T9] 32); have H1 := Lib.hid h1s; have y1 := h1s.un.box.at 1 (v := .int .i64 P) rfl; have y2 := h1s.un.box.at 2 (v := .int .i64 F) rfl; clear h1 h1s)
    | (go_at_call 16; refine (HR.out _ _ H1.out).mono ?_; rintro e w2 ⟨rfl, h2⟩; have h2s := h2.alloc (works_side (works_side HW.out _) _) (.cells #[.int .i64 K9, .int .i64 T9] 32); have z0 := h2s.box.at 0 (v := .int .i64 K9) rfl; have z1 := h2s.box.at 1 (v := .int .i64 T9) rfl; have H2 := Lib.hid h2s; clear h2 h2s))
  go_ret
  exact ⟨rfl, _, H2.out.un.un⟩

set_option maxRecDepth 100000 in
set_option maxHeartbeats 4000000 in
theorem did9_6 (W : Works Fi) (h : Bo Fi w0 w p q t L n L n) (hl : L.length ≤ 80000) (hn : n ≤ 80000) (d P F k x : Int) (hd : (IntKind.u64.wrap d).tmod 8 = 6) : Calls Try.prog 12 #[.pointer (some ⟨p, 0, none⟩), .pointer (some ⟨q, 0, none⟩), .agg #[.int .i64 d, .int .i64 P, .int .i64 F, .int .i64 k, .int .i64 x]] w fun e w' =>
    e = .returned (.bool true) ∧ ∃ t', Bo Fi w0 w' p q t' (actL 6 P F k x L n) (actN 6 P k x L n) (actL 6 P F k x L n) (actN 6 P k x L n) := by
  have h0 := h.side W (.cells #[.int .i64 d, .int .i64 P, .int .i64 F, .int .i64 k, .int .i64 x] 34)
  have HT := Lib.hid h0
  have HW := Lib.hid W; have HL := Lib.hid hl; have HN := Lib.hid hn
  have x0 : ((IntKind.u64.wrap d).tmod 8 == 0) = false := by rw [hd]; rfl
  have x1 : ((IntKind.u64.wrap d).tmod 8 == 1) = false := by rw [hd]; rfl
  have x2 : ((IntKind.u64.wrap d).tmod 8 == 2) = false := by rw [hd]; rfl
  have x3 : ((IntKind.u64.wrap d).tmod 8 == 3) = false := by rw [hd]; rfl
  have x4 : ((IntKind.u64.wrap d).tmod 8 == 4) = false := by rw [hd]; rfl
  have x5 : ((IntKind.u64.wrap d).tmod 8 == 5) = false := by rw [hd]; rfl
  have x6 : ((IntKind.u64.wrap d).tmod 8 == 6) = true := by rw [hd]; rfl
  have x7 : ((IntKind.u64.wrap d).tmod 8 == 7) = false := by rw [hd]; rfl
  have HF : Hid (∀ w1, Bo (FiA Fi (one9 w.heap.size (.cells #[.int .i64 d, .int .i64 P, .int .i64 F, .int .i64 k, .int .i64 x] 34))) w0 w1 p q t L n L n → Calls Try.prog 20 #[.pointer (some ⟨p, 0, none⟩), .int .i64 P, .int .i64 F] w1 fun e w' => e = .returned (.int .i64 (fork9E L P F)) ∧ Bo (FiA Fi (one9 w.heap.size (.cells #[.int .i64 d, .int .i64 P, .int .i64 F, .int .i64 k, .int .i64 x] 34))) w0 w' p q t (fork9L L P F) n L n) := fun w1 h1 => bof_fork (works_side HW.out _) h1 HL.out HN.out P F
  have HR : Hid (∀ w1, Bo (FiA Fi (one9 w.heap.size (.cells #[.int .i64 d, .int .i64 P, .int .i64 F, .int .i64 k, .int .i64 x] 34))) w0 w1 p q t (fork9L L P F) n L n → Calls Try.prog 26 #[.pointer (some ⟨q, 0, none⟩), .int .i64 P, .int .i64 F] w1 fun e w' => e = .returned (.int .i64 (fork9E L P F)) ∧ Bo (FiA Fi (one9 w.heap.size (.cells #[.int .i64 d, .int .i64 P, .int .i64 F, .int .i64 k, .int .i64 x] 34))) w0 w' p q w'.heap.size (fork9L L P F) n (fork9L L P F) n) := fun w1 h1 => bor_fork (works_side HW.out _) h1 HL.out P F
  have hc1 := h0.box.at 1 (v := .int .i64 P) rfl; have hc2 := h0.box.at 2 (v := .int .i64 F) rfl
  clear h h0 W hl hn hd
  generalize fork9E L P F = E9 at *
  go_enter Try.func12, Try.ntmps12
  go_wp2
  generalize w.alloc (.cells #[.int .i64 d, .int .i64 P, .int .i64 F, .int .i64 k, .int .i64 x] 34) = W0 at *
  have HT0 := Lib.hid (HT.out.below (works_side HW.out _) (w' := W0.drew) (below_drewN' (k := 1) (Below.refl _ _)))
  go_region_held3 (fun w' => w'.cell? ⟨w.heap.size, 1, none⟩ = some (.int .i64 P) ∧ w'.cell? ⟨w.heap.size, 2, none⟩ = some (.int .i64 F)) (first | exact ⟨hc1, hc2⟩ | exact ⟨d1, d2⟩ | exact ⟨e1, e2⟩) (first
    | (go_at_call 20; refine (HF.out _ HT0.out).mono ?_; rintro e w1 ⟨rfl, h1⟩; have H1 := Lib.hid h1; have d1 := h1.box.at 1 (v := .int .i64 P) rfl; have d2 := h1.box.at 2 (v := .int .i64 F) rfl; clear h1)
    | (go_at_call 26; refine (HR.out _ H1.out).mono ?_; rintro e w2 ⟨rfl, h2⟩; have H2 := Lib.hid h2; have e1 := h2.box.at 1 (v := .int .i64 P) rfl; have e2 := h2.box.at 2 (v := .int .i64 F) rfl; clear h2))
  go_wp2
  go_ret
  exact ⟨rfl, _, H2.out.un⟩

set_option maxRecDepth 100000 in
set_option maxHeartbeats 4000000 in
theorem did9_7 (W : Works Fi) (h : Bo Fi w0 w p q t L n L n) (hl : L.length ≤ 80000) (hn : n ≤ 80000) (d P F k x : Int) (hd : (IntKind.u64.wrap d).tmod 8 = 7) : Calls Try.prog 12 #[.pointer (some ⟨p, 0, none⟩), .pointer (some ⟨q, 0, none⟩), .agg #[.int .i64 d, .int .i64 P, .int .i64 F, .int .i64 k, .int .i64 x]] w fun e w' =>
    e = .returned (.bool true) ∧ ∃ t', Bo Fi w0 w' p q t' (actL 7 P F k x L n) (actN 7 P k x L n) (actL 7 P F k x L n) (actN 7 P k x L n) := by
  have h0 := h.side W (.cells #[.int .i64 d, .int .i64 P, .int .i64 F, .int .i64 k, .int .i64 x] 34)
  have HT := Lib.hid h0
  have HW := Lib.hid W; have HL := Lib.hid hl; have HN := Lib.hid hn
  have x0 : ((IntKind.u64.wrap d).tmod 8 == 0) = false := by rw [hd]; rfl
  have x1 : ((IntKind.u64.wrap d).tmod 8 == 1) = false := by rw [hd]; rfl
  have x2 : ((IntKind.u64.wrap d).tmod 8 == 2) = false := by rw [hd]; rfl
  have x3 : ((IntKind.u64.wrap d).tmod 8 == 3) = false := by rw [hd]; rfl
  have x4 : ((IntKind.u64.wrap d).tmod 8 == 4) = false := by rw [hd]; rfl
  have x5 : ((IntKind.u64.wrap d).tmod 8 == 5) = false := by rw [hd]; rfl
  have x6 : ((IntKind.u64.wrap d).tmod 8 == 6) = false := by rw [hd]; rfl
  have x7 : ((IntKind.u64.wrap d).tmod 8 == 7) = true := by rw [hd]; rfl
  have HF : Hid (∀ w1, Bo (FiA Fi (one9 w.heap.size (.cells #[.int .i64 d, .int .i64 P, .int .i64 F, .int .i64 k, .int .i64 x] 34))) w0 w1 p q t L n L n → Calls Try.prog 21 #[.pointer (some ⟨p, 0, none⟩), .int .i64 P] w1 fun e w' => ∃ u, e = .returned u ∧ OsIn w' w1.heap.size u (drO L P 8) ∧ Bo (FiA Fi (one9 w.heap.size (.cells #[.int .i64 d, .int .i64 P, .int .i64 F, .int .i64 k, .int .i64 x] 34))) w0 w' p q w1.heap.size (drL L P 8) n L n ∧ w1.heap.size ≤ w'.heap.size) := fun w1 h1 => bof_drop (works_side HW.out _) h1 HL.out HN.out P
  have HR : Hid (∀ (w1 : World) (s : Nat) (u : Value), Bo (FiA Fi (one9 w.heap.size (.cells #[.int .i64 d, .int .i64 P, .int .i64 F, .int .i64 k, .int .i64 x] 34))) w0 w1 p q s (drL L P 8) n L n → OsIn w1 s u (drO L P 8) → s ≤ w1.heap.size → Calls Try.prog 28 #[.pointer (some ⟨q, 0, none⟩), .int .i64 P] w1 fun e w' => ∃ u', e = .returned u' ∧ OsIn w' s u' (drO L P 8) ∧ OsIn w' s u (drO L P 8) ∧ Bo (FiA Fi (one9 w.heap.size (.cells #[.int .i64 d, .int .i64 P, .int .i64 F, .int .i64 k, .int .i64 x] 34))) w0 w' p q w'.heap.size (drL L P 8) n (drL L P 8) n) := fun w1 s u h1 hu hs => bor_drop (works_side HW.out _) h1 HL.out P hu hs
  have HO8 : Hid ((drO L P 8).length ≤ 100000) := Nat.le_trans (drO_len L P 8) (by decide)
  have hc1 := h0.box.at 1 (v := .int .i64 P) rfl
  clear h h0 W hl hn hd
  generalize hO : drO L P 8 = O9 at *
  clear hO
  go_enter Try.func12, Try.ntmps12
  go_wp2
  generalize w.alloc (.cells #[.int .i64 d, .int .i64 P, .int .i64 F, .int .i64 k, .int .i64 x] 34) = W0 at *
  have HT0 := Lib.hid (HT.out.below (works_side HW.out _) (w' := W0.drew) (below_drewN' (k := 1) (Below.refl _ _)))
  go_region_held3 (fun w' => w'.cell? ⟨w.heap.size, 1, none⟩ = some (.int .i64 P)) (first | exact hc1 | exact d1 | exact e1 | exact f1) (first
    | (go_at_call 21; refine (HF.out _ HT0.out).mono ?_; rintro e w1 ⟨u1, rfl, hu1, h1, hs1⟩; have H1 := Lib.hid h1; have HU1 := Lib.hid hu1; have HS1 := Lib.hid hs1; have d1 := h1.box.at 1 (v := .int .i64 P) rfl; clear h1 hu1 hs1)
    | (go_at_call 28; refine (HR.out _ _ _ H1.out HU1.out HS1.out).mono ?_; rintro e w2 ⟨u2, rfl, hu2, hu1, h2⟩; have H2 := Lib.hid h2; have HU2 := Lib.hid hu2; have HU3 := Lib.hid hu1; have e1 := h2.box.at 1 (v := .int .i64 P) rfl; clear h2 hu1 hu2)
    | (go_at_call 27; refine (same9 HU3.out HU2.out HO8.out).mono ?_; rintro e w3 ⟨rfl, hb3⟩; rw [show decide (O9 = O9) = true from decide_eq_true rfl]; have H3 := Lib.hid (H2.out.below (works_side HW.out _) hb3); have f1 := H3.out.box.at 1 (v := .int .i64 P) rfl; clear hb3))
  go_wp2
  go_ret
  exact ⟨rfl, _, H3.out.un⟩

theorem did9 (W : Works Fi) (h : Bo Fi w0 w p q t L n L n) (hl : L.length ≤ 80000) (hn : n ≤ 80000) (d P F k x : Int) : Calls Try.prog 12 #[.pointer (some ⟨p, 0, none⟩), .pointer (some ⟨q, 0, none⟩), .agg #[.int .i64 d, .int .i64 P, .int .i64 F, .int .i64 k, .int .i64 x]] w fun e w' =>
    e = .returned (.bool true) ∧ ∃ t', Bo Fi w0 w' p q t' (actL (whichY d) P F k x L n) (actN (whichY d) P k x L n) (actL (whichY d) P F k x L n) (actN (whichY d) P k x L n) := by
  obtain ⟨y, hy, hd⟩ := mod8 d
  have hw : whichY d = y := by unfold whichY; rw [hd]; rfl
  rw [hw]
  match y, hy with
  | 0, _ => exact did9_0 W h hl hn d P F k x hd
  | 1, _ => exact did9_1 W h hl hn d P F k x hd
  | 2, _ => exact did9_2 W h hl hn d P F k x hd
  | 3, _ => exact did9_3 W h hl hn d P F k x hd
  | 4, _ => exact did9_4 W h hl hn d P F k x hd
  | 5, _ => exact did9_5 W h hl hn d P F k x hd
  | 6, _ => exact did9_6 W h hl hn d P F k x hd
  | 7, _ => exact did9_7 W h hl hn d P F k x hd
end
end Go.Proofs.Ytfgigofmmapbmaa
