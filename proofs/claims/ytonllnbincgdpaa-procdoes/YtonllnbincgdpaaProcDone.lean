/- The law's package: text, done, walked. -/
import Derived.Test.YtonllnbincgdpaaProcExit
import Derived.Test.YtonllnbincgdpaaProcWait
import Derived.Test.YtonllnbincgdpaaProcBecome
namespace Go.Proofs.Ytonllnbincgdpaa
open Go.RowKit

def textS (s : ByteArray) : ByteArray := s.extract 0 (min (s.size : Int) 20).toNat

set_option maxHeartbeats 400000 in
theorem text_any (s : ByteArray) (hs : s.size ≤ maxLen) (w : World) : Calls Try.prog 24 #[.string s] w fun e w' => e = .returned (.string (textS s)) ∧ w = w' := by
  unfold maxLen at hs
  go_enter Try.func24, Try.ntmps24
  go_wp2
  go_ret
  exact ⟨rfl, rfl⟩

/-- what an act makes of a table; the number that it gives. -/
def stL (y k t u v : Int) (s : ByteArray) (L : List PV) (g : Int) : List PV := if y = 0 ∨ y = 1 then forkL L g k else if y = 2 then becL L k u v else if y = 3 then exL L k t else if y = 4 then waL L k else if y = 5 then kiL L k else if y = 6 then slL L k (textS s) else wakL L (textS s)
def stG (y k : Int) (L : List PV) (g : Int) : Int := if y = 0 ∨ y = 1 then forkG L g k else g
def stN (y k : Int) (L : List PV) (g : Int) : Int := if y = 0 ∨ y = 1 then forkN L g k else 0

section
variable {w : World} {p m : Nat} {L : List PV} {g : Int}

set_option maxRecDepth 100000 in
set_option maxHeartbeats 2000000 in
theorem done_fork0 (hW : TabAt w p m L g) (d k t u v : Int) (s : ByteArray) (hs : s.size ≤ maxLen) (x0 : ((IntKind.u64.wrap d).tmod 8 == 0) = true) :
    Calls Try.prog 23 #[.pointer (some ⟨p, 0, none⟩), .agg #[.int .i64 d, .int .i64 k, .int .i64 t, .int .i64 u, .int .i64 v, .string s]] w fun e w' => e = .returned (.int .i64 (forkN L g k)) ∧ TabAt w' p m (forkL L g k) (forkG L g k) ∧ Turn p m w w' := by
  have HT := Lib.hid (hW.alloc (.cells #[.int .i64 d, .int .i64 k, .int .i64 t, .int .i64 u, .int .i64 v, .string s] 32))
  have HB := Lib.hid ((Below.refl w.heap.size w).alloc (Nat.le_refl _) (.cells #[.int .i64 d, .int .i64 k, .int .i64 t, .int .i64 u, .int .i64 v, .string s] 32))
  have HS := Lib.hid hs
  have hpl := hW.p_lt; have hml := hW.m_lt
  clear hW hs
  go_enter Try.func23, Try.ntmps23
  go_wp2_with (go_at_call 16; refine (fork_any HT.out k).mono ?_; rintro e w1 ⟨rfl, h1, h2⟩)
  go_ret
  exact ⟨rfl, h1, (Turn.of_below HB.out).trans h2⟩

set_option maxRecDepth 100000 in
set_option maxHeartbeats 2000000 in
theorem done_fork1 (hW : TabAt w p m L g) (d k t u v : Int) (s : ByteArray) (hs : s.size ≤ maxLen) (x0 : ((IntKind.u64.wrap d).tmod 8 == 0) = false) (x1 : ((IntKind.u64.wrap d).tmod 8 == 1) = true) :
    Calls Try.prog 23 #[.pointer (some ⟨p, 0, none⟩), .agg #[.int .i64 d, .int .i64 k, .int .i64 t, .int .i64 u, .int .i64 v, .string s]] w fun e w' => e = .returned (.int .i64 (forkN L g k)) ∧ TabAt w' p m (forkL L g k) (forkG L g k) ∧ Turn p m w w' := by
  have HT := Lib.hid (hW.alloc (.cells #[.int .i64 d, .int .i64 k, .int .i64 t, .int .i64 u, .int .i64 v, .string s] 32))
  have HB := Lib.hid ((Below.refl w.heap.size w).alloc (Nat.le_refl _) (.cells #[.int .i64 d, .int .i64 k, .int .i64 t, .int .i64 u, .int .i64 v, .string s] 32))
  have HS := Lib.hid hs
  have hpl := hW.p_lt; have hml := hW.m_lt
  clear hW hs
  go_enter Try.func23, Try.ntmps23
  go_wp2_with (go_at_call 16; refine (fork_any HT.out k).mono ?_; rintro e w1 ⟨rfl, h1, h2⟩)
  go_ret
  exact ⟨rfl, h1, (Turn.of_below HB.out).trans h2⟩

set_option maxRecDepth 100000 in
set_option maxHeartbeats 2000000 in
theorem done_become (hW : TabAt w p m L g) (d k t u v : Int) (s : ByteArray) (hs : s.size ≤ maxLen) (x0 : ((IntKind.u64.wrap d).tmod 8 == 0) = false) (x1 : ((IntKind.u64.wrap d).tmod 8 == 1) = false) (x2 : ((IntKind.u64.wrap d).tmod 8 == 2) = true) :
    Calls Try.prog 23 #[.pointer (some ⟨p, 0, none⟩), .agg #[.int .i64 d, .int .i64 k, .int .i64 t, .int .i64 u, .int .i64 v, .string s]] w fun e w' => e = .returned (.int .i64 (0)) ∧ TabAt w' p m (becL L k u v) (g) ∧ Turn p m w w' := by
  have HT := Lib.hid (hW.alloc (.cells #[.int .i64 d, .int .i64 k, .int .i64 t, .int .i64 u, .int .i64 v, .string s] 32))
  have HB := Lib.hid ((Below.refl w.heap.size w).alloc (Nat.le_refl _) (.cells #[.int .i64 d, .int .i64 k, .int .i64 t, .int .i64 u, .int .i64 v, .string s] 32))
  have HS := Lib.hid hs
  have hpl := hW.p_lt; have hml := hW.m_lt
  clear hW hs
  go_enter Try.func23, Try.ntmps23
  go_wp2_with (go_at_call 18; refine (become_any HT.out k u v).mono ?_; rintro e w1 ⟨rfl, h1, h2⟩)
  go_ret
  exact ⟨rfl, h1, (Turn.of_below HB.out).trans h2⟩

set_option maxRecDepth 100000 in
set_option maxHeartbeats 2000000 in
theorem done_exit (hW : TabAt w p m L g) (d k t u v : Int) (s : ByteArray) (hs : s.size ≤ maxLen) (x0 : ((IntKind.u64.wrap d).tmod 8 == 0) = false) (x1 : ((IntKind.u64.wrap d).tmod 8 == 1) = false) (x2 : ((IntKind.u64.wrap d).tmod 8 == 2) = false) (x3 : ((IntKind.u64.wrap d).tmod 8 == 3) = true) :
    Calls Try.prog 23 #[.pointer (some ⟨p, 0, none⟩), .agg #[.int .i64 d, .int .i64 k, .int .i64 t, .int .i64 u, .int .i64 v, .string s]] w fun e w' => e = .returned (.int .i64 (0)) ∧ TabAt w' p m (exL L k t) (g) ∧ Turn p m w w' := by
  have HT := Lib.hid (hW.alloc (.cells #[.int .i64 d, .int .i64 k, .int .i64 t, .int .i64 u, .int .i64 v, .string s] 32))
  have HB := Lib.hid ((Below.refl w.heap.size w).alloc (Nat.le_refl _) (.cells #[.int .i64 d, .int .i64 k, .int .i64 t, .int .i64 u, .int .i64 v, .string s] 32))
  have HS := Lib.hid hs
  have hpl := hW.p_lt; have hml := hW.m_lt
  clear hW hs
  go_enter Try.func23, Try.ntmps23
  go_wp2_with (go_at_call 19; refine (exit_any HT.out k t).mono ?_; rintro e w1 ⟨rfl, h1, h2⟩)
  go_ret
  exact ⟨rfl, h1, (Turn.of_below HB.out).trans h2⟩

set_option maxRecDepth 100000 in
set_option maxHeartbeats 2000000 in
theorem done_wait (hW : TabAt w p m L g) (d k t u v : Int) (s : ByteArray) (hs : s.size ≤ maxLen) (x0 : ((IntKind.u64.wrap d).tmod 8 == 0) = false) (x1 : ((IntKind.u64.wrap d).tmod 8 == 1) = false) (x2 : ((IntKind.u64.wrap d).tmod 8 == 2) = false) (x3 : ((IntKind.u64.wrap d).tmod 8 == 3) = false) (x4 : ((IntKind.u64.wrap d).tmod 8 == 4) = true) :
    Calls Try.prog 23 #[.pointer (some ⟨p, 0, none⟩), .agg #[.int .i64 d, .int .i64 k, .int .i64 t, .int .i64 u, .int .i64 v, .string s]] w fun e w' => e = .returned (.int .i64 (0)) ∧ TabAt w' p m (waL L k) (g) ∧ Turn p m w w' := by
  have HT := Lib.hid (hW.alloc (.cells #[.int .i64 d, .int .i64 k, .int .i64 t, .int .i64 u, .int .i64 v, .string s] 32))
  have HB := Lib.hid ((Below.refl w.heap.size w).alloc (Nat.le_refl _) (.cells #[.int .i64 d, .int .i64 k, .int .i64 t, .int .i64 u, .int .i64 v, .string s] 32))
  have HS := Lib.hid hs
  have hpl := hW.p_lt; have hml := hW.m_lt
  clear hW hs
  go_enter Try.func23, Try.ntmps23
  go_wp2_with (go_at_call 17; refine (wait_any HT.out k).mono ?_; rintro e w1 ⟨rfl, h1, h2⟩)
  go_ret
  exact ⟨rfl, h1, (Turn.of_below HB.out).trans h2⟩

set_option maxRecDepth 100000 in
set_option maxHeartbeats 2000000 in
theorem done_kill (hW : TabAt w p m L g) (d k t u v : Int) (s : ByteArray) (hs : s.size ≤ maxLen) (x0 : ((IntKind.u64.wrap d).tmod 8 == 0) = false) (x1 : ((IntKind.u64.wrap d).tmod 8 == 1) = false) (x2 : ((IntKind.u64.wrap d).tmod 8 == 2) = false) (x3 : ((IntKind.u64.wrap d).tmod 8 == 3) = false) (x4 : ((IntKind.u64.wrap d).tmod 8 == 4) = false) (x5 : ((IntKind.u64.wrap d).tmod 8 == 5) = true) :
    Calls Try.prog 23 #[.pointer (some ⟨p, 0, none⟩), .agg #[.int .i64 d, .int .i64 k, .int .i64 t, .int .i64 u, .int .i64 v, .string s]] w fun e w' => e = .returned (.int .i64 (0)) ∧ TabAt w' p m (kiL L k) (g) ∧ Turn p m w w' := by
  have HT := Lib.hid (hW.alloc (.cells #[.int .i64 d, .int .i64 k, .int .i64 t, .int .i64 u, .int .i64 v, .string s] 32))
  have HB := Lib.hid ((Below.refl w.heap.size w).alloc (Nat.le_refl _) (.cells #[.int .i64 d, .int .i64 k, .int .i64 t, .int .i64 u, .int .i64 v, .string s] 32))
  have HS := Lib.hid hs
  have hpl := hW.p_lt; have hml := hW.m_lt
  clear hW hs
  go_enter Try.func23, Try.ntmps23
  go_wp2_with (go_at_call 20; refine (tkill_any HT.out k).mono ?_; rintro e w1 ⟨rfl, h1, h2⟩)
  go_ret
  exact ⟨rfl, h1, (Turn.of_below HB.out).trans h2⟩

set_option maxRecDepth 100000 in
set_option maxHeartbeats 2000000 in
theorem done_wake (hW : TabAt w p m L g) (d k t u v : Int) (s : ByteArray) (hs : s.size ≤ maxLen) (x0 : ((IntKind.u64.wrap d).tmod 8 == 0) = false) (x1 : ((IntKind.u64.wrap d).tmod 8 == 1) = false) (x2 : ((IntKind.u64.wrap d).tmod 8 == 2) = false) (x3 : ((IntKind.u64.wrap d).tmod 8 == 3) = false) (x4 : ((IntKind.u64.wrap d).tmod 8 == 4) = false) (x5 : ((IntKind.u64.wrap d).tmod 8 == 5) = false) (x6 : ((IntKind.u64.wrap d).tmod 8 == 6) = false) :
    Calls Try.prog 23 #[.pointer (some ⟨p, 0, none⟩), .agg #[.int .i64 d, .int .i64 k, .int .i64 t, .int .i64 u, .int .i64 v, .string s]] w fun e w' => e = .returned (.int .i64 (0)) ∧ TabAt w' p m (wakL L (textS s)) (g) ∧ Turn p m w w' := by
  have HT := Lib.hid (hW.alloc (.cells #[.int .i64 d, .int .i64 k, .int .i64 t, .int .i64 u, .int .i64 v, .string s] 32))
  have HB := Lib.hid ((Below.refl w.heap.size w).alloc (Nat.le_refl _) (.cells #[.int .i64 d, .int .i64 k, .int .i64 t, .int .i64 u, .int .i64 v, .string s] 32))
  have HS := Lib.hid hs
  have hpl := hW.p_lt; have hml := hW.m_lt
  clear hW hs
  go_enter Try.func23, Try.ntmps23
  go_wp2_with (first | (go_at_call 24; refine (text_any s HS.out _).mono ?_; rintro e w' ⟨rfl, rfl⟩) | (go_at_call 22; refine (wake_any HT.out (textS s)).mono ?_; rintro e w1 ⟨vv, rfl, hv, h1, h2⟩))
  go_ret
  exact ⟨rfl, h1, (Turn.of_below HB.out).trans h2⟩

set_option maxRecDepth 100000 in
set_option maxHeartbeats 2000000 in
theorem done_sleep (hW : TabAt w p m L g) (d k t u v : Int) (s : ByteArray) (hs : s.size ≤ maxLen) (x0 : ((IntKind.u64.wrap d).tmod 8 == 0) = false) (x1 : ((IntKind.u64.wrap d).tmod 8 == 1) = false) (x2 : ((IntKind.u64.wrap d).tmod 8 == 2) = false) (x3 : ((IntKind.u64.wrap d).tmod 8 == 3) = false) (x4 : ((IntKind.u64.wrap d).tmod 8 == 4) = false) (x5 : ((IntKind.u64.wrap d).tmod 8 == 5) = false) (x6 : ((IntKind.u64.wrap d).tmod 8 == 6) = true) :
    Calls Try.prog 23 #[.pointer (some ⟨p, 0, none⟩), .agg #[.int .i64 d, .int .i64 k, .int .i64 t, .int .i64 u, .int .i64 v, .string s]] w fun e w' => e = .returned (.int .i64 (0)) ∧ TabAt w' p m (slL L k (textS s)) (g) ∧ Turn p m w w' := by
  have HT := Lib.hid (hW.alloc (.cells #[.int .i64 d, .int .i64 k, .int .i64 t, .int .i64 u, .int .i64 v, .string s] 32))
  have HB := Lib.hid ((Below.refl w.heap.size w).alloc (Nat.le_refl _) (.cells #[.int .i64 d, .int .i64 k, .int .i64 t, .int .i64 u, .int .i64 v, .string s] 32))
  have HS := Lib.hid hs
  have hpl := hW.p_lt; have hml := hW.m_lt
  clear hW hs
  go_enter Try.func23, Try.ntmps23
  have hc1 : (w.alloc (.cells #[.int .i64 d, .int .i64 k, .int .i64 t, .int .i64 u, .int .i64 v, .string s] 32)).cell? ⟨w.heap.size, 1, none⟩ = some (.int .i64 k) := by simp
  have hc5 : (w.alloc (.cells #[.int .i64 d, .int .i64 k, .int .i64 t, .int .i64 u, .int .i64 v, .string s] 32)).cell? ⟨w.heap.size, 5, none⟩ = some (.string s) := by simp
  have hne : w.heap.size < (w.alloc (.cells #[.int .i64 d, .int .i64 k, .int .i64 t, .int .i64 u, .int .i64 v, .string s] 32)).heap.size := by simp
  go_wp2
  generalize w.alloc (.cells #[.int .i64 d, .int .i64 k, .int .i64 t, .int .i64 u, .int .i64 v, .string s] 32) = W0 at *
  go_region_held3 (fun w' => w'.cell? ⟨w.heap.size, 1, none⟩ = some (.int .i64 k) ∧ w'.cell? ⟨w.heap.size, 5, none⟩ = some (.string s)) (first | exact ⟨hc1, hc5⟩ | exact ⟨d1, d5⟩) (first
    | (go_at_call 24; refine (text_any s HS.out _).mono ?_; rintro e w' ⟨rfl, rfl⟩)
    | (go_at_call 21; refine (tsleep_any (HT.out.keep (w' := W0.drew) rfl rfl) k (textS s)).mono ?_; rintro e w1 ⟨rfl, h1, h2'⟩; have d1 := (h2'.cell (b := w.heap.size) (o := 1) hne (by omega) (by omega)).trans hc1; have d5 := (h2'.cell (b := w.heap.size) (o := 5) hne (by omega) (by omega)).trans hc5; have h2 := h2'.drew))
  go_wp2
  go_ret
  exact ⟨rfl, h1, (Turn.of_below HB.out).trans h2⟩

theorem beq_t {a b : Int} (h : (a == b) = true) : a = b := by simpa using h
theorem beq_f {a b : Int} (h : (a == b) = false) : a ≠ b := by simpa using h

theorem done_any (hW : TabAt w p m L g) (d k t u v : Int) (s : ByteArray) (hs : s.size ≤ maxLen) :
    Calls Try.prog 23 #[.pointer (some ⟨p, 0, none⟩), .agg #[.int .i64 d, .int .i64 k, .int .i64 t, .int .i64 u, .int .i64 v, .string s]] w fun e w' => e = .returned (.int .i64 (stN ((IntKind.u64.wrap d).tmod 8) k L g)) ∧ TabAt w' p m (stL ((IntKind.u64.wrap d).tmod 8) k t u v s L g) (stG ((IntKind.u64.wrap d).tmod 8) k L g) ∧ Turn p m w w' := by
  unfold stN stL stG
  cases x0 : ((IntKind.u64.wrap d).tmod 8 == 0) with
  | true => simpa [beq_t x0] using done_fork0 hW d k t u v s hs x0
  | false =>
    cases x1 : ((IntKind.u64.wrap d).tmod 8 == 1) with
    | true => simpa [beq_t x1] using done_fork1 hW d k t u v s hs x0 x1
    | false =>
      cases x2 : ((IntKind.u64.wrap d).tmod 8 == 2) with
      | true => simpa [beq_t x2] using done_become hW d k t u v s hs x0 x1 x2
      | false =>
        cases x3 : ((IntKind.u64.wrap d).tmod 8 == 3) with
        | true => simpa [beq_t x3] using done_exit hW d k t u v s hs x0 x1 x2 x3
        | false =>
          cases x4 : ((IntKind.u64.wrap d).tmod 8 == 4) with
          | true => simpa [beq_t x4] using done_wait hW d k t u v s hs x0 x1 x2 x3 x4
          | false =>
            cases x5 : ((IntKind.u64.wrap d).tmod 8 == 5) with
            | true => simpa [beq_t x5] using done_kill hW d k t u v s hs x0 x1 x2 x3 x4 x5
            | false =>
              cases x6 : ((IntKind.u64.wrap d).tmod 8 == 6) with
              | true => simpa [beq_t x6] using done_sleep hW d k t u v s hs x0 x1 x2 x3 x4 x5 x6
              | false =>
                simpa [beq_f x0, beq_f x1, beq_f x2, beq_f x3, beq_f x4, beq_f x5, beq_f x6] using done_wake hW d k t u v s hs x0 x1 x2 x3 x4 x5 x6
end
end Go.Proofs.Ytonllnbincgdpaa
