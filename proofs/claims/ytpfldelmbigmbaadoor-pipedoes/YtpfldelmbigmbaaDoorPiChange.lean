/- Package pipe: change, Open. -/
import Derived.Test.YtpfldelmbigmbaaDoorPiMem
namespace Go.Proofs.YtpfldelmbigmbaaDoor
open Go.RowKit
section
variable {g : Nat} {A : Fin 4 → Addr} {w w' : World} {p q r v r' v' : Nat} {L L' : List UInt8}

set_option maxRecDepth 100000 in
set_option maxHeartbeats 1000000 in
/-- another end of a kind, or one less (d), where there may be. -/
theorem change_ok (h : PM g A w p q L r v) (i : Nat) (hi : i = 1 ∨ i = 2) (d : Int) (n m : Nat) (hn : n = if i = 1 then r else v) (hm : (m : Int) = n + d) (h100 : m ≤ 100) :
    Calls Tryd.prog 31 #[.pointer (some ⟨p, 0, none⟩), .int .i64 (i : Int), .int .i64 d] w fun e w' => e = .returned .nilIface ∧ PM g A w' p q L (if i = 1 then m else r) (if i = 1 then v else m) ∧ Tur p w w' := by
  have E := end_any p i w
  have hl := h.rl
  have hvl := h.vl
  have hn2 : n ≤ 100 := by rw [hn]; split <;> assumption
  have hw : IntKind.i64.wrap ((n : Int) + d) = (m : Int) := by rw [IntKind.wrap_i64]; omega
  have t1 : ¬ ((m : Int) < 0) := by omega
  have t2 : ¬ ((100 : Int) < (m : Int)) := by omega
  rcases hi with rfl | rfl
  · have c1 : w.cell? ⟨p, 1, none⟩ = some (.int .i64 (n : Int)) := by rw [hn]; exact h.box.at 1 rfl
    have f1 := h.box.f 1
    have HP : Hid (PM g A (w.setCell ⟨p, 1, none⟩ (.int .i64 (m : Int))) p q L m v) := h.turp ((Tur.refl w).set 1 _) (by have := h.box.set 1 (.int .i64 (m : Int)); exact this) h100 hvl
    have HT := Lib.hid ((Tur.refl (q := p) w).set 1 (.int .i64 (m : Int)))
    clear h hn hm
    have E2 : Calls Tryd.prog 33 #[.pointer (some ⟨p, 0, none⟩), .int .i64 1] w fun e w' => e = .returned (.pointer (some ⟨p, 1, none⟩)) ∧ w' = w := E
    go_enter Tryd.func31, Tryd.ntmps31
    go_wp2_with (go_at_call 33; refine E2.mono ?_; rintro e w' ⟨rfl, rfl⟩)
    go_ret
    exact ⟨rfl, HP.out, HT.out⟩
  · have c1 : w.cell? ⟨p, 2, none⟩ = some (.int .i64 (n : Int)) := by rw [hn]; exact h.box.at 2 rfl
    have f1 := h.box.f 2
    have HP : Hid (PM g A (w.setCell ⟨p, 2, none⟩ (.int .i64 (m : Int))) p q L r m) := h.turp ((Tur.refl w).set 2 _) (by have := h.box.set 2 (.int .i64 (m : Int)); exact this) hl h100
    have HT := Lib.hid ((Tur.refl (q := p) w).set 2 (.int .i64 (m : Int)))
    clear h hn hm
    have E2 : Calls Tryd.prog 33 #[.pointer (some ⟨p, 0, none⟩), .int .i64 2] w fun e w' => e = .returned (.pointer (some ⟨p, 2, none⟩)) ∧ w' = w := E
    go_enter Tryd.func31, Tryd.ntmps31
    go_wp2_with (go_at_call 33; refine E2.mono ?_; rintro e w' ⟨rfl, rfl⟩)
    go_ret
    exact ⟨rfl, HP.out, HT.out⟩

set_option maxRecDepth 100000 in
set_option maxHeartbeats 1000000 in
/-- there are as many as may be, or none. -/
theorem change_no (h : PM g A w p q L r v) (i : Nat) (hi : i = 1 ∨ i = 2) (d : Int) (n : Nat) (hn : n = if i = 1 then r else v) (hm : ((n : Int) + d < 0 ∧ d = -1) ∨ ((100 : Int) < (n : Int) + d ∧ d = 1)) :
    Calls Tryd.prog 31 #[.pointer (some ⟨p, 0, none⟩), .int .i64 (i : Int), .int .i64 d] w fun e w' => e = .returned (errV A (some 1)) ∧ w' = w := by
  have E := end_any p i w
  have hl := h.rl
  have hvl := h.vl
  have hn2 : n ≤ 100 := by rw [hn]; split <;> assumption
  have hw : IntKind.i64.wrap ((n : Int) + d) = (n : Int) + d := by rw [IntKind.wrap_i64]; omega
  obtain ⟨m, hM⟩ : ∃ m, (n : Int) + d = m := ⟨_, rfl⟩
  have cE := h.sen.v1
  generalize errV A (some 1) = x1 at *
  have hm2 : m < 0 ∨ (¬ (m < 0) ∧ (100 : Int) < m) := by omega
  rw [hM] at hw
  rcases hi with rfl | rfl
  · have c1 : w.cell? ⟨p, 1, none⟩ = some (.int .i64 (n : Int)) := by rw [hn]; exact h.box.at 1 rfl
    clear h hn hm
    have E2 : Calls Tryd.prog 33 #[.pointer (some ⟨p, 0, none⟩), .int .i64 1] w fun e w' => e = .returned (.pointer (some ⟨p, 1, none⟩)) ∧ w' = w := E
    rcases hm2 with t1 | ⟨t1, t2⟩
    all_goals
      go_enter Tryd.func31, Tryd.ntmps31
      go_wp2_with (go_at_call 33; refine E2.mono ?_; rintro e w' ⟨rfl, rfl⟩)
      go_ret
      exact ⟨rfl, rfl⟩
  · have c1 : w.cell? ⟨p, 2, none⟩ = some (.int .i64 (n : Int)) := by rw [hn]; exact h.box.at 2 rfl
    clear h hn hm
    have E2 : Calls Tryd.prog 33 #[.pointer (some ⟨p, 0, none⟩), .int .i64 2] w fun e w' => e = .returned (.pointer (some ⟨p, 2, none⟩)) ∧ w' = w := E
    rcases hm2 with t1 | ⟨t1, t2⟩
    all_goals
      go_enter Tryd.func31, Tryd.ntmps31
      go_wp2_with (go_at_call 33; refine E2.mono ?_; rintro e w' ⟨rfl, rfl⟩)
      go_ret
      exact ⟨rfl, rfl⟩

set_option maxRecDepth 100000 in
set_option maxHeartbeats 1000000 in
/-- it is no kind. -/
theorem change_odd (h : PM g A w p q L r v) (k : Int) (h1 : k ≠ 1) (h2 : k ≠ 2) (d : Int) :
    Calls Tryd.prog 31 #[.pointer (some ⟨p, 0, none⟩), .int .i64 k, .int .i64 d] w fun e w' => e = .returned (errV A (some 1)) ∧ w' = w := by
  have E : Calls Tryd.prog 33 #[.pointer (some ⟨p, 0, none⟩), .int .i64 k] w fun e w' => e = .returned (.pointer none) ∧ w' = w := by
    have := end_any p k w
    unfold endP at this
    rw [if_neg h1, if_neg h2] at this
    exact this
  have cE := h.sen.v1
  generalize errV A (some 1) = x1 at *
  clear h
  go_enter Tryd.func31, Tryd.ntmps31
  go_wp2_with (go_at_call 33; refine E.mono ?_; rintro e w' ⟨rfl, rfl⟩)
  go_ret
  exact ⟨rfl, rfl⟩

set_option maxRecDepth 100000 in
set_option maxHeartbeats 1000000 in
theorem change_nil (hs : Sen g A w) (k d : Int) :
    Calls Tryd.prog 31 #[.pointer none, .int .i64 k, .int .i64 d] w fun e w' => e = .returned (errV A (some 0)) ∧ w' = w := by
  have cE := hs.v0
  generalize errV A (some 0) = x1 at *
  clear hs
  go_enter Tryd.func31, Tryd.ntmps31
  go_wp2
  go_ret
  exact ⟨rfl, rfl⟩

/-- change(kind, 1), as a function on the two counts. -/
theorem change_up (h : PM g A w p q L r v) (k : Int) : Calls Tryd.prog 31 #[.pointer (some ⟨p, 0, none⟩), .int .i64 k, .int .i64 1] w fun e w' =>
    e = .returned (errV A (if opE r v k = 0 then none else some 1)) ∧ PM g A w' p q L (opR r v k) (opW r v k) ∧ Tur p w w' := by
  have hl := h.rl
  have hvl := h.vl
  unfold opR opW opE
  by_cases h1 : k = 1
  · subst h1
    by_cases c : r < 100
    · refine (change_ok h 1 (.inl rfl) 1 r (r + 1) rfl (by omega) (by omega)).mono ?_
      rintro e w' ⟨rfl, hp, ht⟩
      simp only [c, and_true, true_or, if_true, show ¬ ((1 : Int) = 2) by decide, and_false]
      exact ⟨rfl, hp, ht⟩
    · refine (change_no h 1 (.inl rfl) 1 r rfl (.inr ⟨by omega, rfl⟩)).mono ?_
      rintro e w' ⟨rfl, rfl⟩
      simp [c]
      exact ⟨h, Tur.refl _⟩
  by_cases h2 : k = 2
  · subst h2
    by_cases c : v < 100
    · refine (change_ok h 2 (.inr rfl) 1 v (v + 1) rfl (by omega) (by omega)).mono ?_
      rintro e w' ⟨rfl, hp, ht⟩
      simp [c]
      exact ⟨rfl, hp, ht⟩
    · refine (change_no h 2 (.inr rfl) 1 v rfl (.inr ⟨by omega, rfl⟩)).mono ?_
      rintro e w' ⟨rfl, rfl⟩
      simp [c]
      exact ⟨h, Tur.refl _⟩
  · refine (change_odd h k h1 h2 1).mono ?_
    rintro e w' ⟨rfl, rfl⟩
    simp [h1, h2]
    exact ⟨h, Tur.refl _⟩
/-- change(kind, -1). -/
theorem change_down (h : PM g A w p q L r v) (k : Int) : Calls Tryd.prog 31 #[.pointer (some ⟨p, 0, none⟩), .int .i64 k, .int .i64 (-1)] w fun e w' =>
    e = .returned (errV A (if clE r v k = 0 then none else some 1)) ∧ PM g A w' p q L (clR r v k) (clW r v k) ∧ Tur p w w' := by
  have hl := h.rl
  have hvl := h.vl
  unfold clR clW clE
  by_cases h1 : k = 1
  · subst h1
    by_cases c : 0 < r
    · refine (change_ok h 1 (.inl rfl) (-1) r (r - 1) rfl (by omega) (by omega)).mono ?_
      rintro e w' ⟨rfl, hp, ht⟩
      simp only [c, and_true, true_or, if_true, show ¬ ((1 : Int) = 2) by decide, and_false]
      exact ⟨rfl, hp, ht⟩
    · refine (change_no h 1 (.inl rfl) (-1) r rfl (.inl ⟨by omega, rfl⟩)).mono ?_
      rintro e w' ⟨rfl, rfl⟩
      simp [c]
      exact ⟨h, Tur.refl _⟩
  by_cases h2 : k = 2
  · subst h2
    by_cases c : 0 < v
    · refine (change_ok h 2 (.inr rfl) (-1) v (v - 1) rfl (by omega) (by omega)).mono ?_
      rintro e w' ⟨rfl, hp, ht⟩
      simp [c]
      exact ⟨rfl, hp, ht⟩
    · refine (change_no h 2 (.inr rfl) (-1) v rfl (.inl ⟨by omega, rfl⟩)).mono ?_
      rintro e w' ⟨rfl, rfl⟩
      simp [c]
      exact ⟨h, Tur.refl _⟩
  · refine (change_odd h k h1 h2 (-1)).mono ?_
    rintro e w' ⟨rfl, rfl⟩
    simp [h1, h2]
    exact ⟨h, Tur.refl _⟩

set_option maxRecDepth 100000 in
set_option maxHeartbeats 1000000 in
theorem pi_open (h : PM g A w p q L r v) (k : Int) : Calls Tryd.prog 17 #[.pointer (some ⟨p, 0, none⟩), .int .i64 k] w fun e w' =>
    e = .returned (.int .i64 (opE r v k)) ∧ PM g A w' p q L (opR r v k) (opW r v k) ∧ Tur p w w' := by
  have C := Lib.hid (change_up h k)
  obtain ⟨o, ho⟩ : ∃ o, (if opE r v k = 0 then none else some 1 : Option (Fin 4)) = o := ⟨_, rfl⟩
  have hn : numE o = opE r v k := by
    rw [← ho]
    unfold opE
    split <;> simp [numE]
  rw [ho] at C
  rw [← hn]
  generalize opR r v k = r' at *
  generalize opW r v k = v' at *
  clear ho hn h
  have N : ∀ (w' : World), PM g A w' p q L r' v' → Calls Tryd.prog 26 #[errV A o] w' fun e w'' => e = .returned (.int .i64 (numE o)) ∧ w'' = w' := fun w' h => number_any h.sen o
  have HN := Lib.hid N
  clear N
  generalize numE o = x at *
  generalize errV A o = y at *
  go_enter Tryd.func17, Tryd.ntmps17
  go_wp2_with (first
    | (go_at_call 31; refine C.out.mono ?_; clear C; rintro e w1 ⟨rfl, hp, ht⟩; have HP := Lib.hid hp; have HT := Lib.hid ht; clear hp ht)
    | (go_at_call 26; refine (HN.out _ HP.out).mono ?_; rintro e w2 ⟨rfl, rfl⟩))
  go_ret
  exact ⟨rfl, HP.out, HT.out⟩
end
end Go.Proofs.YtpfldelmbigmbaaDoor
