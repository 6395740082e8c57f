/- Package pipe: every call, as a function on bytes, readers, writers: Works10, NewP; a nil pipe. -/
import Derived.Test.YtpfldelmbigmbaaDoorPiEnds
import Derived.Test.YtpfldelmbigmbaaDoorPiWorks
namespace Go.Proofs.YtpfldelmbigmbaaDoor
open Go.RowKit

section
variable {g : Nat} {A : Fin 4 → Addr} {w w' : World} {p q r v b : Nat} {L : List UInt8}

set_option maxRecDepth 100000 in
set_option maxHeartbeats 1000000 in
theorem pi_new (hs : Sen g A w) : Calls Tryd.prog 11 #[] w fun e w' => ∃ p q, e = .returned (.pointer (some ⟨p, 0, none⟩)) ∧ PM g A w' p q [] 1 1 ∧ w.heap.size ≤ p ∧ w.heap.size ≤ q ∧ Below w.heap.size w w' := by
  have R := Lib.hid (rnew 32 (by decide) (by decide) w)
  have HS := Lib.hid hs
  have hg := hs.gle
  clear hs
  go_enter Tryd.func11, Tryd.ntmps11
  go_wp2_with (go_at_call 25; refine R.out.mono ?_; rintro e w1 ⟨rfl, hr, hb⟩; have HR := Lib.hid hr; have HB := Lib.hid hb; clear hr hb)
  go_ret
  have hl := HR.out.lt
  have hb := HB.out.size
  have hB := HB.out.alloc hb (.cells (pipeV w.heap.size 1 1) 56)
  exact ⟨w1.heap.size, w.heap.size, rfl, ⟨BoxA.new _ _ _, HR.out.keep (Below.heap_alloc w1 _ _ hl), by omega, by omega, by omega, HS.out.below hB hg, by omega, by omega⟩, by omega, Nat.le_refl _, hB⟩

set_option maxRecDepth 100000 in
set_option maxHeartbeats 1000000 in
theorem pi_close (h : PM g A w p q L r v) (k : Int) : Calls Tryd.prog 19 #[.pointer (some ⟨p, 0, none⟩), .int .i64 k] w fun e w' =>
    e = .returned (.tuple #[.bool (clB r v k), .int .i64 (clE r v k)]) ∧ PM g A w' p q L (clR r v k) (clW r v k) ∧ Tur p w w' := by
  have C := Lib.hid (change_down h k)
  unfold clB
  obtain ⟨o, ho⟩ : ∃ o, (if clE r v k = 0 then none else some 1 : Option (Fin 4)) = o := ⟨_, rfl⟩
  have hn : numE o = clE r v k := by
    rw [← ho]
    unfold clE
    split <;> simp [numE]
  have h02 : clE r v k = 0 ∨ clE r v k = 2 := by unfold clE; split <;> simp
  rw [ho] at C
  generalize clR r v k = r' at *
  generalize clW r v k = v' at *
  have N : ∀ (w' : World), PM g A w' p q L r' v' → Calls Tryd.prog 26 #[errV A o] w' fun e w'' => e = .returned (.int .i64 (clE r v k)) ∧ w'' = w' := fun w' h => by rw [← hn]; exact number_any h.sen o
  have HN := Lib.hid N
  have KB : ∀ (w1 : World), PM g A w1 p q L r' v' → Calls Tryd.prog 32 #[.pointer (some ⟨p, 0, none⟩), .slice (some ⟨w1.heap.size, 0, none⟩) 2 2] (w1.alloc (.cells #[.int .i64 1, .int .i64 2] 3)) fun e w' => e = .returned (.bool (r' == 0 && v' == 0)) ∧ Below w1.heap.size w1 w' := fun _ h => none_both h
  have HKB := Lib.hid KB
  clear N KB ho hn h
  generalize clE r v k = x at *
  generalize errV A o = y at *
  have hz : (r' == 0 && v' == 0) = (r' + v' == 0) := by rw [Bool.eq_iff_iff]; simp
  rw [hz] at HKB
  clear hz
  rcases h02 with rfl | rfl
  · rw [show ((0 : Int) == 0 && r' + v' == 0) = (r' + v' == 0) by simp]
    generalize (r' + v' == 0) = z at *
    go_enter Tryd.func19, Tryd.ntmps19
    go_wp2_with (first
      | (go_at_call 31; refine C.out.mono ?_; clear C; rintro e w1 ⟨rfl, hp, ht⟩; have HP := Lib.hid hp; have HT := Lib.hid ht; clear hp ht)
      | (go_at_call 26; refine (HN.out _ HP.out).mono ?_; rintro e w2 ⟨rfl, rfl⟩)
      | (go_at_call 32; refine (HKB.out _ HP.out).mono ?_; rintro e w3 ⟨rfl, hb⟩; have HB := Lib.hid hb; clear hb))
    refine bodyPost_ret (v := .tuple #[.bool z, .int .i64 0]) (by simp [results, Tryd.results19, go_sem]) rfl ?_
    exact ⟨rfl, HP.out.below' HB.out, HT.out.trans (Tur.of_below HB.out)⟩
  · rw [show ((2 : Int) == 0 && r' + v' == 0) = false by simp]
    go_enter Tryd.func19, Tryd.ntmps19
    go_wp2_with (first
      | (go_at_call 31; refine C.out.mono ?_; clear C; rintro e w1 ⟨rfl, hp, ht⟩; have HP := Lib.hid hp; have HT := Lib.hid ht; clear hp ht)
      | (go_at_call 26; refine (HN.out _ HP.out).mono ?_; rintro e w2 ⟨rfl, rfl⟩))
    refine bodyPost_ret (v := .tuple #[.bool false, .int .i64 2]) (by simp [results, Tryd.results19, go_sem]) rfl ?_
    exact ⟨rfl, HP.out, HT.out⟩

set_option maxRecDepth 100000 in
set_option maxHeartbeats 1000000 in
theorem pi_read (h : PM g A w p q L r v) (n : Int) (hn : n ≤ 9223372036854775807) : Calls Tryd.prog 12 #[.pointer (some ⟨p, 0, none⟩), .int .i64 n] w fun e w' =>
    e = .returned (.tuple #[strP (rdS L v n), .int .i64 (rdE L v n)]) ∧ PM g A w' p q (rdL L v n) r v ∧ Tur q w w' := by
  have C := Lib.hid (reading_any h n)
  have H := Lib.hid h
  have hN := numE_errR L v n
  generalize errR L v n = o at *
  have N : ∀ (w' : World), PM g A w' p q L r v → Calls Tryd.prog 26 #[errV A o] w' fun e w'' => e = .returned (.int .i64 (rdE L v n)) ∧ w'' = w' := fun w' h => by rw [← hN]; exact number_any h.sen o
  have HN := Lib.hid N
  clear N hN h
  generalize errV A o = y at *
  by_cases h0 : rdE L v n = 0
  · have hn0 : 0 ≤ n := by
      rcases Int.lt_or_le n 0 with c | c
      · unfold rdE at h0; rw [if_pos c] at h0; cases h0
      · exact c
    unfold rdS rdL
    rw [if_pos h0, if_pos h0]
    rw [h0] at HN ⊢
    clear h0
    obtain ⟨m, rfl⟩ : ∃ m : Nat, n = m := ⟨n.toNat, by omega⟩
    rw [Int.toNat_natCast]
    have KG : ∀ (w1 : World), PM g A w1 p q L r v → Calls Tryd.prog 28 #[.pointer (some ⟨q, 0, none⟩), .int .i64 (m : Int)] w1 fun e w' => e = .returned (.tuple #[.string ⟨(L.take m).toArray⟩, .int .i64 0]) ∧ PM g A w' p q (L.drop m) r v ∧ Tur q w1 w' := fun w1 h => by
      refine (rget h.ring m (by omega)).mono ?_
      rintro e w' ⟨rfl, hr, ht⟩
      exact ⟨rfl, h.turq ht hr, ht⟩
    have KC : ∀ (w1 : World), PM g A w1 p q L r v → w1.cell? ⟨p, 0, none⟩ = some (.pointer (some ⟨q, 0, none⟩)) := fun _ h => h.box.at 0 rfl
    have HKG := Lib.hid KG; have HKC := Lib.hid KC
    clear KG KC
    unfold strP
    go_enter Tryd.func12, Tryd.ntmps12
    go_wp2_with (first
      | (go_at_call 27; refine C.out.mono ?_; clear C; rintro e w1 ⟨rfl, hb⟩; have HB := Lib.hid hb; have HP := Lib.hid (H.out.below' hb); have c1 := HKC.out _ HP.out; clear hb)
      | (go_at_call 26; refine (HN.out _ HP.out).mono ?_; rintro e w2 ⟨rfl, rfl⟩)
      | (go_at_call 28; refine (HKG.out _ HP.out).mono ?_; rintro e w3 ⟨rfl, hp3, ht3⟩; have HP3 := Lib.hid hp3; have HT3 := Lib.hid ht3; clear hp3 ht3 c1))
    refine bodyPost_ret (v := .tuple #[.string ⟨(L.take m).toArray⟩, .int .i64 0]) (by simp [results, Tryd.results12, go_sem]) rfl ?_
    exact ⟨rfl, HP3.out, (Tur.of_below HB.out).trans HT3.out⟩
  · obtain ⟨e1, e2⟩ := rd_no h0
    rw [e1, e2]
    have h0' : (rdE L v n != 0) = true := by simpa using h0
    have h0'' : (rdE L v n == 0) = false := by simpa using h0
    generalize rdE L v n = x at *
    clear e1 e2
    unfold strP
    go_enter Tryd.func12, Tryd.ntmps12
    go_wp2_with (first
      | (go_at_call 27; refine C.out.mono ?_; clear C; rintro e w1 ⟨rfl, hb⟩; have HB := Lib.hid hb; have HP := Lib.hid (H.out.below' hb); clear hb)
      | (go_at_call 26; refine (HN.out _ HP.out).mono ?_; rintro e w2 ⟨rfl, rfl⟩))
    refine bodyPost_ret (v := .tuple #[.string ⟨#[]⟩, .int .i64 x]) (by simp [results, Tryd.results12, go_sem]) rfl ?_
    exact ⟨rfl, HP.out, Tur.of_below HB.out⟩

set_option maxRecDepth 100000 in
set_option maxHeartbeats 1000000 in
theorem pi_write (h : PM g A w p q L r v) (s : ByteArray) (hs : s.size ≤ 1000 ∨ r = 0) : Calls Tryd.prog 14 #[.pointer (some ⟨p, 0, none⟩), .string s] w fun e w' =>
    e = .returned (.tuple #[.int .i64 (wrN L r s.data.toList : Nat), .int .i64 (wrE L r s.data.toList)]) ∧ PM g A w' p q (wrL L r s.data.toList) r v ∧ Tur q w w' := by
  have C := Lib.hid (writing_any h (s.size : Int))
  have H := Lib.hid h
  have hsz : s.data.toList.length = s.size := (Lib.size_eq s).symm
  have hN := numE_errW L r s.data.toList (s.size : Int) (by
    rw [← hsz]
    cases s.data.toList <;> simp <;> omega)
  generalize errW L r (s.size : Int) = o at *
  have N : ∀ (w' : World), PM g A w' p q L r v → Calls Tryd.prog 26 #[errV A o] w' fun e w'' => e = .returned (.int .i64 (wrE L r s.data.toList)) ∧ w'' = w' := fun w' h => by rw [← hN]; exact number_any h.sen o
  have HN := Lib.hid N
  have hle := h.ring.le
  clear N hN h
  generalize errV A o = y at *
  by_cases h0 : wrE L r s.data.toList = 0
  · have hr0 : ¬ r = 0 := fun c => by unfold wrE at h0; rw [if_pos c] at h0; cases h0
    have hs' : s.size ≤ 1000 := by rcases hs with c | c; exact c; exact absurd c hr0
    have e1 : wrN L r s.data.toList = min s.size (32 - L.length) := by unfold wrN; rw [if_pos h0, hsz]
    have e2 : wrL L r s.data.toList = L ++ s.data.toList.take (32 - L.length) := by
      unfold wrL
      rw [e1]
      congr 1
      by_cases c : 32 - L.length ≤ s.size
      · rw [Nat.min_eq_right c]
      · rw [Nat.min_eq_left (by omega), List.take_of_length_le (by omega), List.take_of_length_le (by omega)]
    rw [e1, e2, h0]
    rw [h0] at HN
    have KG : ∀ (w1 : World), PM g A w1 p q L r v → Calls Tryd.prog 30 #[.pointer (some ⟨q, 0, none⟩), .string s] w1 fun e w' => e = .returned (.tuple #[.int .i64 ((min s.size (32 - L.length) : Nat) : Int), .int .i64 0]) ∧ PM g A w' p q (L ++ s.data.toList.take (32 - L.length)) r v ∧ Tur q w1 w' := fun w1 h => by
      refine (rput h.ring s (by omega)).mono ?_
      rintro e w' ⟨rfl, hr, ht⟩
      exact ⟨rfl, h.turq ht hr, ht⟩
    have KC : ∀ (w1 : World), PM g A w1 p q L r v → w1.cell? ⟨p, 0, none⟩ = some (.pointer (some ⟨q, 0, none⟩)) := fun _ h => h.box.at 0 rfl
    have HKG := Lib.hid KG; have HKC := Lib.hid KC
    clear KG KC e1 e2 h0 hr0 hs hs' hle hsz
    generalize L ++ s.data.toList.take (32 - L.length) = L' at *
    generalize min s.size (32 - L.length) = m at *
    go_enter Tryd.func14, Tryd.ntmps14
    go_wp2_with (first
      | (go_at_call 29; refine C.out.mono ?_; clear C; rintro e w1 ⟨rfl, hb⟩; have HB := Lib.hid hb; have HP := Lib.hid (H.out.below' hb); have c1 := HKC.out _ HP.out; clear hb)
      | (go_at_call 26; refine (HN.out _ HP.out).mono ?_; rintro e w2 ⟨rfl, rfl⟩)
      | (go_at_call 30; refine (HKG.out _ HP.out).mono ?_; rintro e w3 ⟨rfl, hp3, ht3⟩; have HP3 := Lib.hid hp3; have HT3 := Lib.hid ht3; clear hp3 ht3 c1))
    refine bodyPost_ret (v := .tuple #[.int .i64 (m : Int), .int .i64 0]) (by simp [results, Tryd.results14, go_sem]) rfl ?_
    exact ⟨rfl, HP3.out, (Tur.of_below HB.out).trans HT3.out⟩
  · obtain ⟨e1, e2⟩ := wrL_no h0
    rw [e1, e2]
    have h0' : (wrE L r s.data.toList != 0) = true := by simpa using h0
    have h0'' : (wrE L r s.data.toList == 0) = false := by simpa using h0
    generalize wrE L r s.data.toList = x at *
    clear e1 e2 hs hle hsz
    go_enter Tryd.func14, Tryd.ntmps14
    go_wp2_with (first
      | (go_at_call 29; refine C.out.mono ?_; clear C; rintro e w1 ⟨rfl, hb⟩; have HB := Lib.hid hb; have HP := Lib.hid (H.out.below' hb); clear hb)
      | (go_at_call 26; refine (HN.out _ HP.out).mono ?_; rintro e w2 ⟨rfl, rfl⟩))
    refine bodyPost_ret (v := .tuple #[.int .i64 0, .int .i64 x]) (by simp [results, Tryd.results14, go_sem]) rfl ?_
    exact ⟨rfl, HP.out, Tur.of_below HB.out⟩

set_option maxRecDepth 100000 in
set_option maxHeartbeats 1000000 in
theorem pi_canR (h : PM g A w p q L r v) : Calls Tryd.prog 23 #[.pointer (some ⟨p, 0, none⟩)] w fun e w' => e = .returned (.bool (canR L v)) ∧ Below w.heap.size w w' := by
  have C := Lib.hid (reading_any h 1)
  have H := Lib.hid h
  have hN : (!(errR L v 1 == some 2) && !(errR L v 1 == some 0)) = canR L v := by
    unfold errR canR
    rw [if_neg (by decide)]
    cases L with
    | nil =>
      by_cases c : v = 0
      · subst c; simp
      · rw [if_pos ⟨by decide, rfl, by omega⟩]; simp [c]
    | cons a L => rw [if_neg (by simp)]; simp
  generalize errR L v 1 = o at *
  have N : ∀ (w' : World), PM g A w' p q L r v → Calls Tryd.prog 35 #[errV A o] w' fun e w'' => e = .returned (.bool (canR L v)) ∧ w'' = w' := fun w' h => by rw [← hN]; exact able_any h.sen o
  have HN := Lib.hid N
  clear N hN h
  generalize errV A o = y at *
  generalize canR L v = z at *
  go_enter Tryd.func23, Tryd.ntmps23
  go_wp2_with (first
    | (go_at_call 27; refine C.out.mono ?_; clear C; rintro e w1 ⟨rfl, hb⟩; have HB := Lib.hid hb; have HP := Lib.hid (H.out.below' hb); clear hb)
    | (go_at_call 35; refine (HN.out _ HP.out).mono ?_; rintro e w2 ⟨rfl, rfl⟩))
  go_ret
  exact ⟨rfl, HB.out⟩

set_option maxRecDepth 100000 in
set_option maxHeartbeats 1000000 in
theorem pi_canW (h : PM g A w p q L r v) : Calls Tryd.prog 24 #[.pointer (some ⟨p, 0, none⟩)] w fun e w' => e = .returned (.bool (canW L r)) ∧ Below w.heap.size w w' := by
  have C := Lib.hid (writing_any h 1)
  have H := Lib.hid h
  have hN : (!(errW L r 1 == some 2) && !(errW L r 1 == some 0)) = canW L r := by
    unfold errW canW
    by_cases c : r = 0
    · subst c; simp
    · rw [if_neg c]
      by_cases d : 32 ≤ L.length
      · rw [if_pos ⟨by decide, d⟩, Bool.eq_iff_iff]; simp [c]; omega
      · rw [if_neg (fun e => d e.2), Bool.eq_iff_iff]; simp; omega
  generalize errW L r 1 = o at *
  have N : ∀ (w' : World), PM g A w' p q L r v → Calls Tryd.prog 35 #[errV A o] w' fun e w'' => e = .returned (.bool (canW L r)) ∧ w'' = w' := fun w' h => by rw [← hN]; exact able_any h.sen o
  have HN := Lib.hid N
  clear N hN h
  generalize errV A o = y at *
  generalize canW L r = z at *
  go_enter Tryd.func24, Tryd.ntmps24
  go_wp2_with (first
    | (go_at_call 29; refine C.out.mono ?_; clear C; rintro e w1 ⟨rfl, hb⟩; have HB := Lib.hid hb; have HP := Lib.hid (H.out.below' hb); clear hb)
    | (go_at_call 35; refine (HN.out _ HP.out).mono ?_; rintro e w2 ⟨rfl, rfl⟩))
  go_ret
  exact ⟨rfl, HB.out⟩

set_option maxRecDepth 100000 in
theorem pi_len (h : PM g A w p q L r v) : Calls Tryd.prog 22 #[.pointer (some ⟨p, 0, none⟩)] w fun e w' => e = .returned (.int .i64 (L.length : Nat)) ∧ Below w.heap.size w w' := by
  have c0 := h.box.at 0 (v := .pointer (some ⟨q, 0, none⟩)) rfl
  have R := Lib.hid (rlen h.ring)
  clear h
  generalize L.length = l at *
  go_enter Tryd.func22, Tryd.ntmps22
  go_wp2_with (go_at_call 34; refine R.out.mono ?_; rintro e w1 ⟨rfl, hb⟩; have HB := Lib.hid hb; clear hb)
  go_ret
  exact ⟨rfl, HB.out⟩

/-- the landed program's pipe, for the laws. -/
def Pip (g : Nat) (A : Fin 4 → Addr) (W : World) (S : Nat → Prop) (p : Nat) (L : List UInt8) (r v : Nat) : Prop := ∃ q, S = (fun k => k = p ∨ k = q) ∧ PM g A W p q L r v
theorem mv_p {r' v' : Nat} {L' : List UInt8} {m : Nat} (hm : m = p ∨ m = q) (h : PM g A w' p q L' r' v') (ht : Tur m w w') : ∃ S', Pip g A w' S' p L' r' v' ∧ MvP (fun k => k = p ∨ k = q) S' w w' :=
  ⟨_, ⟨q, rfl, h⟩, ⟨ht.os, ht.tape, ht.output, ht.size, fun k hk hn => ht.block k hk (fun c => hn (by subst c; exact hm)), fun _ hk => .inl hk⟩⟩
theorem works10 : Works10 g (Pip g A) where
  keep := fun h hs e => by obtain ⟨q, rfl, h⟩ := h; exact ⟨q, rfl, h.keep hs e⟩
  lt := fun h => by obtain ⟨q, rfl, h⟩ := h; exact h.lt
  ok := fun h => by obtain ⟨q, rfl, h⟩ := h; exact ⟨h.ring.le, h.rl, h.vl⟩
  opn := fun h k => by
    obtain ⟨q, rfl, h⟩ := h
    refine (pi_open h k).mono ?_
    rintro e w' ⟨rfl, hp, ht⟩
    exact ⟨rfl, mv_p (.inl rfl) hp ht⟩
  cls := fun h k => by
    obtain ⟨q, rfl, h⟩ := h
    refine (pi_close h k).mono ?_
    rintro e w' ⟨rfl, hp, ht⟩
    exact ⟨rfl, mv_p (.inl rfl) hp ht⟩
  rd := fun h n hn => by
    obtain ⟨q, rfl, h⟩ := h
    refine (pi_read h n hn).mono ?_
    rintro e w' ⟨rfl, hp, ht⟩
    exact ⟨rfl, mv_p (.inr rfl) hp ht⟩
  wr := fun h s hs => by
    obtain ⟨q, rfl, h⟩ := h
    refine (pi_write h s hs).mono ?_
    rintro e w' ⟨rfl, hp, ht⟩
    exact ⟨rfl, mv_p (.inr rfl) hp ht⟩
  canR := fun h => by obtain ⟨q, rfl, h⟩ := h; exact pi_canR h
  canW := fun h => by obtain ⟨q, rfl, h⟩ := h; exact pi_canW h
  ends := fun h => by obtain ⟨q, rfl, h⟩ := h; exact pi_ends h
  len := fun h => by obtain ⟨q, rfl, h⟩ := h; exact pi_len h
theorem newP (hs : Sen g A w) : NewP g (Pip g A) w := ⟨hs.gle, fun W hB => by
  refine (pi_new (hs.below hB hs.gle)).mono ?_
  rintro e w' ⟨p, q, rfl, hp, h1, h2, hb⟩
  exact ⟨p, _, rfl, ⟨q, rfl, hp⟩, by rintro k (rfl | rfl) <;> assumption, hb⟩⟩
end
end Go.Proofs.YtpfldelmbigmbaaDoor
