/- Package pipe: reading, writing: what is wrong with reading, or writing, so many bytes. -/
import Derived.Test.YtpfldelmbigmbaaDoorPiNoneK
import Derived.Test.YtpfldelmbigmbaaDoorPiChange
namespace Go.Proofs.YtpfldelmbigmbaaDoor
open Go.RowKit

/-- what is wrong with reading n bytes; with writing n. -/
def errR (L : List UInt8) (v : Nat) (n : Int) : Option (Fin 4) := if n < 0 then some 1 else if 0 < n ∧ L = [] ∧ 0 < v then some 2 else none
def errW (L : List UInt8) (r : Nat) (n : Int) : Option (Fin 4) := if r = 0 then some 3 else if 0 < n ∧ 32 ≤ L.length then some 2 else none
theorem numE_errR (L : List UInt8) (v : Nat) (n : Int) : numE (errR L v n) = rdE L v n := by
  unfold errR rdE
  split
  · rfl
  · split <;> rfl
theorem numE_errW (L : List UInt8) (r : Nat) (S : List UInt8) (n : Int) (hn : 0 < n ↔ S ≠ []) : numE (errW L r n) = wrE L r S := by
  unfold errW wrE
  by_cases c : r = 0
  · rw [if_pos c, if_pos c]; rfl
  · rw [if_neg c, if_neg c]
    by_cases d : 0 < n ∧ 32 ≤ L.length
    · rw [if_pos d, if_pos ⟨hn.1 d.1, d.2⟩]; rfl
    · rw [if_neg d, if_neg (fun e => d ⟨hn.2 e.1, e.2⟩)]; rfl
theorem kinds_new {w : World} {t : TypeId} (K : List Nat) (hK : ∀ k ∈ K, k = 1 ∨ k = 2) (xs : Array Value) (hxs : xs = (K.map fun (k : Nat) => Value.int .i64 (k : Int)).toArray) : KindsAt (w.alloc (.cells xs t)) w.heap.size K :=
  ⟨⟨xs, t, heap_alloc_new _ _, fun i k hk => by rw [hxs]; simp [hk]⟩, hK⟩
section
variable {g : Nat} {A : Fin 4 → Addr} {w w' : World} {p q r v b : Nat} {L : List UInt8} {K : List Nat}

theorem none_two (h : PM g A w p q L r v) : Calls Tryd.prog 32 #[.pointer (some ⟨p, 0, none⟩), .slice (some ⟨w.heap.size, 0, none⟩) 1 1] (w.alloc (.cells #[.int .i64 2] 3)) fun e w' => e = .returned (.bool (v == 0)) ∧ Below w.heap.size w w' := by
  have hB := (Below.refl w.heap.size w).alloc (Nat.le_refl _) (.cells #[.int .i64 2] 3)
  refine (none_any (h.alloc (.cells #[.int .i64 2] 3)) (K := [2]) (kinds_new [2] (by simp) _ rfl) (by simp) 1).mono ?_
  rintro e w' ⟨rfl, hb⟩
  exact ⟨by simp [endN], hB.trans (hb.mono hB.size)⟩
theorem none_one (h : PM g A w p q L r v) : Calls Tryd.prog 32 #[.pointer (some ⟨p, 0, none⟩), .slice (some ⟨w.heap.size, 0, none⟩) 1 1] (w.alloc (.cells #[.int .i64 1] 3)) fun e w' => e = .returned (.bool (r == 0)) ∧ Below w.heap.size w w' := by
  have hB := (Below.refl w.heap.size w).alloc (Nat.le_refl _) (.cells #[.int .i64 1] 3)
  refine (none_any (h.alloc (.cells #[.int .i64 1] 3)) (K := [1]) (kinds_new [1] (by simp) _ rfl) (by simp) 1).mono ?_
  rintro e w' ⟨rfl, hb⟩
  exact ⟨by simp [endN], hB.trans (hb.mono hB.size)⟩
theorem none_both (h : PM g A w p q L r v) : Calls Tryd.prog 32 #[.pointer (some ⟨p, 0, none⟩), .slice (some ⟨w.heap.size, 0, none⟩) 2 2] (w.alloc (.cells #[.int .i64 1, .int .i64 2] 3)) fun e w' => e = .returned (.bool (r == 0 && v == 0)) ∧ Below w.heap.size w w' := by
  have hB := (Below.refl w.heap.size w).alloc (Nat.le_refl _) (.cells #[.int .i64 1, .int .i64 2] 3)
  refine (none_any (h.alloc (.cells #[.int .i64 1, .int .i64 2] 3)) (K := [1, 2]) (kinds_new [1, 2] (by simp) _ rfl) (by simp) 2).mono ?_
  rintro e w' ⟨rfl, hb⟩
  exact ⟨by simp [endN], hB.trans (hb.mono hB.size)⟩

set_option maxRecDepth 100000 in
set_option maxHeartbeats 2000000 in
theorem reading_any (h : PM g A w p q L r v) (n : Int) :
    Calls Tryd.prog 27 #[.pointer (some ⟨p, 0, none⟩), .int .i64 n] w fun e w' => e = .returned (errV A (errR L v n)) ∧ Below w.heap.size w w' := by
  have H := Lib.hid h
  have c1 := h.sen.v1
  have c0 := h.box.at 0 (v := .pointer (some ⟨q, 0, none⟩)) rfl
  unfold errR
  by_cases h1 : n < 0
  · rw [if_pos h1]
    generalize errV A (some 1) = x1 at *
    clear h
    go_enter Tryd.func27, Tryd.ntmps27
    go_wp2
    go_ret
    exact ⟨rfl, Below.refl _ _⟩
  rw [if_neg h1]
  by_cases h2 : 0 < n
  · obtain ⟨l, hl⟩ : ∃ l, L.length = l := ⟨_, rfl⟩
    have HL := Lib.hid hl
    have KL : ∀ (w1 : World), PM g A w1 p q L r v → Calls Tryd.prog 34 #[.pointer (some ⟨q, 0, none⟩)] w1 fun e w' => e = .returned (.int .i64 (l : Int)) ∧ Below w1.heap.size w1 w' := fun _ h => by rw [← hl]; exact rlen h.ring
    have KN : ∀ (w1 : World), PM g A w1 p q L r v → Calls Tryd.prog 32 #[.pointer (some ⟨p, 0, none⟩), .slice (some ⟨w1.heap.size, 0, none⟩) 1 1] (w1.alloc (.cells #[.int .i64 2] 3)) fun e w' => e = .returned (.bool (v == 0)) ∧ Below w1.heap.size w1 w' := fun _ h => none_two h
    have KV : ∀ (w1 : World), PM g A w1 p q L r v → w1.cell? ⟨2, 0, none⟩ = some (errV A (some 2)) := fun _ h => h.sen.v2
    have HKL := Lib.hid KL; have HKN := Lib.hid KN; have HKV := Lib.hid KV
    clear KL KN KV c1 h hl
    by_cases h3 : L = []
    · have l0 : ((l : Int) == 0) = true := by have := HL.out; rw [h3] at this; simp at this; subst this; rfl
      by_cases h4 : 0 < v
      · rw [if_pos ⟨h2, h3, h4⟩]
        have v0 : (v == 0) = false := by rw [beq_eq_false_iff_ne]; omega
        generalize errV A (some 2) = x2 at *
        clear h3 HL
        go_enter Tryd.func27, Tryd.ntmps27
        go_wp2_with (first
          | (go_at_call 34; refine (HKL.out _ H.out).mono ?_; rintro e w1 ⟨rfl, hb1⟩; have HB1 := Lib.hid hb1; have H1 := Lib.hid (H.out.below' hb1); clear hb1)
          | (go_at_call 32; refine (HKN.out _ H1.out).mono ?_; rw [v0]; rintro e w2 ⟨rfl, hb2⟩; have HB2 := Lib.hid (HB1.out.trans (hb2.mono HB1.out.size)); have c2 := HKV.out _ (H1.out.below' hb2); clear hb2))
        go_ret
        exact ⟨rfl, HB2.out⟩
      · rw [if_neg (fun c => h4 c.2.2)]
        have v0 : (v == 0) = true := by rw [beq_iff_eq]; omega
        clear h3 HL
        go_enter Tryd.func27, Tryd.ntmps27
        go_wp2_with (first
          | (go_at_call 34; refine (HKL.out _ H.out).mono ?_; rintro e w1 ⟨rfl, hb1⟩; have HB1 := Lib.hid hb1; have H1 := Lib.hid (H.out.below' hb1); clear hb1)
          | (go_at_call 32; refine (HKN.out _ H1.out).mono ?_; rw [v0]; rintro e w2 ⟨rfl, hb2⟩; have HB2 := Lib.hid (HB1.out.trans (hb2.mono HB1.out.size)); clear hb2))
        go_ret
        exact ⟨rfl, HB2.out⟩
    · rw [if_neg (fun c => h3 c.2.1)]
      have l0 : ((l : Int) == 0) = false := by
        rw [beq_eq_false_iff_ne]
        have := HL.out
        have : l ≠ 0 := fun c => h3 (List.eq_nil_of_length_eq_zero (by omega))
        omega
      clear h3 HL
      go_enter Tryd.func27, Tryd.ntmps27
      go_wp2_with (go_at_call 34; refine (HKL.out _ H.out).mono ?_; rintro e w1 ⟨rfl, hb1⟩; have HB1 := Lib.hid hb1; clear hb1)
      go_ret
      exact ⟨rfl, HB1.out⟩
  · rw [if_neg (fun c => h2 c.1)]
    clear h
    go_enter Tryd.func27, Tryd.ntmps27
    go_wp2
    go_ret
    exact ⟨rfl, Below.refl _ _⟩

set_option maxRecDepth 100000 in
set_option maxHeartbeats 2000000 in
theorem writing_any (h : PM g A w p q L r v) (n : Int) :
    Calls Tryd.prog 29 #[.pointer (some ⟨p, 0, none⟩), .int .i64 n] w fun e w' => e = .returned (errV A (errW L r n)) ∧ Below w.heap.size w w' := by
  have H := Lib.hid h
  have KN := Lib.hid (none_one h)
  obtain ⟨l, hl⟩ : ∃ l, 32 - L.length = l := ⟨_, rfl⟩
  have HL := Lib.hid hl
  have hle := h.ring.le
  have KL : ∀ (w1 : World), PM g A w1 p q L r v → Calls Tryd.prog 39 #[.pointer (some ⟨q, 0, none⟩)] w1 fun e w' => e = .returned (.int .i64 (l : Int)) ∧ Below w1.heap.size w1 w' := fun _ h => by rw [← hl]; exact rroom h.ring
  have KV : ∀ (w1 : World), PM g A w1 p q L r v → w1.cell? ⟨2, 0, none⟩ = some (errV A (some 2)) := fun _ h => h.sen.v2
  have KB : ∀ (w1 : World), PM g A w1 p q L r v → w1.cell? ⟨3, 0, none⟩ = some (errV A (some 3)) := fun _ h => h.sen.v3
  have KC : ∀ (w1 : World), PM g A w1 p q L r v → w1.cell? ⟨p, 0, none⟩ = some (.pointer (some ⟨q, 0, none⟩)) := fun _ h => h.box.at 0 rfl
  have HKL := Lib.hid KL; have HKV := Lib.hid KV; have HKB := Lib.hid KB; have HKC := Lib.hid KC
  clear KL KV KB KC h hl
  unfold errW
  by_cases h1 : r = 0
  · rw [if_pos h1]
    have r0 : (r == 0) = true := by rw [beq_iff_eq]; exact h1
    clear h1
    generalize errV A (some 3) = x3 at *
    rw [r0] at KN
    go_enter Tryd.func29, Tryd.ntmps29
    go_wp2_with (go_at_call 32; refine KN.out.mono ?_; rintro e w1 ⟨rfl, hb1⟩; have HB1 := Lib.hid hb1; have H1 := Lib.hid (H.out.below' hb1); have c3 := HKB.out _ H1.out; clear hb1)
    go_ret
    exact ⟨rfl, HB1.out⟩
  rw [if_neg h1]
  have r0 : (r == 0) = false := by rw [beq_eq_false_iff_ne]; exact h1
  rw [r0] at KN
  by_cases h2 : 0 < n
  · by_cases h3 : 32 ≤ L.length
    · rw [if_pos ⟨h2, h3⟩]
      have l0 : ((l : Int) == 0) = true := by have := HL.out; rw [beq_iff_eq]; omega
      generalize errV A (some 2) = x2 at *
      clear h3 HL hle
      go_enter Tryd.func29, Tryd.ntmps29
      go_wp2_with (first
        | (go_at_call 32; refine KN.out.mono ?_; rintro e w1 ⟨rfl, hb1⟩; have HB1 := Lib.hid hb1; have H1 := Lib.hid (H.out.below' hb1); have c1 := HKC.out _ H1.out; clear hb1)
        | (go_at_call 39; refine (HKL.out _ H1.out).mono ?_; rintro e w2 ⟨rfl, hb2⟩; have HB2 := Lib.hid (HB1.out.trans (hb2.mono HB1.out.size)); have c2 := HKV.out _ (H1.out.below' hb2); clear hb2 c1))
      go_ret
      exact ⟨rfl, HB2.out⟩
    · rw [if_neg (fun c => h3 c.2)]
      have l0 : ((l : Int) == 0) = false := by have := HL.out; rw [beq_eq_false_iff_ne]; omega
      clear h3 HL hle
      go_enter Tryd.func29, Tryd.ntmps29
      go_wp2_with (first
        | (go_at_call 32; refine KN.out.mono ?_; rintro e w1 ⟨rfl, hb1⟩; have HB1 := Lib.hid hb1; have H1 := Lib.hid (H.out.below' hb1); have c1 := HKC.out _ H1.out; clear hb1)
        | (go_at_call 39; refine (HKL.out _ H1.out).mono ?_; rintro e w2 ⟨rfl, hb2⟩; have HB2 := Lib.hid (HB1.out.trans (hb2.mono HB1.out.size)); clear hb2 c1))
      go_ret
      exact ⟨rfl, HB2.out⟩
  · rw [if_neg (fun c => h2 c.1)]
    go_enter Tryd.func29, Tryd.ntmps29
    go_wp2_with (go_at_call 32; refine KN.out.mono ?_; rintro e w1 ⟨rfl, hb1⟩; have HB1 := Lib.hid hb1; clear hb1)
    go_ret
    exact ⟨rfl, HB1.out⟩

set_option maxRecDepth 100000 in
theorem reading_nil (hs : Sen g A w) (n : Int) :
    Calls Tryd.prog 27 #[.pointer none, .int .i64 n] w fun e w' => e = .returned (errV A (some 0)) ∧ w' = w := by
  have c0 := hs.v0
  generalize errV A (some 0) = x at *
  clear hs
  go_enter Tryd.func27, Tryd.ntmps27
  go_wp2
  go_ret
  exact ⟨rfl, rfl⟩
set_option maxRecDepth 100000 in
theorem writing_nil (hs : Sen g A w) (n : Int) :
    Calls Tryd.prog 29 #[.pointer none, .int .i64 n] w fun e w' => e = .returned (errV A (some 0)) ∧ w' = w := by
  have c0 := hs.v0
  generalize errV A (some 0) = x at *
  clear hs
  go_enter Tryd.func29, Tryd.ntmps29
  go_wp2
  go_ret
  exact ⟨rfl, rfl⟩
end
end Go.Proofs.YtpfldelmbigmbaaDoor
