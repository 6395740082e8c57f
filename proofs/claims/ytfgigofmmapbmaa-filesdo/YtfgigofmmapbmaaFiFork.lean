/- Package files, as functions on a list of descriptors: Fork, walked. -/
import Derived.Test.YtfgigofmmapbmaaFiGet
import Derived.Sort.BigQuietIn
namespace Go.Proofs.Ytfgigofmmapbmaa
open Go.RowKit Go.Shelf

attribute [local go_sem] Oper.semAt_some

section
variable {w w' : World} {S : Nat → Prop} {p : Nat} {m m' : Option Nat} {L L' : List FV} {n n' : Nat} {F F' : List OF} {D D' : List (Int × Fds)} {φ φ' : Int → Nat}

theorem rows_next {r : Fds} {j : Nat} {a : Int} (h8 : r.length = 8) (hj : j < 8) (ha : r[j]? = some a) : (r.take j ++ zero8.drop j).set j a = r.take (j + 1) ++ zero8.drop (j + 1) := by
  have hl : (r.take j).length = j := by simp; omega
  have e1 : zero8.drop j = 0 :: zero8.drop (j + 1) := by
    rw [List.drop_eq_getElem_cons (by simpa [zero8] using hj)]
    congr 1
    have := (zero8_iff rfl).1 rfl j hj
    exact (List.getElem?_eq_some_iff.1 this).2
  obtain ⟨h1, h2⟩ := List.getElem?_eq_some_iff.1 ha
  rw [List.set_append_right _ _ (by omega), hl, Nat.sub_self, e1, List.set_cons_zero, List.take_succ_eq_append_getElem h1, h2, List.append_assoc]
  rfl
theorem rows_same {r : Fds} {j : Nat} (h8 : r.length = 8) (hj : j < 8) (ha : r[j]? = some 0) : r.take j ++ zero8.drop j = r.take (j + 1) ++ zero8.drop (j + 1) := by
  rw [← rows_next h8 hj ha]
  have hl : (r.take j).length = j := by simp; omega
  apply List.ext_getElem?
  intro i
  by_cases c : j = i
  · subst c
    rw [List.getElem?_set_self (by simp [zero8]; omega), List.getElem?_append_right (by omega), hl, Nat.sub_self, List.getElem?_drop, Nat.add_zero, (zero8_iff rfl).1 rfl j hj]
  · rw [List.getElem?_set_ne c]
/-- behind the first j descriptors. -/
structure Forked (φ : Int → Nat) (F : List OF) (D D0 : List (Int × Fds)) (L : List FV) (n : Nat) (P c : Int) (r : Fds) (j : Nat) : Prop where
  relF : RelF φ F (L ++ moreJ L P c j) n
  row : rowD D c = r.take j ++ zero8.drop j
  others : ∀ q, q ≠ c → rowD D q = rowD D0 q
theorem Forked.end {c P : Int} {r : Fds} (h : Forked φ F' D' D L n P c r 8) (hw : WF L n) (hD : RelD φ D L) (h8 : r.length = 8) (hr : rowD D P = r) (hc : ∀ x ∈ L, x.pid ≠ c) : RelF φ F' (L ++ moreL L P c) n ∧ RelD φ D' (L ++ moreL L P c) := by
  refine ⟨by rw [← moreJ_all hw]; exact h.relF, fun q d hd => ?_⟩
  by_cases e : q = c
  · subst e
    rw [h.row, List.take_of_length_le (by omega), show zero8.drop 8 = [] from rfl, List.append_nil, ← hr, hD P d hd]
    unfold numI
    rw [look_more hc]
    cases look L P d <;> rfl
  · rw [h.others q e, hD q d hd]
    unfold numI
    rw [look_app2 (M := moreL L P c) (look_none.2 fun y hy k => by
      obtain ⟨x, _, _, rfl⟩ := more_mem.1 hy
      exact e k.1.symm)]
theorem no_child (hw : WF L n) (hF : RelF φ F L n) (hD : RelD φ D L) (ok : DOk D) (c : Int) : rowD D c = zero8 ↔ ∀ x ∈ L, x.pid ≠ c := by
  rw [zero8_iff (rowD_len ok c)]
  constructor
  · intro h x hx e
    have ho := hw.ok x hx
    have h1 := h x.fd.toNat (by omega)
    rw [hD c x.fd.toNat (by omega)] at h1
    have h2 := hF.num0.1 (Option.some.inj h1)
    exact look_none.1 h2 x hx ⟨e, by omega⟩
  · intro h d hd
    rw [hD c d hd, numI_none (look_none.2 fun x hx k => h x hx k.1)]

set_option maxRecDepth 100000 in
set_option maxHeartbeats 4000000 in
theorem fork_err (h : FM w p m F D) (P c : Int) (hE : P < 1 ∨ c < 1 ∨ rowD D c ≠ zero8) : CallsIn Fence.wide 6 Try.prog 20 #[.pointer (some ⟨p, 0, none⟩), .int .i64 P, .int .i64 c] w fun e w' =>
    e = .returned (.int .i64 2) ∧ Below w.heap.size w w' := by
  refine callsIn_of_wp_marks Try.func20 rfl trivial ?_ rfl
  simp only [Try.ntmps20, List.size_toArray, List.length_cons, List.length_nil, Nat.reduceAdd, Nat.reduceSub, Array.replicate_succ, Array.replicate_zero, List.push_toArray, List.append_toArray, List.nil_append, List.cons_append]
  have hB := ((Below.refl w.heap.size w).alloc (Nat.le_refl _) (.cells #[.pointer (some ⟨p, 0, none⟩)] 24)).alloc (by simp) (.cells #[.int .i64 c] 3)
  have h2 := (h.alloc (.cells #[.pointer (some ⟨p, 0, none⟩)] 24)).alloc (.cells #[.int .i64 c] 3)
  have bM := (BoxA.new w 24 #[.pointer (some ⟨p, 0, none⟩)]).alloc (.cells #[.int .i64 c] 3)
  have bT := BoxA.new (w.alloc (.cells #[.pointer (some ⟨p, 0, none⟩)] 24)) 3 #[.int .i64 c]
  rw [World.size_alloc] at bT
  have x0 := bM.at 0 (v := .pointer (some ⟨p, 0, none⟩)) rfl
  have x1 := bT.at 0 (v := .int .i64 c) rfl
  have cm := h2.cm
  have hl : ∀ k, (Instr.lookup 60 (.map m) (.int .i64 c) false).run Try.prog ((((w.alloc (.cells #[.pointer (some ⟨p, 0, none⟩)] 24)).alloc (.cells #[.int .i64 c] 3))).drewN k) = .ok (rowV (rowD D c)) ((((w.alloc (.cells #[.pointer (some ⟨p, 0, none⟩)] 24)).alloc (.cells #[.int .i64 c] 3))).drewN k) := fun k => (h2.heap (w' := World.drewN _ k) rfl).mp.lookup h.ok c
  have HB := Lib.hid hB
  clear hB h2 bM bT
  have hneq : ∀ w : World, (binOp .neq 73 (rowV (rowD D c)) (.agg #[.int .i64 0, .int .i64 0, .int .i64 0, .int .i64 0, .int .i64 0, .int .i64 0, .int .i64 0, .int .i64 0])).run Try.prog w = .ok (.bool (!decide (rowD D c = zero8))) w := fun w => neq_row (b := zero8) (rowD_len h.ok c) rfl
  have h8 := rowD_len h.ok c
  generalize rowD D c = r at *
  clear h
  by_cases h1 : P < 1
  · clear hneq hl hE
    gi_wp2_with fail
    generalize (w.alloc _).alloc _ = W at *
    gi_big_quiet_th (fail)
    gi_wp2
    exact ⟨_, by simp [results, Try.results20, go_sem], rfl, below_drewN' HB.out⟩
  · have hd1 : decide (P < 1) = false := by simpa using h1
    by_cases h2 : c < 1
    · clear hneq hl hE h1
      have hd2 : decide (c < 1) = true := by simpa using h2
      clear h2
      gi_wp2_with fail
      generalize (w.alloc _).alloc _ = W at *
      gi_big_quiet_th (fail)
      gi_wp2
      exact ⟨_, by simp [results, Try.results20, go_sem], rfl, below_drewN' HB.out⟩
    · have hd : decide (r = zero8) = false := by
        have : r ≠ zero8 := by
          rcases hE with e | e | e
          · exact absurd e h1
          · exact absurd e h2
          · exact e
        simpa using this
      rw [hd] at hneq
      have hd2 : decide (c < 1) = false := by simpa using h2
      clear hE hd h1 h2
      obtain ⟨a0, a1, a2, a3, a4, a5, a6, a7, rfl⟩ := eight h8
      unfold rowV at hneq hl
      simp only [List.map_cons, List.map_nil] at hneq hl
      gi_wp2_with fail
      generalize (w.alloc _).alloc _ = W at *
      gi_big_quiet_th (fail)
      gi_wp2
      exact ⟨_, by simp [results, Try.results20, go_sem], rfl, below_drewN' HB.out⟩
end
end Go.Proofs.Ytfgigofmmapbmaa
