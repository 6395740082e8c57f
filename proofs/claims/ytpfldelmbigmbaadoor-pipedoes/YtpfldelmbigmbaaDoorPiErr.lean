/- Package pipe: errors.Is over its four sentinels, by contracts; able, number; what the package's variables hold (Sen), which nothing turns. -/
import Derived.Test.YtpfldelmbigmbaaDoorBox
import Derived.Test.YtpfldelmbigmbaaDoorRows
import Derived.LaidEql
import Derived.Stop.Asserts
import Derived.RowKitTokens
namespace Go.Proofs.YtpfldelmbigmbaaDoor
open Go.RowKit Go.Extern.Stop Go.Stop Go.Extern

/-! ### closed facts: what errors.Is asks of such a target -/
theorem Tryd.isTypeOf (v : Value) (w : World) : (Extern.ReflectliteType.typeOf #[.iface 100 v]).run Tryd.prog w = .ok (.iface 91 (.agg #[.pointer (some ⟨4, 100, none⟩)])) w := by kernel_rfl
theorem Tryd.isComparable (w : World) : (callFunc 66 #[.agg #[.pointer (some ⟨4, 100, none⟩)]]).run Tryd.prog w = .ok (.value (.bool true)) w :=
  (@run_callFunc_extern Tryd.prog 66 _ (Extern.ReflectliteType.method fun t => do Extern.Rtype.noPackHeld "Comparable" t; pure (.bool (← typeInfo t).comparable)) Tryd.func66 (by kernel_rfl) (by kernel_rfl) (by kernel_rfl) (by kernel_rfl) _ w).trans (by kernel_rfl)
theorem Tryd.isMethodComparable (v : Value) (w : World) : (Go.method 237 91 v "Comparable").run Tryd.prog w = .ok (66, v) w := by kernel_rfl
theorem Tryd.isComp : (Tryd.prog.info? 100).map (·.comparable) = some true := by kernel_rfl
theorem Tryd.isSize : (Tryd.prog.info? 125).map (·.size) = some 1 := by kernel_rfl
theorem Tryd.noIsE (v : Value) (xT : TypeId) (w : World) : (Instr.typeAssert (.iface 100 v) xT 93 true).run Tryd.prog w = .ok (.tuple #[.nilIface, .bool false]) w := run_typeAssert_lacksB Tryd.underlying93 (by kernel_rfl) (by kernel_rfl) v xT w
theorem Tryd.noUnwrapE (v : Value) (xT : TypeId) (w : World) : (Instr.typeAssert (.iface 100 v) xT 95 true).run Tryd.prog w = .ok (.tuple #[.nilIface, .bool false]) w := run_typeAssert_lacksB Tryd.underlying95 (by kernel_rfl) (by kernel_rfl) v xT w
theorem Tryd.noUnwrapsE (v : Value) (xT : TypeId) (w : World) : (Instr.typeAssert (.iface 100 v) xT 97 true).run Tryd.prog w = .ok (.tuple #[.nilIface, .bool false]) w := run_typeAssert_lacksB Tryd.underlying97 (by kernel_rfl) (by kernel_rfl) v xT w

set_option maxRecDepth 100000 in
/-- errors.Is(x, x). -/
theorem is_same (a : Addr) (w : World) :
    Calls Tryd.prog 36 #[.iface 100 (.pointer (some a)), .iface 100 (.pointer (some a))] w fun e w' => e = .returned (.bool true) ∧ w' = w := by
  obtain ⟨i, hi, hcmp⟩ := Option.map_eq_some_iff.1 Tryd.isComp
  obtain ⟨j, hj, hjs⟩ := Option.map_eq_some_iff.1 Tryd.isSize
  have h8 := @run_callFunc_extern Tryd.prog 43 _ Extern.ReflectliteType.typeOf Tryd.func43 (by kernel_rfl) (by kernel_rfl) (by kernel_rfl) (by kernel_rfl)
  have tT := Tryd.isTypeOf
  have cT := Tryd.isComparable
  have mR := Tryd.isMethodComparable
  have heq := run_eql_iface_ptr_same (P := Tryd.prog) w a Tryd.underlying59 Tryd.underlying100 hi hcmp hj
  go_enter Tryd.func36, Tryd.ntmps36
  go_wp2
  refine wp_loop_rounds 1 ?_
  rw [rounds_succ]
  go_wp2
  go_ret
  exact ⟨rfl, rfl⟩

set_option maxRecDepth 100000 in
/-- errors.Is(nil, x). -/
theorem is_nil (b : Addr) (w : World) :
    Calls Tryd.prog 36 #[.nilIface, .iface 100 (.pointer (some b))] w fun e w' => e = .returned (.bool false) ∧ w' = w := by
  have hn := run_eql_iface_nil_left (P := Tryd.prog) w 100 (.pointer (some b)) Tryd.underlying59
  go_enter Tryd.func36, Tryd.ntmps36
  go_wp2
  go_ret
  exact ⟨rfl, rfl⟩

set_option maxRecDepth 100000 in
/-- errors.Is(x, y), two different sentinels. -/
theorem is_other (a b : Addr) (ca cb : Array Value) (ta tb : TypeId) (w : World) (hne : a ≠ b) (ha : w.heap[a.block]? = some (.cells ca ta (0, 0))) (hb : w.heap[b.block]? = some (.cells cb tb (0, 0))) :
    Calls Tryd.prog 36 #[.iface 100 (.pointer (some a)), .iface 100 (.pointer (some b))] w fun e w' => e = .returned (.bool false) ∧ w' = w := by
  obtain ⟨i, hi, hcmp⟩ := Option.map_eq_some_iff.1 Tryd.isComp
  obtain ⟨j, hj, hjs⟩ := Option.map_eq_some_iff.1 Tryd.isSize
  have h8 := @run_callFunc_extern Tryd.prog 43 _ Extern.ReflectliteType.typeOf Tryd.func43 (by kernel_rfl) (by kernel_rfl) (by kernel_rfl) (by kernel_rfl)
  have tT := Tryd.isTypeOf
  have cT := Tryd.isComparable
  have mR := Tryd.isMethodComparable
  have nE := Tryd.noIsE
  have uE := Tryd.noUnwrapE
  have vE := Tryd.noUnwrapsE
  have heq := run_eql_iface_ptr_other (P := Tryd.prog) w Tryd.underlying59 Tryd.underlying100 hi hcmp hj (by rw [hjs]; decide) hne ha hb
  go_enter Tryd.func36, Tryd.ntmps36
  go_wp2
  refine wp_loop_rounds 1 ?_
  rw [rounds_succ]
  go_wp2
  go_ret
  exact ⟨rfl, rfl⟩

/-! ### what the package's variables hold -/
/-- an error of the package's, or none. -/
def errV (A : Fin 4 → Addr) : Option (Fin 4) → Value
  | none => .nilIface
  | some i => .iface 100 (.pointer (some (A i)))
/-- the four variables hold four sentinels, all below the block g. -/
structure Sen (g : Nat) (A : Fin 4 → Addr) (w : World) : Prop where
  v0 : w.cell? ⟨0, 0, none⟩ = some (errV A (some 0))
  v1 : w.cell? ⟨1, 0, none⟩ = some (errV A (some 1))
  v2 : w.cell? ⟨2, 0, none⟩ = some (errV A (some 2))
  v3 : w.cell? ⟨3, 0, none⟩ = some (errV A (some 3))
  ne : ∀ i j, i ≠ j → A i ≠ A j
  row : ∀ i, ∃ c t, w.heap[(A i).block]? = some (.cells c t (0, 0))
  low : ∀ i, (A i).block < g
  four : 4 ≤ g
  gle : g ≤ w.heap.size
section
variable {g : Nat} {A : Fin 4 → Addr} {w w' : World}
theorem cell_of_heap {w w' : World} {a : Addr} (e : w'.heap[a.block]? = w.heap[a.block]?) : w'.cell? a = w.cell? a := by
  simp only [World.cell?, e]
theorem Sen.keep (h : Sen g A w) (hs : w.heap.size ≤ w'.heap.size) (e : ∀ k, k < g → w'.heap[k]? = w.heap[k]?) : Sen g A w' := by
  have f := h.four
  exact ⟨(cell_of_heap (e _ (by simp; omega))).trans h.v0, (cell_of_heap (e _ (by simp; omega))).trans h.v1, (cell_of_heap (e _ (by simp; omega))).trans h.v2, (cell_of_heap (e _ (by simp; omega))).trans h.v3, h.ne, fun i => by
    obtain ⟨c, t, hc⟩ := h.row i
    exact ⟨c, t, (e _ (h.low i)).trans hc⟩, h.low, h.four, Nat.le_trans h.gle hs⟩
theorem Sen.below {m : Nat} (h : Sen g A w) (hb : Below m w w') (hm : g ≤ m) : Sen g A w' := h.keep hb.size (fun k hk => hb.block k (by omega))
theorem Sen.drew (h : Sen g A w) : Sen g A w.drew := h.keep (Nat.le_refl _) (fun _ _ => rfl)

/-- errors.Is of an error of the package's, or of none, and a sentinel. -/
theorem is_any (h : Sen g A w) (o : Option (Fin 4)) (j : Fin 4) : Calls Tryd.prog 36 #[errV A o, errV A (some j)] w fun e w' => e = .returned (.bool (o == some j)) ∧ w' = w := by
  cases o with
  | none => exact is_nil (A j) w
  | some i =>
    by_cases c : i = j
    · subst c
      rw [show (some i == some i) = true by simp]
      exact is_same (A i) w
    · rw [show (some i == some j) = false by simp [c]]
      obtain ⟨c1, t1, h1⟩ := h.row i
      obtain ⟨c2, t2, h2⟩ := h.row j
      exact is_other (A i) (A j) c1 c2 t1 t2 w (h.ne i j c) h1 h2

/-- the number by which an error is told. -/
def numE : Option (Fin 4) → Int
  | none => 0
  | some 0 => 1
  | some 1 => 2
  | some 2 => 63
  | some 3 => 90

set_option maxRecDepth 100000 in
set_option maxHeartbeats 1000000 in
theorem number_any (h : Sen g A w) (o : Option (Fin 4)) : Calls Tryd.prog 26 #[errV A o] w fun e w' => e = .returned (.int .i64 (numE o)) ∧ w' = w := by
  have I0 := Lib.hid (is_any h o 0)
  have I1 := Lib.hid (is_any h o 1)
  have I2 := Lib.hid (is_any h o 2)
  have I3 := Lib.hid (is_any h o 3)
  have c0 := h.v0
  have c1 := h.v1
  have c2 := h.v2
  have c3 := h.v3
  clear h
  obtain ⟨x, hx⟩ : ∃ x, errV A o = x := ⟨_, rfl⟩
  obtain ⟨x0, hx0⟩ : ∃ x, errV A (some 0) = x := ⟨_, rfl⟩
  obtain ⟨x1, hx1⟩ : ∃ x, errV A (some 1) = x := ⟨_, rfl⟩
  obtain ⟨x2, hx2⟩ : ∃ x, errV A (some 2) = x := ⟨_, rfl⟩
  obtain ⟨x3, hx3⟩ : ∃ x, errV A (some 3) = x := ⟨_, rfl⟩
  rw [hx, hx0] at I0
  rw [hx, hx1] at I1
  rw [hx, hx2] at I2
  rw [hx, hx3] at I3
  rw [hx0] at c0
  rw [hx1] at c1
  rw [hx2] at c2
  rw [hx3] at c3
  rw [hx]
  clear hx hx0 hx1 hx2 hx3
  rcases o with _ | i
  · go_enter Tryd.func26, Tryd.ntmps26
    go_wp2_with (first
      | (go_at_call 36; refine I0.out.mono ?_; clear I0; rintro e w' ⟨rfl, rfl⟩)
      | (go_at_call 36; refine I1.out.mono ?_; clear I1; rintro e w' ⟨rfl, rfl⟩)
      | (go_at_call 36; refine I2.out.mono ?_; clear I2; rintro e w' ⟨rfl, rfl⟩)
      | (go_at_call 36; refine I3.out.mono ?_; clear I3; rintro e w' ⟨rfl, rfl⟩))
    go_ret
    exact ⟨rfl, rfl⟩
  · rcases i with ⟨_ | _ | _ | _ | i, hi⟩
    all_goals first
      | omega
      | (go_enter Tryd.func26, Tryd.ntmps26
         go_wp2_with (first
           | (go_at_call 36; refine I0.out.mono ?_; clear I0; rintro e w' ⟨rfl, rfl⟩)
           | (go_at_call 36; refine I1.out.mono ?_; clear I1; rintro e w' ⟨rfl, rfl⟩)
           | (go_at_call 36; refine I2.out.mono ?_; clear I2; rintro e w' ⟨rfl, rfl⟩)
           | (go_at_call 36; refine I3.out.mono ?_; clear I3; rintro e w' ⟨rfl, rfl⟩))
         go_ret
         exact ⟨rfl, rfl⟩)
end
end Go.Proofs.YtpfldelmbigmbaaDoor
