/- General laws of ours, over any program: one operation whose run is known, in a list and in a quiet region; arrays of bytes compared. -/
import Derived.WalkKit
import Derived.Deep.QuietTactic
import Derived.BigQuiet
import Derived.ChangeKeysEq
import Derived.Deep.MidRow
namespace Go.Proofs.Yteannfenkmejjaa
open Go.RowKit

section
variable {P : Program} {ops : Array Oper} {rest : List Oper} {o : Oper} {a : Act}

theorem wpList_exec {w : World} {Q : Exit → Act → World → Prop} (hgd : o.guard = none) (v : Value) (w' : World) (hrun : (execOp a.eval o).run P w = .ok (.value v) w')
    (h : wpList P ops Q rest (a.put o.dst v) w') : wpList P ops Q (o :: rest) a w :=
  wpList_plain hgd fun K hK => by unfold Oper.wp; rw [hrun, Oper.upon_value]; exact hK _ _ h

theorem wpList_execSkip {w : World} {Q : Exit → Act → World → Prop} (hgd : o.guard = none) (w' : World) (hrun : (execOp a.eval o).run P w = .ok .skip w')
    (h : wpList P ops Q rest (a.put o.dst undef) w') : wpList P ops Q (o :: rest) a w :=
  wpList_plain hgd fun K hK => by unfold Oper.wp; rw [hrun, Oper.upon_skip]; exact hK _ _ h

theorem wpQuiet_exec {C : World → Prop} {Q : Act → Prop} (hgd : o.guard = none) (v : Value) (hrun : ∀ w, C w → (execOp a.eval o).run P w = .ok (.value v) w)
    (h : wpQuiet P ops C Q rest (a.put o.dst v)) : wpQuiet P ops C Q (o :: rest) a := by
  refine wpQuiet_step fun K hK => ?_
  have hw : Region.wanted o (yielded ops a.tmps) = true := by simp [Region.wanted, hgd]
  rw [if_pos hw]
  exact ⟨v, fun w hw => by unfold Oper.quietAt; rw [hrun w hw]; exact ⟨rfl, rfl⟩, hK _ h⟩

/-- two rows of bytes, item by item. -/
theorem run_eqItems_bytes {w : World} (d : Nat) {e : TypeId} {k : IntKind} (hu : P.underlying e = some (.int k)) (xs ys : Array Value) (f g : Nat → Int) :
    ∀ is : List Nat, (∀ i ∈ is, xs[i]? = some (.int .u8 (f i)) ∧ ys[i]? = some (.int .u8 (g i))) →
      (Op.eqItems (d + 1) e 1 xs ys is).run P w = .ok (is.all fun i => f i == g i) w
  | [], _ => by simp [Op.eqItems]
  | i :: is, h => by
    obtain ⟨hx, hy⟩ := h i (by simp)
    have ih := run_eqItems_bytes (w := w) d hu xs ys f g is (fun j hj => h j (by simp [hj]))
    have hag : (isAgg e).run P w = .ok false w := by
      unfold isAgg
      rw [Sem.run_bind, run_underlying hu w]
      simp
    have px : (part e xs i).run P w = .ok (.int .u8 (f i)) w := by simp [part, Sem.run_bind, hag, hx]
    have py : (part e ys i).run P w = .ok (.int .u8 (g i)) w := by simp [part, Sem.run_bind, hag, hy]
    simp only [Op.eqItems, Nat.mul_one, Sem.run_bind, px, py, Result.andThen_ok, run_equalIn_int w d e .u8 k _ _ hu]
    cases hc : f i == g i
    · simp [hc]
    · simp only [Bool.not_true, Bool.false_eq_true, if_false, ih, List.all_cons, hc, Bool.true_and]

theorem all_range_bytes (l l' : List UInt8) (n : Nat) (h : l.length = n) (h' : l'.length = n) :
    ((List.range n).all fun i => (((l[i]?.getD 0).toNat : Nat) : Int) == (((l'[i]?.getD 0).toNat : Nat) : Int)) = (l == l') := by
  rw [Bool.eq_iff_iff]
  simp only [List.all_eq_true, List.mem_range, beq_iff_eq, beq_iff_eq]
  constructor
  · intro hh
    apply List.ext_getElem (by omega)
    intro i h1 h2
    have := hh i (by omega)
    simp only [h1, h2, List.getElem?_eq_getElem, Option.getD_some] at this
    exact UInt8.toNat_inj.1 (by omega)
  · rintro rfl i _
    rfl

/-- two arrays of bytes, '!='. -/
theorem run_neq_bytes {w : World} {t e : TypeId} {n : Nat} {i : TypeInfo} {k : IntKind} (hu : P.underlying t = some (.array n e)) (he : P.underlying e = some (.int k)) (hi : P.info? e = some i) (hc : P.cellsOf e = 1)
    (l l' : List UInt8) (h : l.length = n) (h' : l'.length = n) :
    (binOp .neq t (.agg (l.map fun x : UInt8 => Value.int .u8 (x.toNat : Int)).toArray) (.agg (l'.map fun x : UInt8 => Value.int .u8 (x.toNat : Int)).toArray)).run P w = .ok (.bool (!(l == l'))) w := by
  have hq : (Op.equalIn 10000 t (.agg (l.map fun x : UInt8 => Value.int .u8 (x.toNat : Int)).toArray) (.agg (l'.map fun x : UInt8 => Value.int .u8 (x.toNat : Int)).toArray)).run P w = .ok (l == l') w := by
    rw [run_equalIn_array w 9999 _ _ hu hi, hc]
    rw [run_eqItems_bytes 9998 he _ _ (fun i => (((l[i]?.getD 0).toNat : Nat) : Int)) (fun i => (((l'[i]?.getD 0).toNat : Nat) : Int)) (List.range n) (fun j hj => by
      have hj' := List.mem_range.1 hj
      have h1 : j < l.length := by omega
      have h2 : j < l'.length := by omega
      simp [h1, h2])]
    rw [all_range_bytes l l' n h h']
  rw [run_neq_struct, hq]
  rfl

/-- a whole array (or struct) loaded out of the middle of a block, as one operation's run. -/
theorem exec_load_mid {ev : Operand → Value} {W : World} (ty : TypeId) (x : Operand) (ho : o.op = .load ty x) (b q : Nat) (hx : ev x = .pointer (some ⟨b, q, none⟩)) (cs : List Value) (d : TypeDesc) (hc : W.rangeAt b q cs)
    (hu : P.underlying ty = some d) (hd : d.isRow = true) (hi : (P.info? ty).map (·.size) = some cs.length) : (execOp ev o).run P W = .ok (.value (.agg cs.toArray)) W := by
  unfold execOp
  simp only [ho, hx, Sem.run_bind, run_loadAt_mid W b q ty cs d hc hu hd hi, Result.andThen_ok, Sem.run_pure]

/-- .. stored. -/
theorem exec_store_mid {ev : Operand → Value} {W : World} (ty : TypeId) (x y : Operand) (ho : o.op = .store ty x y) (b q : Nat) (cells : Array Value) (hx : ev x = .pointer (some ⟨b, q, none⟩)) (hy : ev y = .agg cells)
    (ht : W.there b q cells.size) (hi : (P.info? ty).map (·.size) = some cells.size) (h1 : cells.all (·.oneCell') = true) : (execOp ev o).run P W = .ok .skip (W.setCells b q cells.toList) := by
  unfold execOp
  simp only [ho, hx, hy, Sem.run_bind, run_storeAt_mid W b q ty cells ht hi h1, Result.andThen_ok, Sem.run_pure]

/-- '!=' of two values that are cells together, as one operation's run. -/
theorem exec_neq_agg {ev : Operand → Value} {W : World} (ty t2 : TypeId) (x y : Operand) (ho : o.op = .binOp .neq ty x y t2) (xs ys : Array Value) (hx : ev x = .agg xs) (hy : ev y = .agg ys) (hm : P.eqGuardType P.depth ty = false) (b : Bool)
    (hb : (binOp .neq ty (.agg xs) (.agg ys)).run P W = .ok (.bool b) W) : (execOp ev o).run P W = .ok (.value (.bool b)) W := by
  unfold execOp
  simp only [ho, hx, hy, Sem.run_bind, run_eqGuard_agg W .neq ty x y xs ys hm, Result.andThen_ok, hb, Sem.run_pure]

end
end Go.Proofs.Yteannfenkmejjaa
