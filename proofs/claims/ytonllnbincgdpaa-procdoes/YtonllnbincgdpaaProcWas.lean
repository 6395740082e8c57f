/- Laws of layer 6: processes kept in a list of the law's own; two equal processes compared; what an act leaves of a zombie. -/
import Derived.Test.YtonllnbincgdpaaProcLawBase
import Derived.Maps.AppendAt
namespace Go.Proofs.Ytonllnbincgdpaa
open Go.RowKit

/-- the cells of processes, one behind the other. -/
def flatL : List PV → List Value
  | [] => []
  | q :: L => q.cells.toList ++ flatL L
theorem flatL_append : ∀ (A B : List PV), flatL (A ++ B) = flatL A ++ flatL B
  | [], _ => rfl
  | q :: A, B => by simp [flatL, flatL_append A B]
theorem flatL_one (q : PV) : flatL [q] = q.cells.toList := by simp [flatL]
theorem cells8 (q : PV) : q.cells.toList.length = 8 := rfl
theorem flatL_len : ∀ A : List PV, (flatL A).length = A.length * 8
  | [] => rfl
  | q :: A => by simp only [flatL, List.length_append, flatL_len A, cells8, List.length_cons]; omega
theorem flatL_at {q : PV} {f : Nat} (hf : f < 8) : ∀ (A : List PV) (k : Nat), A[k]? = some q → (flatL A)[k * 8 + f]? = q.cells.toList[f]?
  | [], k, h => by simp at h
  | x :: A, 0, h => by
    simp at h; subst h
    simp only [flatL, Nat.zero_mul, Nat.zero_add]
    rw [List.getElem?_append_left (by rw [cells8]; omega)]
  | x :: A, k + 1, h => by
    simp at h
    simp only [flatL]
    rw [List.getElem?_append_right (by rw [cells8]; omega), cells8, ← flatL_at hf A k h]
    congr 1
    omega
theorem take_snocP {A : List PV} {i : Nat} {q : PV} (h : A[i]? = some q) : A.take (i + 1) = A.take i ++ [q] := by
  obtain ⟨hl, rfl⟩ := List.getElem?_eq_some_iff.1 h
  exact List.take_succ_eq_append_getElem hl

theorem add_zero6 (r n : Nat) : (⟨r, 0, none⟩ : Addr).add n = ⟨r, n, none⟩ := by
  unfold Addr.add
  split <;> simp_all

/-- a list of processes lies in a row of the law's own. -/
def WasAt (w : World) (base : Nat) (v : Value) (A : List PV) : Prop := w.ownsRow base 39 8 v A.length (flatL A)
section
variable {w w' : World} {base : Nat} {v : Value} {A : List PV}
theorem WasAt.nil (w : World) (base : Nat) : WasAt w base (.slice none 0 0) [] := World.ownsRow_nil _ _ _ _
theorem WasAt.below (h : WasAt w base v A) (hb : Below w.heap.size w w') : WasAt w' base v A := h.kept (grown_of_below6 hb none) (by by_cases e : v.ownBlock = none; exact .inl e; exact .inr e)
theorem WasAt.row_lt (h : WasAt w base v A) : ∀ k, v.ownBlock = some k → base ≤ k ∧ k < w.heap.size := World.ownsRow.lt h
theorem WasAt.turn {p m : Nat} (h : WasAt w base v A) (ht : Turn p m w w') (hp : p < base) (hm : m < base) : WasAt w' base v A := by
  refine ⟨h.1, ?_⟩
  rcases h.2 with hn | ⟨g, cap, cur, rfl, hb, hgg, rest⟩
  · exact .inl hn
  · refine .inr ⟨g, cap, cur, rfl, hb, ?_, rest⟩
    rw [ht.block g (Array.getElem?_eq_some_iff.1 hgg).1 (by omega) (by omega)]
    exact hgg
theorem WasAt.setOther {b o : Nat} {u : Value} (h : WasAt w base v A) (hb : ∀ k, v.ownBlock = some k → k ≠ b) : WasAt (w.setCell ⟨b, o, none⟩ u) base v A := by
  refine ⟨h.1, ?_⟩
  rcases h.2 with hn | ⟨g, cap, cur, rfl, hb', hgg, rest⟩
  · exact .inl hn
  · exact .inr ⟨g, cap, cur, rfl, hb', (heap_setCell_other _ _ _ _ (hb g rfl)).trans hgg, rest⟩
theorem WasAt.open (h : WasAt w base v A) (h0 : 0 < A.length) : ∃ r cap, v = .slice (some ⟨r, 0, none⟩) A.length cap ∧ base ≤ r ∧ r < w.heap.size := by
  rcases h.2 with ⟨_, hn⟩ | ⟨g, cap, cur, rfl, hb, hgg, rest⟩
  · omega
  · exact ⟨g, cap, rfl, hb, (Array.getElem?_eq_some_iff.1 hgg).1⟩
theorem WasAt.cell {r n cap : Nat} (h : WasAt w base (.slice (some ⟨r, 0, none⟩) n cap) A) {k : Nat} {q : PV} (hq : A[k]? = some q) (f : Nat) {u : Value} (hu : q.cells.toList[f]? = some u) : w.cell? ⟨r, k * 8 + f, none⟩ = some u := by
  have hf : f < 8 := by have := (List.getElem?_eq_some_iff.1 hu).1; rw [cells8] at this; exact this
  have := World.ownsRow.cells h rfl (k * 8 + f) u ((flatL_at hf A k hq).trans hu)
  rw [add_zero6] at this
  exact this
theorem WasAt.cellO {r n cap : Nat} (h : WasAt w base (.slice (some ⟨r, 0, none⟩) n cap) A) {k : Nat} {q : PV} (hq : A[k]? = some q) (f : Nat) {u : Value} (hu : q.cells.toList[f]? = some u) (o : Obj) : (w.alloc o).cell? ⟨r, k * 8 + f, none⟩ = some u :=
  (WasAt.below h ((Below.refl _ _).alloc (Nat.le_refl _) o)).cell hq f hu
theorem WasAt.cell0 {r n cap : Nat} (h : WasAt w base (.slice (some ⟨r, 0, none⟩) n cap) A) {k : Nat} {q : PV} (hq : A[k]? = some q) : w.cell? ⟨r, k * 8, none⟩ = some (.int .i64 q.pid) := h.cell hq 0 rfl
end

theorem Try.infoProc : (Try.prog.info? 39).map (fun i => (i.zero, i.size, i.bytes)) = some (some PV.zero.val, 8, 72) := by kernel_rfl

theorem cell_eight_new (w : World) (q : PV) (t : TypeId) : ∀ j u, q.cells.toList[j]? = some u → (w.alloc (.cells q.cells t)).cell? ((⟨w.heap.size, 0, none⟩ : Addr).add j) = some u := by
  intro j u h
  have := (BoxA.new w t q.cells).at j (v := u) (by simpa using h)
  rw [add_zero6]
  exact this

set_option maxRecDepth 100000 in
set_option maxHeartbeats 1000000 in
theorem neq_proc (q : PV) (w : World) : (binOp .neq 39 (.agg q.cells) (.agg q.cells)).run Try.prog w = .ok (.bool false) w := by
  obtain ⟨a0, a1, a2, a3, a4, a5, a6, a7⟩ := q
  simp [go_sem, PV.cells]

/-! ### who is there behind a call -/
section
variable {L : List PV} {g : Int}
theorem getL_mapP (ho : TOk L g) (f : PV → PV) (hf : ∀ q, (f q).pid = q.pid) {q : PV} (hq : q ∈ L) : getL (L.map f) q.pid = some (f q) := by
  have := getL_of_mem (ho.mapP f hf) (List.mem_map.2 ⟨q, hq, rfl⟩)
  rw [hf] at this
  exact this
theorem getL_setP (ho : TOk L g) {k : Int} {x q : PV} (hx : x.pid = k) (hq : q ∈ L) : getL (setL L k x) q.pid = some (if q.pid = k then x else q) :=
  getL_mapP ho (fun q => if q.pid = k then x else q) (fun q => by split <;> omega) hq
theorem getL_same (ho : TOk L g) {k : Int} {x q : PV} (hk : getL L k = some x) (hq : q ∈ L) (e : q.pid = k) : x = q := by
  have := getL_of_mem ho hq
  rw [e, hk] at this
  cases this; rfl

/-- as it was, but for its parent and who it is. -/
def Alike (q q' : PV) : Prop := q'.pid = q.pid ∧ q'.st = q.st ∧ q'.ch = q.ch ∧ q'.stat = q.stat ∧ q'.kil = q.kil
theorem Alike.refl (q : PV) : Alike q q := ⟨rfl, rfl, rfl, rfl, rfl⟩

theorem zom_step (ho : TOk L g) {q : PV} (hq : q ∈ L) (hz : q.st = 3) (y k t u v : Int) (s : ByteArray) :
    (∃ q', getL (stL y k t u v s L g) q.pid = some q' ∧ Alike q q') ∨ (getL (stL y k t u v s L g) q.pid = none ∧ y = 4 ∧ k = q.par) := by
  have hself := getL_of_mem ho hq
  unfold stL
  split
  · refine .inl ⟨q, ?_, Alike.refl q⟩
    have h1 := ho.fork k
    refine getL_of_mem h1 ?_
    unfold forkL
    split
    · simp [hq]
    · exact hq
  split
  · left
    unfold becL
    split
    · rename_i c
      unfold becE at c
      split at c
      · cases c
      · rename_i x e
        rw [atL_some e, getL_setP ho (by show x.pid = k; exact (getL_mem e).2) hq]
        refine ⟨_, rfl, ?_⟩
        split
        · rename_i c1
          obtain rfl := getL_same ho e hq c1
          exact ⟨rfl, rfl, rfl, rfl, rfl⟩
        · exact Alike.refl q
    · exact ⟨q, hself, Alike.refl q⟩
  split
  · left
    unfold exL
    split
    · rename_i c
      obtain ⟨x, e, hst⟩ := runE_some (exE_run c).1
      have hne : q.pid ≠ k := fun c1 => by
        obtain rfl := getL_same ho e hq c1
        omega
      have hm : (if q.par = k then orphV q else q) ∈ exL0 L k := List.mem_map.2 ⟨q, hq, rfl⟩
      have hop : (if q.par = k then orphV q else q).pid = q.pid := by split <;> rfl
      have h2 := getL_setP (ho.orph k) (k := k) (x := exV t (atL (exL0 L k) k)) (by show (atL (exL0 L k) k).pid = k; exact at_pid (exL0_get e)) hm
      rw [hop, if_neg hne] at h2
      refine ⟨_, h2, ?_⟩
      split
      · exact ⟨rfl, rfl, rfl, rfl, rfl⟩
      · exact Alike.refl q
    · exact ⟨q, hself, Alike.refl q⟩
  split
  · rename_i hy
    unfold waL
    split
    · rename_i c
      have hzz : ∃ z, zomO L k = some z ∧ waQ L k = z := by
        unfold waE at c
        split at c
        · rename_i h0; exact absurd c h0
        · rename_i h0
          rcases zomE_cases (L := L) k with ⟨z, e, _⟩ | ⟨_, e⟩
          · refine ⟨z, e, ?_⟩
            unfold waQ waE
            rw [if_neg h0, c, e]; rfl
          · exact absurd c e
      obtain ⟨z, hz1, hz2⟩ := hzz
      rw [hz2]
      obtain ⟨hm, hpar, hst⟩ := zom_mem hz1
      by_cases c1 : q.pid = z.pid
      · right
        have : z = q := getL_same ho (getL_of_mem ho hm) hq c1
        subst this
        refine ⟨getL_none_of (fun x hx => ?_), hy, hpar.symm⟩
        have := (List.mem_filter.1 hx).2
        simpa using this
      · left
        refine ⟨q, getL_of_mem (ho.delP (k := z.pid)) (List.mem_filter.2 ⟨hq, by simpa using c1⟩), Alike.refl q⟩
    · exact .inl ⟨q, hself, Alike.refl q⟩
  split
  · left
    unfold kiL
    split
    · rename_i c
      unfold kiE at c
      split at c
      · cases c
      · rename_i x e
        have hne : q.pid ≠ k := fun c1 => by
          obtain rfl := getL_same ho e hq c1
          simp [hz] at c
          split at c <;> cases c
        rw [getL_setP ho (by rw [kill_pid]; exact at_pid e) hq, if_neg hne]
        exact ⟨q, rfl, Alike.refl q⟩
    · exact ⟨q, hself, Alike.refl q⟩
  split
  · left
    unfold slL
    split
    · rename_i c
      obtain ⟨x, e, hst⟩ := runE_some c
      have hne : q.pid ≠ k := fun c1 => by
        obtain rfl := getL_same ho e hq c1
        omega
      rw [getL_setP ho (by show (atL L k).pid = k; exact at_pid e) hq, if_neg hne]
      exact ⟨q, rfl, Alike.refl q⟩
    · exact ⟨q, hself, Alike.refl q⟩
  · left
    unfold wakL
    rw [getL_mapP ho (fun q => if wakB (textS s) q then awakeV q else q) (fun q => by split <;> rfl) hq]
    have : wakB (textS s) q = false := by unfold wakB; simp [hz]
    refine ⟨_, rfl, ?_⟩
    rw [this]
    exact Alike.refl q
end
end Go.Proofs.Ytonllnbincgdpaa
