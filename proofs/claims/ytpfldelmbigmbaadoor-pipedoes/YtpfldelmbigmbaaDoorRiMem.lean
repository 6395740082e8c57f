/- Layer 8: a ring in memory: sixty-four bytes, its size, its two ends. -/
import Derived.Test.YtpfldelmbigmbaaDoorQuKeep
import Derived.Test.YtpfldelmbigmbaaDoorQuPure
import Derived.Test.YtpfldelmbigmbaaDoorRiPure2
import Derived.BigRegion
import Derived.Laws.Tables
import Derived.Laws.IdiomCopy
import Derived.Lib.SliceRun
namespace Go.Proofs.YtpfldelmbigmbaaDoor
open Go.RowKit Go.Lib

def ringCells (X : List UInt8) (n fa : Nat) (fo : Bool) (la : Nat) (lo : Bool) : List Value := Lib.byteCells X ++ [.int .i64 (n : Int), .int .i64 (fa : Int), .bool fo, .int .i64 (la : Int), .bool lo]
theorem ringCells_len {X : List UInt8} {n fa : Nat} {fo : Bool} {la : Nat} {lo : Bool} (h : X.length = 64) : (ringCells X n fa fo la lo).length = 69 := by
  simp [ringCells, Lib.byteCells_length, h]
theorem ringCells_one {X : List UInt8} {n fa : Nat} {fo : Bool} {la : Nat} {lo : Bool} : ∀ v ∈ ringCells X n fa fo la lo, v.oneCell' = true := by
  intro v hv
  rcases List.mem_append.1 hv with hv | hv
  · exact Lib.byteCells_one _ v hv
  · simp at hv
    rcases hv with rfl | rfl | rfl | rfl | rfl <;> rfl

structure RAt (w : World) (q : Nat) (X : List UInt8) (n fa : Nat) (fo : Bool) (la : Nat) (lo : Bool) : Prop where
  blk : w.heap[q]? = some (.cells (ringCells X n fa fo la lo).toArray 70 (0, 0))
  len : X.length = 64
section
variable {w w' : World} {q n fa la m : Nat} {fo lo : Bool} {X : List UInt8}
theorem RAt.lt (h : RAt w q X n fa fo la lo) : q < w.heap.size := (Array.getElem?_eq_some_iff.1 h.blk).1
theorem RAt.keep (h : RAt w q X n fa fo la lo) (e : w'.heap[q]? = w.heap[q]?) : RAt w' q X n fa fo la lo := ⟨e.trans h.blk, h.len⟩
theorem RAt.below (h : RAt w q X n fa fo la lo) (hb : Below m w w') (h1 : q < m) : RAt w' q X n fa fo la lo := h.keep (hb.block q h1)
theorem RAt.below' (h : RAt w q X n fa fo la lo) (hb : Below w.heap.size w w') : RAt w' q X n fa fo la lo := h.keep (hb.block q h.lt)
theorem RAt.tur {p : Nat} (h : RAt w q X n fa fo la lo) (hb : Tur p w w') (hne : q ≠ p) : RAt w' q X n fa fo la lo := h.keep (hb.block q h.lt hne)
theorem RAt.alloc (h : RAt w q X n fa fo la lo) (o : Obj) : RAt (w.alloc o) q X n fa fo la lo := h.keep (Below.heap_alloc w o q h.lt)
theorem RAt.at (h : RAt w q X n fa fo la lo) (i : Nat) {v : Value} (hv : (ringCells X n fa fo la lo)[i]? = some v) : w.cell? ⟨q, i, none⟩ = some v := by simp [World.cell?, h.blk, hv]
theorem RAt.tail (h : RAt w q X n fa fo la lo) (i : Nat) {v : Value} (hv : [Value.int .i64 (n : Int), .int .i64 (fa : Int), .bool fo, .int .i64 (la : Int), .bool lo][i]? = some v) : w.cell? ⟨q, 64 + i, none⟩ = some v := by
  refine h.at _ ?_
  unfold ringCells
  rw [List.getElem?_append_right (by rw [Lib.byteCells_length, h.len]; omega), Lib.byteCells_length, h.len, Nat.add_sub_cancel_left]
  exact hv
theorem RAt.c64 (h : RAt w q X n fa fo la lo) : w.cell? ⟨q, 64, none⟩ = some (.int .i64 (n : Int)) := h.tail 0 rfl
theorem RAt.c65 (h : RAt w q X n fa fo la lo) : w.cell? ⟨q, 65, none⟩ = some (.int .i64 (fa : Int)) := h.tail 1 rfl
theorem RAt.c66 (h : RAt w q X n fa fo la lo) : w.cell? ⟨q, 66, none⟩ = some (.bool fo) := h.tail 2 rfl
theorem RAt.c67 (h : RAt w q X n fa fo la lo) : w.cell? ⟨q, 67, none⟩ = some (.int .i64 (la : Int)) := h.tail 3 rfl
theorem RAt.c68 (h : RAt w q X n fa fo la lo) : w.cell? ⟨q, 68, none⟩ = some (.bool lo) := h.tail 4 rfl
theorem RAt.fr (h : RAt w q X n fa fo la lo) (o : Nat) : w.frozen? ⟨q, o, none⟩ = false := by simp [World.frozen?, h.blk]
theorem RAt.byte (h : RAt w q X n fa fo la lo) {i : Nat} {x : UInt8} (hx : X[i]? = some x) : w.cell? ⟨q, i, none⟩ = some (.int .u8 (x.toNat : Int)) := by
  refine h.at _ ?_
  have hi : i < X.length := (List.getElem?_eq_some_iff.1 hx).1
  unfold ringCells
  rw [List.getElem?_append_left (by rw [Lib.byteCells_length]; exact hi)]
  simp [Lib.byteCells, hx]
theorem RAt.some_at (h : RAt w q X n fa fo la lo) {i : Nat} (hi : i < 69) : (w.cell? ⟨q, i, none⟩).isSome = true := by
  have : i < (ringCells X n fa fo la lo).length := by rw [ringCells_len h.len]; exact hi
  rw [h.at i (List.getElem?_eq_getElem this)]
  rfl

/-- the row behind 'cs' laid over it from o on. -/
def ringRow (X : List UInt8) (n fa : Nat) (fo : Bool) (la : Nat) (lo : Bool) (o : Nat) (cs : List UInt8) : Array Value :=
  ((ringCells X n fa fo la lo).take o ++ Lib.byteCells cs ++ (ringCells X n fa fo la lo).drop (o + cs.length)).toArray
theorem ringCells_splice {X cs : List UInt8} (hX : X.length = 64) {o : Nat} (ho : o + cs.length ≤ 64) :
    (ringCells X n fa fo la lo).take o ++ Lib.byteCells cs ++ (ringCells X n fa fo la lo).drop (o + cs.length) = ringCells (splice X o cs) n fa fo la lo := by
  unfold ringCells splice
  have hb : (Lib.byteCells X).length = 64 := by rw [Lib.byteCells_length]; exact hX
  rw [List.take_append_of_le_length (by omega), List.drop_append_of_le_length (by omega)]
  simp [Lib.byteCells, List.map_take, List.map_drop]

/-- bytes laid over others. -/
theorem RAt.row (h : RAt w q X n fa fo la lo) {cs : List UInt8} {o : Nat} (ho : o + cs.length ≤ 64) :
    RAt (w.setRow q (ringRow X n fa fo la lo o cs)) q (splice X o cs) n fa fo la lo := by
  refine ⟨?_, by rw [length_splice _ _ _ (by rw [h.len]; exact ho)]; exact h.len⟩
  unfold ringRow
  rw [ringCells_splice h.len ho]
  exact setRow_heap w q _ _ _ _ h.blk

theorem Tur.row {w0 : World} (h : Tur q w0 w) (cs : Array Value) : Tur q w0 (w.setRow q cs) :=
  ⟨h.os, h.tape, h.output, by have := h.size; simpa [World.setRow] using this, fun k hk h1 => (setRow_other w q k cs (fun e => h1 e)).trans (h.block k hk h1)⟩

theorem Tryd.infoByte8 : (Tryd.prog.info? 5).map (·.size) = some 1 := by kernel_rfl
/-- 'copy(part, rest)': as many bytes as fit. -/
theorem copy_ring (h : RAt w q X n fa fo la lo) {o dLen : Nat} (ho : o + dLen ≤ 64) (dCap : Nat) (s : ByteArray) (ty : TypeId) :
    (Builtin.copy_ #[72, 9] ty #[.slice (some ⟨q, o, none⟩) dLen dCap, .string s]).run Tryd.prog w =
      .ok (goInt ((min s.size dLen : Nat) : Int)) (w.setRow q (ringRow X n fa fo la lo o (s.data.toList.take dLen))) := by
  have hsz : s.data.toList.length = s.size := (Lib.size_eq s).symm
  have hlen : (s.data.toList.take dLen).length = min s.size dLen := by rw [List.length_take, hsz]; omega
  have hst := run_storeCells_at Tryd.prog q o 70 (Lib.byteCells (s.data.toList.take dLen)) 0 _ w h.blk (by rw [Lib.byteCells_length, hlen, List.size_toArray, ringCells_len h.len]; omega) (Lib.byteCells_one _)
  have hst : (storeCells ⟨q, o, none⟩ (Lib.byteCells (s.data.toList.take dLen))).run Tryd.prog w = .ok () (w.setRow q (ringRow X n fa fo la lo o (s.data.toList.take dLen))) := by
    rw [Lib.byteCells_length] at hst
    exact hst
  have htk : List.take (min s.size dLen) (List.map (fun b : UInt8 => Value.int IntKind.u8 (b.toNat : Int)) s.data.toList) = Lib.byteCells (s.data.toList.take dLen) := by
    unfold Lib.byteCells
    rw [← List.map_take]
    congr 1
    by_cases c : dLen ≤ s.size
    · rw [Nat.min_eq_right c]
    · rw [Nat.min_eq_left (by omega), List.take_of_length_le (by omega), List.take_of_length_le (by omega)]
  have hu := Tryd.underlying72
  have hs := Tryd.infoByte8
  cases hq : Tryd.prog.info? 5 with
  | none => simp [hq] at hs
  | some i =>
    simp [Builtin.copy_, run_underlying hu, Builtin.lenOf, Builtin.firstCells, sizeOf, typeInfo, hq]
    rw [htk, hst]
    generalize w.setRow q _ = W
    simp only [Result.andThen]

/-- 'clear(part)'. -/
theorem clear_ring (h : RAt w q X n fa fo la lo) {o k : Nat} (ho : o + k ≤ 64) (c : Nat) :
    ∃ w', (∀ ty, (Builtin.clear_ #[72] ty #[.slice (some ⟨q, o, none⟩) k c]).run Tryd.prog w = .ok (.tuple #[]) w') ∧ RAt w' q (splice X o (List.replicate k 0)) n fa fo la lo ∧ Tur q w w' ∧ ∃ cs, w' = w.setRow q cs := by
  have hst := run_storeCells_at Tryd.prog q o 70 (Lib.byteCells (List.replicate k 0)) 0 _ w h.blk (by rw [Lib.byteCells_length, List.size_toArray, ringCells_len h.len, List.length_replicate]; omega) (Lib.byteCells_one _)
  have hst : (storeCells ⟨q, o, none⟩ (Lib.byteCells (List.replicate k 0))).run Tryd.prog w = .ok () (w.setRow q (ringRow X n fa fo la lo o (List.replicate k 0))) := by
    rw [Lib.byteCells_length] at hst
    exact hst
  refine ⟨_, fun ty => ?_, h.row (by simpa using ho), (Tur.refl w).row _, _, rfl⟩
  rcases Nat.eq_zero_or_pos k with rfl | hk
  · simp [Builtin.clear_, run_underlying Tryd.underlying72]
    unfold ringRow
    rw [show Lib.byteCells [] = [] from rfl, List.append_nil, List.length_nil, Nat.add_zero, List.take_append_drop, setRow_self w q _ _ _ h.blk]
  · have hzc : (Builtin.zeroCells #[Value.int .u8 0] k).toList = Lib.byteCells (List.replicate k 0) := by
      simp [Builtin.zeroCells, Lib.byteCells]
      apply List.ext_getElem
      · simp
      · intro i h1 h2
        simp [Nat.mod_one]
    obtain ⟨m, rfl⟩ : ∃ m, k = m + 1 := ⟨k - 1, by omega⟩
    have hc1 : (Value.int .u8 0).cells = #[Value.int .u8 0] := rfl
    simp [Builtin.clear_, run_underlying Tryd.underlying72, hc1, hzc]
    rw [hst]
    simp [Result.andThen]
end
end Go.Proofs.YtpfldelmbigmbaaDoor
