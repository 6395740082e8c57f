/- Strings as lists of bytes: cut, joined. -/
import Derived.Test.YtnkoahcneocgiaaRiShown
import Derived.Laws.Concat
namespace Go.Proofs.Ytnkoahcneocgiaa
open Go.RowKit Go.Lib

theorem bytes_ext {a b : ByteArray} (h : a.data.toList = b.data.toList) : a = b := ByteArray.ext (by simpa using h)
theorem list_size (a : ByteArray) : a.data.toList.length = a.size := (Lib.size_eq a).symm
theorem size_mk (l : List UInt8) : (⟨l.toArray⟩ : ByteArray).size = l.length := by simp [ByteArray.size]
theorem take_extract8 (T : ByteArray) (k : Nat) : (T.extract 0 k).data.toList = T.data.toList.take k := by
  rw [ByteArray.data_extract, Array.toList_extract, List.extract_eq_take_drop, Nat.sub_zero, List.drop_zero]
theorem one_extract {T : ByteArray} {i : Nat} {x : UInt8} (h : T.data.toList[i]? = some x) : (T.extract i (i + 1)).data.toList = [x] := by
  have hi : i < T.data.toList.length := (List.getElem?_eq_some_iff.1 h).1
  rw [ByteArray.data_extract, Array.toList_extract, List.extract_eq_take_drop, Nat.add_sub_cancel_left, List.drop_eq_getElem_cons hi]
  rw [List.getElem?_eq_getElem hi] at h
  cases h
  rfl
/-- '+' of two strings, one that is known. -/
theorem add_known {X Y Z : ByteArray} (h : X.data.toList ++ Y.data.toList = Z.data.toList) (hs : Z.size ≤ 1000000) : ∀ W, (Op.stringOp .add X Y).run Try.prog W = .ok (.string Z) W := fun W => by
  have hl : X.size + Y.size = Z.size := by have := congrArg List.length h; rw [List.length_append, list_size, list_size, list_size] at this; exact this
  rw [run_string_add_sum W X Y (by omega), show X ++ Y = Z from bytes_ext (by rw [ByteArray.data_append, Array.toList_append]; exact h)]

/-- Get of any number. -/
def small8 (n : Int) : Prop := n ≤ 9223372036854775807
def getE (n : Int) : Int := if n < 0 then 2 else 0
def getT (n : Int) (L : List UInt8) : List UInt8 := if n < 0 then [] else L.take n.toNat
def getR (n : Int) (L : List UInt8) : List UInt8 := if n < 0 then L else L.drop n.toNat
theorem getT_R (n : Int) (L : List UInt8) : getT n L ++ getR n L = L := by
  unfold getT getR
  split
  · rfl
  · exact List.take_append_drop _ _
theorem getR_le (n : Int) (L : List UInt8) : (getR n L).length ≤ L.length := by
  unfold getR
  split
  · exact Nat.le_refl _
  · simp
theorem rget_any {w : World} {q N : Nat} {L : List UInt8} (h : Rg w q N L) (n : Int) (hn : small8 n) : Calls Try.prog 14 #[.pointer (some ⟨q, 0, none⟩), .int .i64 n] w fun e w' =>
    e = .returned (.tuple #[.string ⟨(getT n L).toArray⟩, .int .i64 (getE n)]) ∧ Rg w' q N (getR n L) ∧ Tur q w w' := by
  unfold getT getR getE
  by_cases c : n < 0
  · rw [if_pos c, if_pos c, if_pos c]
    refine (get_neg q n w c).mono ?_
    rintro e w' ⟨rfl, hB⟩
    exact ⟨rfl, h.below' hB, Tur.of_below hB⟩
  · rw [if_neg c, if_neg c, if_neg c]
    obtain ⟨k, rfl⟩ : ∃ k : Nat, n = (k : Int) := ⟨n.toNat, by omega⟩
    exact rget h k (by unfold small8 at hn; omega)
end Go.Proofs.Ytnkoahcneocgiaa
