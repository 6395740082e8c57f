/- The document's own pipe of layer 10: Write, walked. -/
import Derived.Test.YtpfldelmbigmbaaDoorRef10R
import Derived.StillTailTactics
namespace Go.Proofs.YtpfldelmbigmbaaDoor
open Go.RowKit

theorem add_str {X Y Z : ByteArray} (h : X.data.toList ++ Y.data.toList = Z.data.toList) (hs : X.size + Y.size ≤ 1000000) : ∀ W, (Op.stringOp .add X Y).run Tryd.prog W = .ok (.string Z) W := fun W => by
  rw [run_string_add_sum W X Y (by omega), show X ++ Y = Z from arr_ext (by rw [ByteArray.data_append, Array.toList_append]; exact h)]
section
variable {W : World} {q r w : Nat} {L : List UInt8}
set_option maxRecDepth 100000 in
set_option maxHeartbeats 2000000 in
theorem rwrite (h : RP W q L r w) (ok : POk L r w) (T : ByteArray) (hT : T.size ≤ 1000 ∨ r = 0) : Calls Tryd.prog 16 #[.pointer (some ⟨q, 0, none⟩), .string T] W fun e W' => e = .returned (.tuple #[.int .i64 (wrN L r T.data.toList : Nat), .int .i64 (wrE L r T.data.toList)]) ∧ RP W' q (wrL L r T.data.toList) r w ∧ Tur q W W' := by
  have c1 := h.at 1 (v := .int .i64 (r : Int)) rfl
  have H := Lib.hid h
  have hl := ok.len; have hr := ok.rd
  by_cases h0 : r = 0
  · subst h0
    have e : wrE L 0 T.data.toList = 90 := by unfold wrE; rw [if_pos rfl]
    obtain ⟨e1, e2⟩ := wrL_no (L := L) (r := 0) (S := T.data.toList) (by rw [e]; decide)
    rw [e, e1, e2]
    clear h ok e e1 e2 hT
    go_enter Tryd.func16, Tryd.ntmps16
    go_wp2
    exact bodyPost_ret (v := .tuple #[.int .i64 0, .int .i64 90]) (by simp [results, Tryd.results16, go_sem]) rfl ⟨rfl, H.out, Tur.refl W⟩
  have hT1 : T.size ≤ 1000 := by omega
  have hb0 : ((r : Int) == 0) = false := by simp; omega
  obtain ⟨S, hS⟩ : ∃ S : ByteArray, S = ⟨L.toArray⟩ := ⟨_, rfl⟩
  have hsz : S.size = L.length := by rw [hS]; rfl
  have hemp := empty_str (S := T) (L := T.data.toList) (by rw [Array.toArray_toList])
  have hTl : T.data.toList.length = T.size := by rw [Array.length_toList]; rfl
  unfold RP at h
  rw [← hS] at h
  have c0 := h.at 0 (v := .string S) rfl
  have f0 := h.f 0
  have HB := Lib.hid h
  have HS := Lib.hid hS
  clear h ok hS hT
  by_cases hw : T.data.toList ≠ [] ∧ 32 ≤ L.length
  · have e : wrE L r T.data.toList = 63 := by unfold wrE; rw [if_neg h0, if_pos hw]
    obtain ⟨e1, e2⟩ := wrL_no (L := L) (r := r) (S := T.data.toList) (by rw [e]; decide)
    rw [e, e1, e2]
    rw [show decide (T.data.toList = []) = false by simpa using hw.1] at hemp
    have hl32 : L.length = 32 := by omega
    have hTp : 0 < T.size := by
      rw [← hTl]
      exact List.length_pos_iff.2 hw.1
    rw [hl32] at hsz
    clear e e1 e2 hw hl32 hl hTl h0
    go_enter Tryd.func16, Tryd.ntmps16
    go_wp2
    exact bodyPost_ret (v := .tuple #[.int .i64 0, .int .i64 63]) (by simp [results, Tryd.results16, go_sem]) rfl ⟨rfl, H.out, Tur.refl W⟩
  have e : wrE L r T.data.toList = 0 := by unfold wrE; rw [if_neg h0, if_neg hw]
  have e1 : wrN L r T.data.toList = min T.size (32 - L.length) := by unfold wrN; rw [e, if_pos rfl, hTl]
  have e2 : wrL L r T.data.toList = L ++ T.data.toList.take (min T.size (32 - L.length)) := by unfold wrL; rw [e1]
  rw [e, e1, e2]
  obtain ⟨k, hk⟩ : ∃ k, min T.size (32 - L.length) = k := ⟨_, rfl⟩
  rw [hk]
  have hadd := add_str (X := S) (Y := T.extract 0 k) (Z := ⟨(L ++ T.data.toList.take k).toArray⟩) (by
    rw [HS.out, ByteArray.data_extract, Array.toList_extract, List.extract_eq_take_drop, Nat.sub_zero, List.drop_zero]) (by rw [ByteArray.size_extract]; omega)
  have hgo : T.toList.isEmpty = true ∨ (T.toList.isEmpty = false ∧ 0 < k) := by
    rw [hemp]
    by_cases a : T.data.toList = []
    · exact .inl (by simpa using a)
    · have := List.length_pos_iff.2 a
      have h32 : ¬ 32 ≤ L.length := fun c => hw ⟨a, c⟩
      exact .inr ⟨by simpa using a, by omega⟩
  have HADD := Lib.hid hadd
  clear e e1 e2 hw hemp hadd h0
  by_cases hmin : (T.size : Int) ≤ 32 - (L.length : Int)
  · have hkT : k = T.size := by omega
    subst hkT
    have hadd := HADD.out
    rw [ByteArray.extract_zero_size] at hadd
    rcases hgo with h1 | ⟨h1, h2⟩
    all_goals
      go_enter Tryd.func16, Tryd.ntmps16
      go_wp2
      go_still_tail 11, (by kernel_rfl)
      change wpList _ _ _ _ _ W.drew
      go_wp2
      exact bodyPost_ret (v := .tuple #[.int .i64 (T.size : Int), .int .i64 0]) (by simp [results, Tryd.results16, go_sem]) rfl ⟨rfl, (HB.out.keep (w' := W.drew) rfl).set 0 _, (((Tur.refl W.drew).set 0 _).drew)⟩
  · obtain ⟨m, hm⟩ : ∃ m : Nat, L.length + m = 32 := ⟨32 - L.length, by omega⟩
    have hkm : k = m := by omega
    subst hkm
    have hsub : (32 : Int) - (L.length : Int) = (k : Int) := by omega
    rw [hsub] at hmin
    have hadd := HADD.out
    rcases hgo with h1 | ⟨h1, h2⟩
    · exfalso
      have : T.data.toList = [] := by
        have h3 := empty_str (S := T) (L := T.data.toList) (by rw [Array.toArray_toList])
        rw [h1] at h3
        simpa using h3.symm
      rw [this] at hTl
      simp at hTl
      omega
    · go_enter Tryd.func16, Tryd.ntmps16
      go_wp2
      have hk0 : (0 : Int) ≤ (k : Int) := by omega
      have hk1 : (k : Int) ≤ (T.size : Int) := by omega
      have hk3 : (0 : Int) ≤ (k : Int) ∧ (k : Int) ≤ (T.size : Int) := ⟨hk0, hk1⟩
      have hk4 : k ≤ T.size := by omega
      go_still_tail 11, (by kernel_rfl)
      change wpList _ _ _ _ _ W.drew
      go_wp2
      exact bodyPost_ret (v := .tuple #[.int .i64 (k : Int), .int .i64 0]) (by simp [results, Tryd.results16, go_sem]) rfl ⟨rfl, (HB.out.keep (w' := W.drew) rfl).set 0 _, (((Tur.refl W.drew).set 0 _).drew)⟩
end
end Go.Proofs.YtpfldelmbigmbaaDoor
