/- The document's own pipe of layer 10: Read, walked. -/
import Derived.Test.YtpfldelmbigmbaaDoorRef10
namespace Go.Proofs.YtpfldelmbigmbaaDoor
open Go.RowKit

theorem arr_ext {a b : ByteArray} (h : a.data.toList = b.data.toList) : a = b := by
  obtain ⟨x⟩ := a; obtain ⟨y⟩ := b
  congr 1
  exact Array.toList_inj.1 h
theorem cut_lo (L : List UInt8) (k : Nat) : (⟨L.toArray⟩ : ByteArray).extract 0 k = ⟨(L.take k).toArray⟩ := arr_ext (by
  rw [ByteArray.data_extract, Array.toList_extract, List.extract_eq_take_drop, Nat.sub_zero, List.drop_zero])
theorem cut_hi (L : List UInt8) (k : Nat) : (⟨L.toArray⟩ : ByteArray).extract k (⟨L.toArray⟩ : ByteArray).size = ⟨(L.drop k).toArray⟩ := arr_ext (by
  rw [ByteArray.data_extract, Array.toList_extract, List.extract_eq_take_drop]
  exact List.take_of_length_le (by rw [List.length_drop]; exact Nat.le_refl _))
theorem beq_empty {S : ByteArray} {L : List UInt8} (hS : S = ⟨L.toArray⟩) : (S.toList == (⟨#[]⟩ : ByteArray).toList) = decide (L = []) := by
  rw [← beq_toListBytes, Bool.eq_iff_iff, decide_eq_true_iff, Go.MapKept.bytes_beq]
  constructor
  · intro h
    have := congrArg (fun b : ByteArray => b.data.toList) (hS.symm.trans h)
    simpa using this
  · rintro rfl
    exact hS
theorem empty_str {S : ByteArray} {L : List UInt8} (hS : S = ⟨L.toArray⟩) : S.toList.isEmpty = decide (L = []) := by
  rw [← beq_empty hS, show (⟨#[]⟩ : ByteArray).toList = [] by unfold ByteArray.toList; unfold ByteArray.toList.loop; rfl]
  cases S.toList <;> rfl
section
variable {W : World} {q r w : Nat} {L : List UInt8}
set_option maxRecDepth 100000 in
set_option maxHeartbeats 2000000 in
theorem rread (h : RP W q L r w) (ok : POk L r w) (n : Int) : Calls Tryd.prog 13 #[.pointer (some ⟨q, 0, none⟩), .int .i64 n] W fun e W' => e = .returned (.tuple #[.string ⟨(rdS L w n).toArray⟩, .int .i64 (rdE L w n)]) ∧ RP W' q (rdL L w n) r w ∧ Tur q W W' := by
  obtain ⟨S, hS⟩ : ∃ S : ByteArray, S = ⟨L.toArray⟩ := ⟨_, rfl⟩
  have hsz : S.size = L.length := by rw [hS]; rfl
  have hbe := empty_str hS
  have H := Lib.hid h
  unfold RP at h
  rw [← hS] at h
  have c0 := h.at 0 (v := .string S) rfl
  have c2 := h.at 2 (v := .int .i64 (w : Int)) rfl
  have f0 := h.f 0
  have hl := ok.len; have hw := ok.wr
  have HS := Lib.hid hS
  have HB := Lib.hid h
  clear h ok hS
  by_cases hn : n < 0
  · have e : rdE L w n = 2 := by unfold rdE; rw [if_pos hn]
    have e1 : rdS L w n = [] := by unfold rdS; rw [e, if_neg (by decide)]
    have e2 : rdL L w n = L := by unfold rdL; rw [e, if_neg (by decide)]
    rw [e, e1, e2]
    clear e e1 e2 hbe
    go_enter Tryd.func13, Tryd.ntmps13
    go_wp2
    exact bodyPost_ret (v := .tuple #[.string ⟨#[]⟩, .int .i64 2]) (by simp [results, Tryd.results13, go_sem]) rfl ⟨rfl, H.out, Tur.refl W⟩
  by_cases hwait : 0 < n ∧ L = [] ∧ 0 < w
  · have e : rdE L w n = 63 := by unfold rdE; rw [if_neg hn, if_pos hwait]
    have e1 : rdS L w n = [] := by unfold rdS; rw [e, if_neg (by decide)]
    have e2 : rdL L w n = L := by unfold rdL; rw [e, if_neg (by decide)]
    rw [e, e1, e2]
    obtain ⟨h1, h2, h3⟩ := hwait
    rw [h2] at hbe
    rw [show decide (([] : List UInt8) = []) = true from rfl] at hbe
    clear e e1 e2 h2
    go_enter Tryd.func13, Tryd.ntmps13
    go_wp2
    exact bodyPost_ret (v := .tuple #[.string ⟨#[]⟩, .int .i64 63]) (by simp [results, Tryd.results13, go_sem]) rfl ⟨rfl, H.out, Tur.refl W⟩
  have e : rdE L w n = 0 := by unfold rdE; rw [if_neg hn, if_neg hwait]
  obtain ⟨m, rfl⟩ : ∃ m : Nat, n = m := ⟨n.toNat, by omega⟩
  have e1 : rdS L w m = L.take m := by unfold rdS; rw [e, if_pos rfl, Int.toNat_natCast]
  have e2 : rdL L w m = L.drop m := by unfold rdL; rw [e, if_pos rfl, Int.toNat_natCast]
  rw [e, e1, e2]
  have hlo := cut_lo L
  have hhi := cut_hi L
  rw [← HS.out] at hlo hhi
  have HLO := Lib.hid hlo; have HHI := Lib.hid hhi
  clear e e1 e2 hlo hhi
  have hsp : (¬ (0 : Int) < (m : Int)) ∨ ((0 : Int) < (m : Int) ∧ S.toList.isEmpty = false) ∨ ((0 : Int) < (m : Int) ∧ S.toList.isEmpty = true ∧ ¬ (0 : Int) < (w : Int)) := by
    rw [hbe]
    by_cases a : (0 : Int) < (m : Int)
    · by_cases b : L = []
      · exact .inr (.inr ⟨a, by simpa using b, fun c => hwait ⟨a, b, by omega⟩⟩)
      · exact .inr (.inl ⟨a, by simpa using b⟩)
    · exact .inl a
  clear hwait hbe
  by_cases hm : (m : Int) ≤ (S.size : Int)
  · have e1 := HLO.out m
    have e2 := HHI.out m
    rw [hsz] at e2
    have E1 := Lib.hid e1; have E2 := Lib.hid e2
    clear e1 e2
    rcases hsp with h1 | ⟨h1, h2⟩ | ⟨h1, h2, h3⟩
    all_goals
      go_enter Tryd.func13, Tryd.ntmps13
      go_wp2
      refine bodyPost_ret (v := .tuple #[.string ⟨(L.take m).toArray⟩, .int .i64 0]) (by rw [← E1.out]; simp [results, Tryd.results13, go_sem]) rfl ⟨rfl, ?_, (Tur.refl W).set _ _⟩
      have := HB.out.set 0 (.string (S.extract m L.length))
      rw [E2.out] at this
      rw [E2.out]
      exact this
  · have e1 := HLO.out L.length
    rw [List.take_of_length_le (Nat.le_refl _)] at e1
    have t1 : L.take m = L := List.take_of_length_le (by omega)
    have t2 : L.drop m = [] := List.drop_eq_nil_of_le (by omega)
    rw [t1, t2]
    have E1 := Lib.hid e1
    clear e1 t1 t2
    rcases hsp with h1 | ⟨h1, h2⟩ | ⟨h1, h2, h3⟩
    · omega
    all_goals
      go_enter Tryd.func13, Tryd.ntmps13
      go_wp2
      refine bodyPost_ret (v := .tuple #[.string ⟨L.toArray⟩, .int .i64 0]) (by rw [← E1.out]; simp [results, Tryd.results13, go_sem]) rfl ⟨rfl, ?_, (Tur.refl W).set _ _⟩
      exact HB.out.set 0 (.string ⟨#[]⟩)
end
end Go.Proofs.YtpfldelmbigmbaaDoor
