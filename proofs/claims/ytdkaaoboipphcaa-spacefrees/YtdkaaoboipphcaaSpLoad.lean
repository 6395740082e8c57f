/- Package space: load, where it can be done, walked. -/
import Derived.Test.YtdkaaoboipphcaaSpAdd
import Derived.Test.YtdkaaoboipphcaaSpRoot
import Derived.StillTailTactics
namespace Go.Proofs.Ytdkaaoboipphcaa
open Go.RowKit Go.Shelf

/-- behind so many parts. -/
def partS (n root : Nat) (S : PtS) (t d : Nat) (text data : List UInt8) : Nat → PtS
  | 0 => S
  | 1 => addS n root S 0 1 text t
  | 2 => addS n root (addS n root S 0 1 text t) t 3 data d
  | _ => loadS n root S t d text data

structure LoadF (n root : Nat) (S : PtS) (t d : Nat) (text data : List UInt8) : Prop where
  a1 : AddF n root S 0 1 t text
  a2 : AddF n root (addS n root S 0 1 text t) t 3 d data
  a3 : AddF n root (addS n root (addS n root S 0 1 text t) t 3 data d) 254 3 2 []
  e1 : ∀ q, 0 ≤ q → q < 0 + t → S.E q = (0, 0)
  e2 : ∀ q, t ≤ q → q < t + d → (addS n root S 0 1 text t).E q = (0, 0)
  e3 : ∀ q, 254 ≤ q → q < 254 + 2 → (addS n root (addS n root S 0 1 text t) t 3 data d).E q = (0, 0)
  u1 : usedN n S.R + 2 * t ≤ n
  u2 : usedN n (addS n root S 0 1 text t).R + 2 * d ≤ n
  u3 : usedN n (addS n root (addS n root S 0 1 text t) t 3 data d).R + 2 * 2 ≤ n

theorem load_facts {n root : Nat} {S : PtS} {t d : Nat} {text data : List UInt8} (r : S.ok n root) (hE : ∀ q, S.E q = (0, 0)) (hu : usedN n S.R + 2 * (t + d + 2) ≤ n) (ht : t + d ≤ 254) : LoadF n root S t d text data := by
  have a1 := add_facts r (pg := 0) (fl := 1) (by decide) text t (by omega) (by omega) (fun q _ _ => hE q)
  have e2 : ∀ q, t ≤ q → q < t + d → (addS n root S 0 1 text t).E q = (0, 0) := fun q h1 _ => (a1.other q (.inr (by omega))).trans (hE q)
  have a2 := add_facts a1.ok (pg := t) (fl := 3) (by decide) data d (by have := a1.used; omega) (by omega) e2
  have e3 : ∀ q, 254 ≤ q → q < 254 + 2 → (addS n root (addS n root S 0 1 text t) t 3 data d).E q = (0, 0) := fun q h1 _ => (a2.other q (.inr (by omega))).trans ((a1.other q (.inr (by omega))).trans (hE q))
  have a3 := add_facts a2.ok (pg := 254) (fl := 3) (by decide) [] 2 (by have := a1.used; have := a2.used; omega) (by omega) e3
  exact ⟨a1, a2, a3, fun q _ _ => hE q, e2, e3, by omega, by have := a1.used; omega, by have := a1.used; have := a2.used; omega⟩

section
variable {w : World} {pw p g n : Nat} {R : Nat → Int} {B : Nat → List UInt8} {r h : Int} {vA vU : Value} {k : Nat} {us : List Value}

theorem add_ok {root : Nat} {S : PtS} {t d : Int} (hm : S.at w p g n) (hw : WorkAt w pw p root t d h vA vU k us) (hgp : g < pw) (hpp : p < pw) (hok : S.ok n root) (hk : k ≤ 5000) (page count flags : Nat) (s : ByteArray) (hfl : flagB (flags : Int) = true) (hpc : page + count ≤ 256) (hsz : s.size ≤ 100000)
    (hu : usedN n S.R + 2 * count ≤ n) (hE : ∀ q, page ≤ q → q < page + count → S.E q = (0, 0)) :
    Calls Try.prog 35 #[.pointer (some ⟨pw, 0, none⟩), .agg #[.int .i64 page, .int .i64 count, .int .i64 flags, .string s]] w fun e w' => e = .returned (.int .i64 0) ∧
      (addS n root S page flags s.data.toList count).at w' p g n ∧ (∃ vU' k' us', k' ≤ k + 2 * count ∧ WorkAt w' pw p root t d h vA vU' k' us') ∧ Wk g pw w w' := callsIn_wide.1 (add_in hm hw hgp hpp hok hk page count flags s hfl hpc hsz hu hE)

set_option maxRecDepth 100000 in
set_option maxHeartbeats 8000000 in
theorem load_ok (hm : MemAt w p g n R B) (t d : Nat) (hw : WorkAt w pw p r t d h vA vU k us) (hgp : g < pw) (hpp : p < pw) (hk : k ≤ 1000) (tx dx : ByteArray) (hs1 : tx.size ≤ 1000) (hs2 : dx.size ≤ 1000) (ha : allocE n R = 0)
    (hok : (rootS n R B).ok n (allocN n R)) (hu : usedN n (rootS n R B).R + 2 * (t + d + 2) ≤ n) (ht : t + d ≤ 254) :
    Calls Try.prog 22 #[.pointer (some ⟨pw, 0, none⟩), .string tx, .string dx] w fun e w' => e = .returned (.int .i64 0) ∧
      (loadS n (allocN n R) (rootS n R B) t d tx.data.toList dx.data.toList).at w' p g n ∧ (∃ vU' k' us', WorkAt w' pw p (allocN n R : Nat) t d h vA vU' k' us') ∧ Wk g pw w w' := by
  have HF := Lib.hid (load_facts (text := tx.data.toList) (data := dx.data.toList) hok (fun _ => rfl) hu ht)
  have HPW := Lib.hid (show g < pw ∧ p < pw ∧ pw < w.heap.size from ⟨hgp, hpp, hw.lt⟩)
  have HM := Lib.hid hm; have HW := Lib.hid hw; have HAE := Lib.hid ha; have HOK := Lib.hid hok; have HSZ := Lib.hid (⟨hs1, hs2, ht, hk⟩ : _ ∧ _ ∧ _ ∧ _)
  clear hm hw ha hok hs1 hs2 hu hk
  go_enter Try.func22, Try.ntmps22
  go_wp2_with fail
  refine (addRoot_ok HM.out HW.out HPW.out.1 HPW.out.2.1 (by have := HSZ.out; omega) HAE.out).mono ?_
  rintro e w2 ⟨rfl, hM2, ⟨vU2, us2, hW2⟩, hG2⟩
  have HM2 := Lib.hid hM2; have HW2 := Lib.hid hW2; have HG2 := Lib.hid hG2
  have c2 := hW2.cText; have c3 := hW2.cData
  clear hM2 hW2 hG2
  go_wp2_with fail
  go_still_tail 20, (by kernel_rfl)
  change wpList _ _ _ _ _ w2.drew
  go_wp2_with fail
  have bL : (w2.drew.alloc (.cells #[.int .i64 0, .int .i64 t, .int .i64 1, .string tx, .int .i64 t, .int .i64 d, .int .i64 3, .string dx, .int .i64 254, .int .i64 2, .int .i64 3, .string ByteArray.empty] 82)).heap[w2.heap.size]? = some (.cells #[.int .i64 0, .int .i64 t, .int .i64 1, .string tx, .int .i64 t, .int .i64 d, .int .i64 3, .string dx, .int .i64 254, .int .i64 2, .int .i64 3, .string ByteArray.empty] 82 (0, 0)) := heap_alloc_new w2.drew _
  have HM3 : Hid ((rootS n R B).at (w2.drew.alloc (.cells #[.int .i64 0, .int .i64 t, .int .i64 1, .string tx, .int .i64 t, .int .i64 d, .int .i64 3, .string dx, .int .i64 254, .int .i64 2, .int .i64 3, .string ByteArray.empty] 82)) p g n) := MemAt.alloc (MemAt.drew HM2.out) _
  have HW3 : Hid (WorkAt (w2.drew.alloc (.cells #[.int .i64 0, .int .i64 t, .int .i64 1, .string tx, .int .i64 t, .int .i64 d, .int .i64 3, .string dx, .int .i64 254, .int .i64 2, .int .i64 3, .string ByteArray.empty] 82)) pw p (allocN n R : Nat) t d h vA vU2 (k + 1) us2) := HW2.out.drew.alloc _
  have HG3 : Hid (Wk g pw w (w2.drew.alloc (.cells #[.int .i64 0, .int .i64 t, .int .i64 1, .string tx, .int .i64 t, .int .i64 d, .int .i64 3, .string dx, .int .i64 254, .int .i64 2, .int .i64 3, .string ByteArray.empty] 82))) := HG2.out.drewR.alloc (Nat.le_of_lt HPW.out.2.2) _
  go_loopw [40] (fun i wr => ∃ j : Nat, j ≤ 3 ∧ i = .int .i64 j ∧ (partS n (allocN n R) (rootS n R B) t d tx.data.toList dx.data.toList j).at wr p g n ∧ (∃ vU k' us, k' ≤ 1001 + 600 * j ∧ WorkAt wr pw p (allocN n R : Nat) t d h vA vU k' us) ∧ Wk g pw w wr ∧ wr.heap[w2.heap.size]? = some (.cells #[.int .i64 0, .int .i64 t, .int .i64 1, .string tx, .int .i64 t, .int .i64 d, .int .i64 3, .string dx, .int .i64 254, .int .i64 2, .int .i64 3, .string ByteArray.empty] 82 (0, 0))) (fun i _ => 3 - (intOf i).toNat)
  case atStart => exact ⟨0, by omega, rfl, HM3.out, ⟨_, _, _, by have := HSZ.out; omega, HW3.out⟩, HG3.out, bL⟩
  case round =>
    obtain ⟨j, hj, rfl, hM, ⟨vU3, k3, us3, hk3, hW⟩, hG, hL⟩ := hrel
    have HM := Lib.hid hM; have HW := Lib.hid hW; have HG := Lib.hid hG; have HL := Lib.hid hL; have HK3 := Lib.hid hk3
    clear hM hW hG hk3 HM3 HW3 HG3
    have hbl : Hid (w2.heap.size < wr.heap.size ∧ pw < w2.heap.size ∧ g < w2.heap.size) := ⟨(Array.getElem?_eq_some_iff.1 hL).1, HW2.out.lt, MemAt.g_lt HM2.out⟩
    rcases (by omega : j = 0 ∨ j = 1 ∨ j = 2 ∨ j = 3) with rfl | rfl | rfl | rfl
    · have q0 : wr.cell? ⟨w2.heap.size, 0, none⟩ = some (.int .i64 0) := by simp [World.cell?, hL]
      have q1 : wr.cell? ⟨w2.heap.size, 1, none⟩ = some (.int .i64 t) := by simp [World.cell?, hL]
      have q2 : wr.cell? ⟨w2.heap.size, 2, none⟩ = some (.int .i64 1) := by simp [World.cell?, hL]
      have q3 : wr.cell? ⟨w2.heap.size, 3, none⟩ = some (.string tx) := by simp [World.cell?, hL]
      clear hL
      go_wp2_with fail
      refine (add_ok (S := rootS n R B) (MemAt.alloc HM.out _) (HW.out.alloc _) HPW.out.1 HPW.out.2.1 HOK.out (by have := HK3.out; omega) 0 t 1 tx (by decide) (by have := HSZ.out; omega) (by have := HSZ.out; omega) HF.out.u1 HF.out.e1).mono ?_
      rintro e w5 ⟨rfl, hM5, ⟨vU5, k5, us5, hk5, hW5⟩, hG5⟩
      have HM5 := Lib.hid hM5; have HW5 := Lib.hid hW5
      have HG5 := Lib.hid ((HG.out.alloc (Nat.le_of_lt HPW.out.2.2) _).trans hG5)
      have HL5 := Lib.hid ((hG5.block w2.heap.size (by have := hbl.out; simp; omega) (by have := hbl.out; omega) (by have := hbl.out; omega) (fun C f e => by rw [Below.heap_alloc _ _ _ hbl.out.1, HL.out] at e; simp at e)).trans ((Below.heap_alloc _ _ _ hbl.out.1).trans HL.out))
      have HK5 := Lib.hid hk5
      clear hM5 hW5 hG5 hk5
      go_wp2
      go_roundw
      case rel => exact ⟨1, by omega, by go_num, HM5.out, ⟨_, _, _, by have := HK5.out; have := HK3.out; have := HSZ.out; omega, HW5.out⟩, HG5.out, HL5.out⟩
      case measure => simp [intOf]
    · have q0 : wr.cell? ⟨w2.heap.size, 4, none⟩ = some (.int .i64 t) := by simp [World.cell?, hL]
      have q1 : wr.cell? ⟨w2.heap.size, 5, none⟩ = some (.int .i64 d) := by simp [World.cell?, hL]
      have q2 : wr.cell? ⟨w2.heap.size, 6, none⟩ = some (.int .i64 3) := by simp [World.cell?, hL]
      have q3 : wr.cell? ⟨w2.heap.size, 7, none⟩ = some (.string dx) := by simp [World.cell?, hL]
      clear hL
      go_wp2_with fail
      refine (add_ok (S := addS n (allocN n R) (rootS n R B) 0 1 tx.data.toList t) (MemAt.alloc HM.out _) (HW.out.alloc _) HPW.out.1 HPW.out.2.1 HF.out.a1.ok (by have := HK3.out; omega) t d 3 dx (by decide) (by have := HSZ.out; omega) (by have := HSZ.out; omega) HF.out.u2 HF.out.e2).mono ?_
      rintro e w5 ⟨rfl, hM5, ⟨vU5, k5, us5, hk5, hW5⟩, hG5⟩
      have HM5 := Lib.hid hM5; have HW5 := Lib.hid hW5
      have HG5 := Lib.hid ((HG.out.alloc (Nat.le_of_lt HPW.out.2.2) _).trans hG5)
      have HL5 := Lib.hid ((hG5.block w2.heap.size (by have := hbl.out; simp; omega) (by have := hbl.out; omega) (by have := hbl.out; omega) (fun C f e => by rw [Below.heap_alloc _ _ _ hbl.out.1, HL.out] at e; simp at e)).trans ((Below.heap_alloc _ _ _ hbl.out.1).trans HL.out))
      have HK5 := Lib.hid hk5
      clear hM5 hW5 hG5 hk5
      go_wp2
      go_roundw
      case rel => exact ⟨2, by omega, by go_num, HM5.out, ⟨_, _, _, by have := HK5.out; have := HK3.out; have := HSZ.out; omega, HW5.out⟩, HG5.out, HL5.out⟩
      case measure => simp [intOf]
    · have q0 : wr.cell? ⟨w2.heap.size, 8, none⟩ = some (.int .i64 254) := by simp [World.cell?, hL]
      have q1 : wr.cell? ⟨w2.heap.size, 9, none⟩ = some (.int .i64 2) := by simp [World.cell?, hL]
      have q2 : wr.cell? ⟨w2.heap.size, 10, none⟩ = some (.int .i64 3) := by simp [World.cell?, hL]
      have q3 : wr.cell? ⟨w2.heap.size, 11, none⟩ = some (.string ByteArray.empty) := by simp [World.cell?, hL]
      clear hL
      go_wp2_with fail
      refine (add_ok (S := addS n (allocN n R) (addS n (allocN n R) (rootS n R B) 0 1 tx.data.toList t) t 3 dx.data.toList d) (MemAt.alloc HM.out _) (HW.out.alloc _) HPW.out.1 HPW.out.2.1 HF.out.a2.ok (by have := HK3.out; omega) 254 2 3 ByteArray.empty (by decide) (by have := HSZ.out; omega) (by decide) HF.out.u3 HF.out.e3).mono ?_
      rintro e w5 ⟨rfl, hM5, ⟨vU5, k5, us5, hk5, hW5⟩, hG5⟩
      have HM5 := Lib.hid hM5; have HW5 := Lib.hid hW5
      have HG5 := Lib.hid ((HG.out.alloc (Nat.le_of_lt HPW.out.2.2) _).trans hG5)
      have HL5 := Lib.hid ((hG5.block w2.heap.size (by have := hbl.out; simp; omega) (by have := hbl.out; omega) (by have := hbl.out; omega) (fun C f e => by rw [Below.heap_alloc _ _ _ hbl.out.1, HL.out] at e; simp at e)).trans ((Below.heap_alloc _ _ _ hbl.out.1).trans HL.out))
      have HK5 := Lib.hid hk5
      clear hM5 hW5 hG5 hk5
      go_wp2
      go_roundw
      case rel => exact ⟨3, by omega, by go_num, HM5.out, ⟨_, _, _, by have := HK5.out; have := HK3.out; have := HSZ.out; omega, HW5.out⟩, HG5.out, HL5.out⟩
      case measure => simp [intOf]
    · clear hL
      go_wp2
      go_ret
      exact ⟨rfl, HM.out, ⟨_, _, _, HW.out⟩, HG.out⟩

end
end Go.Proofs.Ytdkaaoboipphcaa
