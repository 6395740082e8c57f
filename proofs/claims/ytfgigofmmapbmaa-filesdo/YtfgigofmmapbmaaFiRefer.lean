/- Package files: refer, walked. -/
import Derived.Test.YtfgigofmmapbmaaFiKeep
namespace Go.Proofs.Ytfgigofmmapbmaa
open Go.RowKit Go.MapKept

theorem mod_eq {F : List OF} {i : Nat} {x : OF} {f g : OF → OF} (hx : F[i]? = some x) (h : f x = g x) : F.modify i f = F.modify i g := by
  apply List.ext_getElem?
  intro j
  rw [mod_at, mod_at]
  by_cases c : i = j
  · subst c
    rw [if_pos rfl, if_pos rfl, hx]
    simp [h]
  · rw [if_neg c, if_neg c]

section
variable {w : World} {p : Nat} {m : Option Nat} {F : List OF} {D : List (Int × Fds)}

set_option maxRecDepth 100000 in
set_option maxHeartbeats 2000000 in
theorem refer_any (h : FM w p m F D) (P : Int) (j i : Nat) (hj : j < 8) (hi : i < 32) {x : OF} (hx : F[i]? = some x) (hlo : 0 ≤ x.refs) (hhi : x.refs ≤ 1000000) :
    Calls Try.prog 34 #[.pointer (some ⟨p, 0, none⟩), .int .i64 P, .int .i64 (j : Int), .int .i64 ((i : Int) + 1)] w fun e w' =>
      e = .returned (.tuple #[]) ∧ ∃ m', FM w' p m' (more1 F i) (keepD D P ((rowD D P).set j ((i : Int) + 1))) ∧ MvF p m m' w w' := by
  have cm := h.cm
  have hl := h.mp.lookup h.ok P
  have h8 := rowD_len h.ok P
  have hp1 := h.p_lt
  have HH := Lib.hid h
  have hK := fun (W : World) (V : Value) (hV : V = rowV ((rowD D P).set j ((i : Int) + 1))) (hW : FM W p m F D) => hV ▸ keep_any hW P (r := (rowD D P).set j ((i : Int) + 1)) (by simpa using h8)
  have HK := Lib.hid hK
  clear hK h
  obtain ⟨a0, a1, a2, a3, a4, a5, a6, a7, hr⟩ := eight h8
  rw [hr] at hl HK ⊢
  unfold rowV at hl
  simp only [List.map_cons, List.map_nil] at hl
  clear h8 hr
  have hj8 : j = 0 ∨ j = 1 ∨ j = 2 ∨ j = 3 ∨ j = 4 ∨ j = 5 ∨ j = 6 ∨ j = 7 := by omega
  have HJ := Lib.hid hj8
  clear hj8
  go_enter Try.func34, Try.ntmps34
  go_wp2_with (go_at_call 35; refine (HK.out _ _ (by rcases HJ.out with rfl | rfl | rfl | rfl | rfl | rfl | rfl | rfl <;> rfl) (HH.out.alloc _)).mono ?_; rintro e w2 ⟨rfl, m', hF2, hM2⟩; have H2 := Lib.hid hF2; have M2 := Lib.hid (((MvF.refl w).alloc _).trans hM2); have c2 := hF2.at2 hx; have f2 := hF2.f (i * 3 + 2); clear hF2 hM2)
  have hi0 : (0 : Int) ≤ (i : Int) := by omega
  have hi32 : (i : Int) < 32 := by omega
  have hwi : IntKind.i64.wrap (i : Int) = (i : Int) := by simp [IntKind.wrap, IntKind.bits, IntKind.signed]; omega
  have hwr : IntKind.i64.wrap (x.refs + 1) = x.refs + 1 := by simp [IntKind.wrap, IntKind.bits, IntKind.signed]; omega
  go_still_tail 13, (by kernel_rfl)
  change wpList _ _ _ _ _ w2.drew
  go_wp2
  refine bodyPost_end (results_none rfl _ _ _) rfl ?_
  refine ⟨rfl, m', ?_, (M2.out.drew2).set _ _⟩
  have := (H2.out.heap (w' := w2.drew) rfl).setRefs hi (x.refs + 1)
  rw [mod_eq (g := fun x => { x with refs := x.refs + 1 }) hx rfl] at this
  exact this
end
end Go.Proofs.Ytfgigofmmapbmaa
