/- The document's own pipe of layer 10 (taffrailref10), walked: a struct of bytes, readers, writers. -/
import Derived.Test.YtpfldelmbigmbaaDoorPiPure
import Derived.BigQuiet
namespace Go.Proofs.YtpfldelmbigmbaaDoor
open Go.RowKit

/-- the document's pipe at q. -/
abbrev RP (W : World) (q : Nat) (L : List UInt8) (r w : Nat) : Prop := BoxA W q 28 #[.string ⟨L.toArray⟩, .int .i64 (r : Int), .int .i64 (w : Int)]
section
variable {W : World} {q r w : Nat} {L : List UInt8}

set_option maxRecDepth 100000 in
set_option maxHeartbeats 2000000 in
theorem ropen (h : RP W q L r w) (ok : POk L r w) (k : Int) : Calls Tryd.prog 18 #[.pointer (some ⟨q, 0, none⟩), .int .i64 k] W fun e W' => e = .returned (.int .i64 (opE r w k)) ∧ RP W' q L (opR r w k) (opW r w k) ∧ Tur q W W' := by
  have c1 := h.at 1 (v := .int .i64 (r : Int)) rfl
  have c2 := h.at 2 (v := .int .i64 (w : Int)) rfl
  have f1 := h.f 1; have f2 := h.f 2
  have hr := ok.rd; have hw := ok.wr
  have H := Lib.hid h
  clear h ok
  by_cases k1 : k = 1
  · subst k1
    by_cases h1 : r < 100
    · have e : opE r w 1 = 0 := by unfold opE; rw [if_pos (.inl ⟨rfl, h1⟩)]
      have e1 : opR r w 1 = r + 1 := by unfold opR; rw [e, if_pos ⟨rfl, rfl⟩]
      have e2 : opW r w 1 = w := by unfold opW; rw [e, if_neg (by omega)]
      rw [e, e1, e2]
      clear e e1 e2
      go_enter Tryd.func18, Tryd.ntmps18
      go_wp2
      go_ret
      exact ⟨rfl, H.out.set 1 _, (Tur.refl W).set _ _⟩
    · have e : opE r w 1 = 2 := by unfold opE; rw [if_neg (by omega)]
      have e1 : opR r w 1 = r := by unfold opR; rw [e, if_neg (by decide)]
      have e2 : opW r w 1 = w := by unfold opW; rw [e, if_neg (by decide)]
      rw [e, e1, e2]
      clear e e1 e2
      go_enter Tryd.func18, Tryd.ntmps18
      go_wp2
      go_ret
      exact ⟨rfl, H.out, Tur.refl W⟩
  · by_cases k2 : k = 2
    · subst k2
      by_cases h1 : w < 100
      · have e : opE r w 2 = 0 := by unfold opE; rw [if_pos (.inr ⟨rfl, h1⟩)]
        have e1 : opR r w 2 = r := by unfold opR; rw [e, if_neg (by omega)]
        have e2 : opW r w 2 = w + 1 := by unfold opW; rw [e, if_pos ⟨rfl, rfl⟩]
        rw [e, e1, e2]
        clear e e1 e2 k1
        go_enter Tryd.func18, Tryd.ntmps18
        go_wp2
        go_ret
        exact ⟨rfl, H.out.set 2 _, (Tur.refl W).set _ _⟩
      · have e : opE r w 2 = 2 := by unfold opE; rw [if_neg (by omega)]
        have e1 : opR r w 2 = r := by unfold opR; rw [e, if_neg (by decide)]
        have e2 : opW r w 2 = w := by unfold opW; rw [e, if_neg (by decide)]
        rw [e, e1, e2]
        clear e e1 e2 k1
        go_enter Tryd.func18, Tryd.ntmps18
        go_wp2
        go_ret
        exact ⟨rfl, H.out, Tur.refl W⟩
    · have b1 : (k == 1) = false := by simpa using k1
      have b2 : (k == 2) = false := by simpa using k2
      have e : opE r w k = 2 := by unfold opE; rw [if_neg (by omega)]
      have e1 : opR r w k = r := by unfold opR; rw [e, if_neg (by omega)]
      have e2 : opW r w k = w := by unfold opW; rw [e, if_neg (by omega)]
      rw [e, e1, e2]
      clear e e1 e2 k1 k2
      go_enter Tryd.func18, Tryd.ntmps18
      go_wp2
      go_ret
      exact ⟨rfl, H.out, Tur.refl W⟩

set_option maxRecDepth 100000 in
set_option maxHeartbeats 2000000 in
theorem rclose (h : RP W q L r w) (ok : POk L r w) (k : Int) : Calls Tryd.prog 20 #[.pointer (some ⟨q, 0, none⟩), .int .i64 k] W fun e W' => e = .returned (.tuple #[.bool (clB r w k), .int .i64 (clE r w k)]) ∧ RP W' q L (clR r w k) (clW r w k) ∧ Tur q W W' := by
  have c1 := h.at 1 (v := .int .i64 (r : Int)) rfl
  have c2 := h.at 2 (v := .int .i64 (w : Int)) rfl
  have f1 := h.f 1; have f2 := h.f 2
  have hr := ok.rd; have hw := ok.wr
  have H := Lib.hid h
  clear h ok
  by_cases k1 : k = 1
  · subst k1
    by_cases h1 : 0 < r
    · have e : clE r w 1 = 0 := by unfold clE; rw [if_pos (.inl ⟨rfl, h1⟩)]
      have e1 : clR r w 1 = r - 1 := by unfold clR; rw [e, if_pos ⟨rfl, rfl⟩]
      have e2 : clW r w 1 = w := by unfold clW; rw [e, if_neg (by omega)]
      have e3 : clB r w 1 = (((r - 1 : Nat) : Int) + (w : Int) == 0) := by
        unfold clB
        rw [e, e1, e2, Bool.eq_iff_iff]
        simp
        omega
      rw [e, e1, e2, e3]
      obtain ⟨s, rfl⟩ : ∃ s, r = s + 1 := ⟨r - 1, by omega⟩
      rw [Nat.add_sub_cancel]
      have hs : ((s + 1 : Nat) : Int) = (s : Int) + 1 := by omega
      rw [hs] at c1
      have HS := Lib.hid (H.out.set 1 (.int .i64 (s : Int)))
      have HT := Lib.hid ((Tur.refl (q := q) W).set 1 (.int .i64 (s : Int)))
      have d2 := HS.out.at 2 (v := .int .i64 (w : Int)) rfl
      have d1 := HS.out.at 1 (v := .int .i64 (s : Int)) rfl
      clear e e1 e2 e3 hs
      go_enter Tryd.func20, Tryd.ntmps20
      go_wp2_with fail
      go_quiet (fail)
      go_wp2
      exact bodyPost_ret (v := .tuple #[.bool ((s : Int) + (w : Int) == 0), .int .i64 0]) (by simp [results, Tryd.results20, go_sem]) rfl ⟨rfl, HS.out.keep rfl, ⟨HT.out.os, HT.out.tape, HT.out.output, HT.out.size, HT.out.block⟩⟩
    · have e : clE r w 1 = 2 := by unfold clE; rw [if_neg (by omega)]
      have e1 : clR r w 1 = r := by unfold clR; rw [e, if_neg (by decide)]
      have e2 : clW r w 1 = w := by unfold clW; rw [e, if_neg (by decide)]
      have e3 : clB r w 1 = false := by unfold clB; rw [e]; rfl
      rw [e, e1, e2, e3]
      clear e e1 e2 e3
      go_enter Tryd.func20, Tryd.ntmps20
      go_wp2
      exact bodyPost_ret (v := .tuple #[.bool false, .int .i64 2]) (by simp [results, Tryd.results20, go_sem]) rfl ⟨rfl, H.out, Tur.refl W⟩
  · by_cases k2 : k = 2
    · subst k2
      by_cases h1 : 0 < w
      · have e : clE r w 2 = 0 := by unfold clE; rw [if_pos (.inr ⟨rfl, h1⟩)]
        have e1 : clR r w 2 = r := by unfold clR; rw [e, if_neg (by omega)]
        have e2 : clW r w 2 = w - 1 := by unfold clW; rw [e, if_pos ⟨rfl, rfl⟩]
        have e3 : clB r w 2 = ((r : Int) + ((w - 1 : Nat) : Int) == 0) := by
          unfold clB
          rw [e, e1, e2, Bool.eq_iff_iff]
          simp
          omega
        rw [e, e1, e2, e3]
        obtain ⟨s, rfl⟩ : ∃ s, w = s + 1 := ⟨w - 1, by omega⟩
        rw [Nat.add_sub_cancel]
        have hs : ((s + 1 : Nat) : Int) = (s : Int) + 1 := by omega
        rw [hs] at c2
        have HS := Lib.hid (H.out.set 2 (.int .i64 (s : Int)))
        have HT := Lib.hid ((Tur.refl (q := q) W).set 2 (.int .i64 (s : Int)))
        have d2 := HS.out.at 2 (v := .int .i64 (s : Int)) rfl
        have d1 := HS.out.at 1 (v := .int .i64 (r : Int)) rfl
        clear e e1 e2 e3 hs k1
        go_enter Tryd.func20, Tryd.ntmps20
        go_wp2_with fail
        go_quiet (fail)
        go_wp2
        exact bodyPost_ret (v := .tuple #[.bool ((r : Int) + (s : Int) == 0), .int .i64 0]) (by simp [results, Tryd.results20, go_sem]) rfl ⟨rfl, HS.out.keep rfl, ⟨HT.out.os, HT.out.tape, HT.out.output, HT.out.size, HT.out.block⟩⟩
      · have e : clE r w 2 = 2 := by unfold clE; rw [if_neg (by omega)]
        have e1 : clR r w 2 = r := by unfold clR; rw [e, if_neg (by decide)]
        have e2 : clW r w 2 = w := by unfold clW; rw [e, if_neg (by decide)]
        have e3 : clB r w 2 = false := by unfold clB; rw [e]; rfl
        rw [e, e1, e2, e3]
        clear e e1 e2 e3 k1
        go_enter Tryd.func20, Tryd.ntmps20
        go_wp2
        exact bodyPost_ret (v := .tuple #[.bool false, .int .i64 2]) (by simp [results, Tryd.results20, go_sem]) rfl ⟨rfl, H.out, Tur.refl W⟩
    · have b1 : (k == 1) = false := by simpa using k1
      have b2 : (k == 2) = false := by simpa using k2
      have e : clE r w k = 2 := by unfold clE; rw [if_neg (by omega)]
      have e1 : clR r w k = r := by unfold clR; rw [e, if_neg (by omega)]
      have e2 : clW r w k = w := by unfold clW; rw [e, if_neg (by omega)]
      have e3 : clB r w k = false := by unfold clB; rw [e]; rfl
      rw [e, e1, e2, e3]
      clear e e1 e2 e3 k1 k2
      go_enter Tryd.func20, Tryd.ntmps20
      go_wp2
      exact bodyPost_ret (v := .tuple #[.bool false, .int .i64 2]) (by simp [results, Tryd.results20, go_sem]) rfl ⟨rfl, H.out, Tur.refl W⟩
end
end Go.Proofs.YtpfldelmbigmbaaDoor
