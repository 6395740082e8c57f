/- The document's own table of processes (taffrailref06): Sleep, Kill, Become, walked. -/
import Derived.Test.YtonllnbincgdpaaRef6Base
import Derived.Test.YtonllnbincgdpaaCredRight
namespace Go.Proofs.Ytonllnbincgdpaa
open Go.RowKit

/-- states as they are: who runs has no channel. -/
def CInv (L : List PV) : Prop := ∀ q ∈ L, (q.st = 1 ∧ q.ch = ⟨#[]⟩) ∨ q.st = 2 ∨ q.st = 3

section
variable {w : World} {base q : Nat} {L : List PV} {g : Int}

theorem set_at {L : List PV} {i : Nat} {x : PV} (h : i < L.length) : (L.set i x)[i]? = some x := List.getElem?_set_self h

set_option maxRecDepth 100000 in
set_option maxHeartbeats 2000000 in
theorem rsleep {r cap : Nat} (h : RT w base q r cap L g) (ho : TOk L g) (k : Int) (s : ByteArray) : Calls Try.prog 30 #[.pointer (some ⟨q, 0, none⟩), .int .i64 k, .string s] w fun e w' => e = .returned (.int .i64 (runE L k)) ∧ RTab w' base q (slL L k s) g ∧ Turn q r w w' := by
  have hn := ho.len
  cases e : getL L k with
  | none =>
    have hE : runE L k = 60 := by unfold runE; rw [e]
    rw [slL_no (by rw [hE]; decide), hE]
    have HA := Lib.hid (rat_none h hn (getL_none e))
    have HR := Lib.hid h
    clear h e hE
    go_enter Try.func30, Try.ntmps30
    go_wp2_with (go_at_call 47; refine HA.out.mono ?_; rintro e w' ⟨rfl, rfl⟩)
    go_ret
    exact ⟨rfl, ⟨_, _, HR.out⟩, Turn.refl _⟩
  | some x =>
    obtain ⟨i, hil, hi, hx, hlo⟩ := getL_idx e
    have HA := Lib.hid (rat_some h hn hil hi hx hlo)
    have hat := atL_some e
    by_cases hs : x.st = 1
    · have hE : runE L k = 0 := by unfold runE; rw [e]; simp [hs]
      have HS : Hid (L.set i (slV s x) = slL L k s) := by unfold Hid; rw [slL_yes hE, hat]; exact setL_set ho hi hx
      rw [hE, ← HS.out]
      have h1 := h.set (x' := { x with st := 2 }) hi 2 (u := .int .i64 2) (by decide) rfl
      have h2 := h1.set (x' := slV s x) (set_at hil) 5 (u := .string s) (by decide) rfl
      have c0 := h.c0; have y2 := h.at hi 2 rfl; have f2 := h.fr (i * 8 + 2)
      have d0 := h1.c0; have z5 := h1.at (set_at hil) 5 rfl; have g5 := h1.fr (i * 8 + 5)
      rw [List.length_set] at d0
      rw [List.set_set] at h2
      have HR := Lib.hid h2
      have hbr := h.br
      clear h h1 h2 e hlo hi hx hat hE
      obtain ⟨a0, a1, a2, a3, a4, a5, a6, a7⟩ := x
      dsimp only at hs
      subst hs
      go_enter Try.func30, Try.ntmps30
      go_wp2_with (go_at_call 47; refine HA.out.mono ?_; rintro e w' ⟨rfl, rfl⟩)
      go_ret
      exact ⟨rfl, ⟨_, _, HR.out⟩, ((Turn.refl _).setM _ _).setM _ _⟩
    · have hE : runE L k = 2 := by unfold runE; rw [e]; simp [hs]
      rw [slL_no (by rw [hE]; decide), hE]
      have c0 := h.c0; have y2 := h.at hi 2 rfl
      have b2 : (x.st == 1) = false := by simpa using hs
      have HR := Lib.hid h
      clear h e hlo hi hx hat hE hs
      go_enter Try.func30, Try.ntmps30
      go_wp2_with (go_at_call 47; refine HA.out.mono ?_; rintro e w' ⟨rfl, rfl⟩)
      go_ret
      exact ⟨rfl, ⟨_, _, HR.out⟩, Turn.refl _⟩

/-- what killing makes of a process that has not ended. -/
theorem kill_val {x : PV} (h : (x.st = 1 ∧ x.ch = ⟨#[]⟩) ∨ x.st = 2 ∨ x.st = 3) (h3 : x.st ≠ 3) : killV x = { x with kil := true, st := 1, ch := ⟨#[]⟩ } := by
  obtain ⟨a0, a1, a2, a3, a4, a5, a6, a7⟩ := x
  unfold killV awakeV
  dsimp only at *
  rcases h with ⟨rfl, rfl⟩ | rfl | rfl
  · simp
  · simp
  · exact absurd rfl h3

set_option maxRecDepth 100000 in
set_option maxHeartbeats 2000000 in
theorem rkill {r cap : Nat} (h : RT w base q r cap L g) (ho : TOk L g) (hc : CInv L) (k : Int) : Calls Try.prog 29 #[.pointer (some ⟨q, 0, none⟩), .int .i64 k] w fun e w' => e = .returned (.int .i64 (kiE L k)) ∧ RTab w' base q (kiL L k) g ∧ Turn q r w w' := by
  have hn := ho.len
  cases e : getL L k with
  | none =>
    have hE : kiE L k = 60 := by unfold kiE; rw [e]
    rw [kiL_no (by rw [hE]; decide), hE]
    have HA := Lib.hid (rat_none h hn (getL_none e))
    have HR := Lib.hid h
    clear h e hE
    go_enter Try.func29, Try.ntmps29
    go_wp2_with (go_at_call 47; refine HA.out.mono ?_; rintro e w' ⟨rfl, rfl⟩)
    go_ret
    exact ⟨rfl, ⟨_, _, HR.out⟩, Turn.refl _⟩
  | some x =>
    obtain ⟨i, hil, hi, hx, hlo⟩ := getL_idx e
    have HA := Lib.hid (rat_some h hn hil hi hx hlo)
    have hat := atL_some e
    have hcx := hc x (List.mem_of_getElem? hi)
    by_cases hk : k = 1
    · have hE : kiE L k = 2 := by unfold kiE; rw [e]; simp [hk]
      rw [kiL_no (by rw [hE]; decide), hE]
      have HR := Lib.hid h
      clear h e hlo hi hx hat hE hcx hc
      subst hk
      go_enter Try.func29, Try.ntmps29
      go_wp2_with (go_at_call 47; refine HA.out.mono ?_; rintro e w' ⟨rfl, rfl⟩)
      go_ret
      exact ⟨rfl, ⟨_, _, HR.out⟩, Turn.refl _⟩
    · have b1 : (k == 1) = false := by simpa using hk
      by_cases hs : x.st = 3
      · have hE : kiE L k = 60 := by unfold kiE; rw [e]; simp [hk, hs]
        rw [kiL_no (by rw [hE]; decide), hE]
        have c0 := h.c0; have y2 := h.at hi 2 rfl
        have HR := Lib.hid h
        clear h e hlo hi hx hat hE hk hcx hc
        obtain ⟨a0, a1, a2, a3, a4, a5, a6, a7⟩ := x
        dsimp only at hs y2
        subst hs
        go_enter Try.func29, Try.ntmps29
        go_wp2_with (go_at_call 47; refine HA.out.mono ?_; rintro e w' ⟨rfl, rfl⟩)
        go_ret
        exact ⟨rfl, ⟨_, _, HR.out⟩, Turn.refl _⟩
      · have hE : kiE L k = 0 := by unfold kiE; rw [e]; simp [hk, hs]
        have HS : Hid (L.set i { x with kil := true, st := 1, ch := ⟨#[]⟩ } = kiL L k) := by unfold Hid; rw [kiL_yes hE, hat, kill_val hcx hs]; exact setL_set ho hi hx
        rw [hE, ← HS.out]
        have b2 : (x.st == 3) = false := by simpa using hs
        have h1 := h.set (x' := { x with kil := true }) hi 7 (u := .bool true) (by decide) rfl
        have h2 := h1.set (x' := { x with kil := true, st := 1 }) (set_at hil) 2 (u := .int .i64 1) (by decide) rfl
        have h3 := h2.set (x' := { x with kil := true, st := 1, ch := ⟨#[]⟩ }) (set_at (by rw [List.length_set]; exact hil)) 5 (u := .string ⟨#[]⟩) (by decide) rfl
        have c0 := h.c0; have y2 := h.at hi 2 rfl; have y7 := h.at hi 7 rfl; have f7 := h.fr (i * 8 + 7)
        have d0 := h1.c0; have z2 := h1.at (set_at hil) 2 rfl; have g2 := h1.fr (i * 8 + 2)
        have e0 := h2.c0; have t5 := h2.at (set_at (by rw [List.length_set]; exact hil)) 5 rfl; have k5 := h2.fr (i * 8 + 5)
        rw [List.length_set] at d0
        rw [List.length_set, List.length_set] at e0
        rw [List.set_set, List.set_set] at h3
        have HR := Lib.hid h3
        have hbr := h.br
        clear h h1 h2 h3 e hlo hi hx hat hE hk hcx hc hs
        obtain ⟨a0, a1, a2, a3, a4, a5, a6, a7⟩ := x
        dsimp only at b2 y2
        go_enter Try.func29, Try.ntmps29
        go_wp2_with (go_at_call 47; refine HA.out.mono ?_; rintro e w' ⟨rfl, rfl⟩)
        go_ret
        exact ⟨rfl, ⟨_, _, HR.out⟩, (((Turn.refl _).setM _ _).setM _ _).setM _ _⟩
end
end Go.Proofs.Ytonllnbincgdpaa
