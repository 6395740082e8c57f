/- Package files, as functions on a list of descriptors: Drop, walked. -/
import Derived.Test.YtfgigofmmapbmaaFiGet
namespace Go.Proofs.Ytfgigofmmapbmaa
open Go.RowKit

section
variable {w w' : World} {S : Nat → Prop} {p : Nat} {m m' : Option Nat} {L L' : List FV} {n n' : Nat} {F F' : List OF} {D D' : List (Int × Fds)} {φ φ' : Int → Nat}

set_option maxRecDepth 100000 in
set_option maxHeartbeats 4000000 in
theorem fi_drop (h : Fi w S p L n) (hl : L.length ≤ 80000) (P : Int) : Calls Try.prog 21 #[.pointer (some ⟨p, 0, none⟩), .int .i64 P] w fun e w' =>
    ∃ u, e = .returned u ∧ OsIn w' w.heap.size u (drO L P 8) ∧ ∃ S', Fi w' S' p (drL L P 8) n ∧ MvS S S' w w' := by
  obtain ⟨m, F, D, φ, rfl, h, hF, hD, hw⟩ := h
  obtain ⟨hRF, hGN⟩ := drop_rel hw hF hD h.ok P 8 (Nat.le_refl _)
  have hRD := drop_rows hw hD h.ok P
  have hwd := hw.dr P 8
  have h8 := rowD_len h.ok P
  rw [List.take_of_length_le (by omega)] at hRF hGN
  have HNS : Hid (∀ a ∈ rowD D P, a = 0 ∨ ∃ i : Nat, i < 32 ∧ a = (i : Int) + 1) := fun a ha => by
    obtain ⟨d, hd, rfl⟩ := List.mem_iff_getElem.1 ha
    have h1 := hD P d (by omega)
    rw [List.getElem?_eq_getElem hd] at h1
    have h2 := hF.num_le (p := P) (d := (d : Int))
    have h3 := Option.some.inj h1
    by_cases c : numI φ L P d = 0
    · exact .inl (h3.trans c)
    · exact .inr ⟨(numI φ L P d).toNat - 1, by omega, by omega⟩
  have HBD := Lib.hid (hF.bndF hl)
  have cm := h.cm
  have hlk := h.mp.lookup h.ok P
  have HP1 := Lib.hid h.p_lt
  have HML := Lib.hid h.m_lt
  have HH := Lib.hid h
  have HK := Lib.hid (fun (W : World) (hW : FM W p m F D) => keep_any hW P (r := zero8) rfl)
  have HR := Lib.hid (And.intro hRF (And.intro hRD hwd))
  have HGN := Lib.hid hGN
  have HLv : Hid (∀ (W : World) (m' : Option Nat) (D' : List (Int × Fds)) (B : Array Value), B = ((rowD D P).map (Value.int .i64)).toArray → FM W p m' F D' → BoxA W w.heap.size 73 B → Calls Try.prog 36 #[.pointer (some ⟨p, 0, none⟩), .slice (some ⟨w.heap.size, 0, none⟩) 8 8] W fun e w' =>
      ∃ u, e = .returned u ∧ OsAt w' W.heap.size u (drO L P 8) ∧ FM w' p m' (leaveF (rowD D P) F) D' ∧ MvF p m' m' W w') := fun W m' D' B hB hW hBx => by
    have := leave_any hW (ns := rowD D P) (by omega) HNS.out HBD.out w.heap.size hBx.lt (by have := HP1.out; omega) (hW.mp.far hBx) (fun j x hj => hBx.at j (by rw [hB]; simp [hj]))
    rw [h8, HGN.out] at this
    exact this
  obtain ⟨a0, a1, a2, a3, a4, a5, a6, a7, hr⟩ := eight h8
  rw [hr] at hlk HLv HR
  unfold rowV at hlk
  simp only [List.map_cons, List.map_nil] at hlk HLv
  have hsl : ∀ t : World, True := fun _ => trivial
  clear h hF hD hw hRF hGN hRD hwd h8 hr hsl
  have bx := BoxA.new w 73 #[.int .i64 a0, .int .i64 a1, .int .i64 a2, .int .i64 a3, .int .i64 a4, .int .i64 a5, .int .i64 a6, .int .i64 a7]
  have HBX := Lib.hid bx
  have H1 := Lib.hid (HH.out.alloc (.cells #[.int .i64 a0, .int .i64 a1, .int .i64 a2, .int .i64 a3, .int .i64 a4, .int .i64 a5, .int .i64 a6, .int .i64 a7] 73))
  have M1 := Lib.hid ((MvF.refl (p := p) (m := m) w).alloc (.cells #[.int .i64 a0, .int .i64 a1, .int .i64 a2, .int .i64 a3, .int .i64 a4, .int .i64 a5, .int .i64 a6, .int .i64 a7] 73))
  clear bx
  go_enter Try.func21, Try.ntmps21
  go_wp2_with (first
    | (go_at_call 35; refine (HK.out _ H1.out).mono ?_; rintro e w1 ⟨rfl, m1, h1, m1'⟩; have HF1 := Lib.hid h1; have M2 := Lib.hid m1'; have HB1 := Lib.hid (m1'.box HBX.out (by have := HP1.out; omega) (H1.out.mp.far HBX.out)); clear h1 m1')
    | (go_at_call 36; refine (HLv.out _ _ _ _ rfl HF1.out HB1.out).mono ?_; rintro e w2 ⟨u, rfl, hO, h2, m2⟩; have HO := Lib.hid hO; have HF2 := Lib.hid h2; have M3 := Lib.hid m2; clear hO h2 m2))
  go_ret
  have hM := (M1.out.trans M2.out).trans M3.out
  have hs := (M1.out.trans M2.out).size
  exact ⟨_, rfl, HO.out.in.mono hs, fi_mv HF2.out hM HR.out.1 HR.out.2.1 HR.out.2.2⟩
end
end Go.Proofs.Ytfgigofmmapbmaa
