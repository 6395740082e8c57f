/- Layer 10: shown, under Works10. -/
import Derived.Test.YtpfldelmbigmbaaDoorPiWorks
namespace Go.Proofs.YtpfldelmbigmbaaDoor
open Go.RowKit

theorem pq1 : rdE [] 1 5 = 63 ∧ rdS [] 1 5 = [] ∧ rdL [] 1 5 = [] := by decide
theorem pq2 : wrE [] 1 [97, 98] = 0 ∧ wrN [] 1 [97, 98] = 2 ∧ wrL [] 1 [97, 98] = [97, 98] := by decide
theorem pq3 : rdE [97, 98] 1 5 = 0 ∧ rdS [97, 98] 1 5 = [97, 98] ∧ rdL [97, 98] 1 5 = [] := by decide
theorem pq4 : clE 1 1 2 = 0 ∧ clB 1 1 2 = false ∧ clR 1 1 2 = 1 ∧ clW 1 1 2 = 0 := by decide
theorem pq5 : rdE [] 0 5 = 0 ∧ rdS [] 0 5 = [] ∧ rdL [] 0 5 = [] := by decide
set_option maxRecDepth 100000 in
set_option maxHeartbeats 4000000 in
theorem shown10 {g : Nat} {Pi : World → (Nat → Prop) → Nat → List UInt8 → Nat → Nat → Prop} (K : Works10 g Pi) (W : World) (N : NewP g Pi W) : Calls Tryd.prog 10 #[] W fun e W' => e = .returned (.bool true) ∧ Below W.heap.size W W' := by
  have NW := Lib.hid (sp_new (W0 := W) N (Below.refl _ W))
  have HK := Lib.hid K
  clear K N
  go_enter Tryd.func10, Tryd.ntmps10
  go_wp2_with (first
    | (go_at_call 11; refine NW.out.mono ?_; rintro e w1 ⟨q, rfl, h1⟩; have O1 := sp_read HK.out h1 5 (by decide); rw [pq1.1, pq1.2.1, pq1.2.2] at O1; have O1 := Lib.hid O1; clear h1)
    | (go_at_call 12; refine O1.out.mono ?_; rintro e w2 ⟨rfl, h2⟩; have D1 := sp_write HK.out h2 ⟨#[97, 98]⟩ (.inl (by decide)); rw [show (⟨#[97, 98]⟩ : ByteArray).data.toList = [97, 98] from rfl, pq2.1, pq2.2.1, pq2.2.2] at D1; have D1 := Lib.hid D1; clear h2 O1)
    | (go_at_call 14; refine D1.out.mono ?_; rintro e w3 ⟨rfl, h3⟩; have R1 := sp_read HK.out h3 5 (by decide); rw [pq3.1, pq3.2.1, pq3.2.2] at R1; have R1 := Lib.hid R1; clear h3)
    | (go_at_call 12; refine R1.out.mono ?_; rintro e w4 ⟨rfl, h4⟩; have C1 := sp_cls HK.out h4 2; rw [pq4.1, pq4.2.1, pq4.2.2.1, pq4.2.2.2] at C1; have C1 := Lib.hid C1; clear h4 R1)
    | (go_at_call 19; refine C1.out.mono ?_; rintro e w5 ⟨rfl, h5⟩; have R2 := sp_read HK.out h5 5 (by decide); rw [pq5.1, pq5.2.1, pq5.2.2] at R2; have R2 := Lib.hid R2; clear h5)
    | (go_at_call 12; refine R2.out.mono ?_; rintro e w6 ⟨rfl, h6⟩; have H6 := Lib.hid h6; clear h6))
  go_ret
  exact ⟨rfl, H6.out.bel⟩
end Go.Proofs.YtpfldelmbigmbaaDoor
