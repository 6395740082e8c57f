/- PipeBroken, under Works10: without readers nothing is written, without writers what is left is read, then the end. -/
import Derived.Test.YtpfldelmbigmbaaDoorPipeEndsOf
namespace Go.Proofs.YtpfldelmbigmbaaDoor
open Go.RowKit

theorem strP_data (s : ByteArray) : strP s.data.toList = .string s := by unfold strP; rw [Array.toArray_toList]
theorem size_list (s : ByteArray) : s.data.toList.length = s.size := by rw [Array.length_toList]; rfl
theorem size_cut (s : ByteArray) {k : Nat} (h : k ≤ s.size) : (s.extract 0 k).size = k := by rw [ByteArray.size_extract]; omega
theorem wr_first {S : List UInt8} (h : S.length ≤ 32) : wrE [] 1 S = 0 ∧ wrN [] 1 S = S.length ∧ wrL [] 1 S = S := by
  have e : wrE [] 1 S = 0 := by unfold wrE; rw [if_neg (by decide), if_neg (fun c => by have := c.2; simp at this)]
  have e2 : wrN [] 1 S = S.length := by unfold wrN; rw [if_pos e]; simp; omega
  refine ⟨e, e2, ?_⟩
  unfold wrL
  rw [e2]; simp
theorem wr_broken (L S : List UInt8) : wrE L 0 S = 90 ∧ wrN L 0 S = 0 ∧ wrL L 0 S = L := by
  have e : wrE L 0 S = 90 := by unfold wrE; rw [if_pos rfl]
  have e2 := wrL_no (L := L) (r := 0) (S := S) (by rw [e]; decide)
  exact ⟨e, e2.1, e2.2⟩
theorem rd_left {L : List UInt8} (h : L.length ≤ 100) : rdE L 0 100 = 0 ∧ rdS L 0 100 = L ∧ rdL L 0 100 = [] := by
  have e : rdE L 0 100 = 0 := by unfold rdE; rw [if_neg (by decide), if_neg (fun c => by have := c.2.2; omega)]
  unfold rdS rdL
  rw [e, if_pos rfl, if_pos rfl]
  exact ⟨rfl, List.take_of_length_le (by exact h), List.drop_eq_nil_of_le (by exact h)⟩

set_option maxRecDepth 100000 in
set_option maxHeartbeats 8000000 in
theorem broken_of {g : Nat} {Pi : World → (Nat → Prop) → Nat → List UInt8 → Nat → Nat → Prop} (K : Works10 g Pi) (W : World) (N : NewP g Pi W) (s t : ByteArray) (hs : s.size ≤ maxLen) :
    Calls Tryd.prog 6 #[.string s, .string t] W fun e W' => e = .returned (.bool true) ∧ Below W.heap.size W W' := by
  have HS := Lib.hid (shown10 K W N)
  have HK := Lib.hid K
  have HN := Lib.hid N
  unfold maxLen at hs
  clear K N
  have key : ∀ S : ByteArray, S.size ≤ 30 → Hid (∀ (w2 : World) (p : Nat), Sp Pi W w2 p [] 1 1 → Calls Tryd.prog 14 #[.pointer (some ⟨p, 0, none⟩), .string S] w2 fun e w' => e = .returned (.tuple #[.int .i64 S.size, .int .i64 0]) ∧ Sp Pi W w' p S.data.toList 1 1) := fun S hS w2 p h => by
    have hl := size_list S
    have := sp_write HK.out h S (.inl (by omega))
    obtain ⟨e1, e2, e3⟩ := wr_first (S := S.data.toList) (by omega)
    rw [e1, e2, e3, hl] at this
    exact this
  have HC1 : Hid (∀ (L : List UInt8) (w2 : World) (p : Nat), Sp Pi W w2 p L 1 1 → Calls Tryd.prog 19 #[.pointer (some ⟨p, 0, none⟩), .int .i64 1] w2 fun e w' => e = .returned (.tuple #[.bool false, .int .i64 0]) ∧ Sp Pi W w' p L 0 1) := fun L w2 p h => sp_cls HK.out h 1
  have HWB : Hid (∀ (L : List UInt8) (w2 : World) (p : Nat), Sp Pi W w2 p L 0 1 → Calls Tryd.prog 14 #[.pointer (some ⟨p, 0, none⟩), .string t] w2 fun e w' => e = .returned (.tuple #[.int .i64 0, .int .i64 90]) ∧ Sp Pi W w' p L 0 1) := fun L w2 p h => by
    have := sp_write HK.out h t (.inr rfl)
    obtain ⟨e1, e2, e3⟩ := wr_broken L t.data.toList
    rw [e1, e2, e3] at this
    exact this
  have HO1 : Hid (∀ (L : List UInt8) (w2 : World) (p : Nat), Sp Pi W w2 p L 0 1 → Calls Tryd.prog 17 #[.pointer (some ⟨p, 0, none⟩), .int .i64 1] w2 fun e w' => e = .returned (.int .i64 0) ∧ Sp Pi W w' p L 1 1) := fun L w2 p h => sp_open HK.out h 1
  have HC2 : Hid (∀ (L : List UInt8) (w2 : World) (p : Nat), Sp Pi W w2 p L 1 1 → Calls Tryd.prog 19 #[.pointer (some ⟨p, 0, none⟩), .int .i64 2] w2 fun e w' => e = .returned (.tuple #[.bool false, .int .i64 0]) ∧ Sp Pi W w' p L 1 0) := fun L w2 p h => sp_cls HK.out h 2
  have HR : ∀ S : ByteArray, S.size ≤ 30 → Hid (∀ (w2 : World) (p : Nat), Sp Pi W w2 p S.data.toList 1 0 → Calls Tryd.prog 12 #[.pointer (some ⟨p, 0, none⟩), .int .i64 100] w2 fun e w' => e = .returned (.tuple #[.string S, .int .i64 0]) ∧ Sp Pi W w' p [] 1 0) := fun S hS w2 p h => by
    have hl := size_list S
    have := sp_read HK.out h 100 (by decide)
    obtain ⟨e1, e2, e3⟩ := rd_left (L := S.data.toList) (by omega)
    rw [e1, e2, e3, strP_data] at this
    exact this
  have HR2 : Hid (∀ (w2 : World) (p : Nat), Sp Pi W w2 p [] 1 0 → Calls Tryd.prog 12 #[.pointer (some ⟨p, 0, none⟩), .int .i64 100] w2 fun e w' => e = .returned (.tuple #[.string ⟨#[]⟩, .int .i64 0]) ∧ Sp Pi W w' p [] 1 0) := fun w2 p h => sp_read HK.out h 100 (by decide)
  have HC3 : Hid (∀ (w2 : World) (p : Nat), Sp Pi W w2 p [] 1 0 → Calls Tryd.prog 19 #[.pointer (some ⟨p, 0, none⟩), .int .i64 1] w2 fun e w' => e = .returned (.tuple #[.bool true, .int .i64 0]) ∧ Sp Pi W w' p [] 0 0) := fun w2 p h => sp_cls HK.out h 1
  by_cases h30 : (s.size : Int) ≤ 30
  · have k1 := key s (by omega)
    have k2 := HR s (by omega)
    clear key HR
    go_enter Tryd.func6, Tryd.ntmps6
    go_wp2_with (first
      | (go_at_call 10; refine HS.out.mono ?_; rintro e w1 ⟨rfl, hB⟩; have HB := Lib.hid hB; clear hB)
      | (go_at_call 11; refine (sp_new HN.out HB.out).mono ?_; rintro e w2 ⟨p, rfl, h2⟩; have H2 := Lib.hid h2; clear h2)
      | (go_at_call 14; refine (k1.out _ _ H2.out).mono ?_; rintro e w3 ⟨rfl, h3⟩; have H3 := Lib.hid h3; clear h3 H2)
      | (go_at_call 19; refine (HC1.out _ _ _ H3.out).mono ?_; rintro e w4 ⟨rfl, h4⟩; have H4 := Lib.hid h4; clear h4 H3 HC1)
      | (go_at_call 14; refine (HWB.out _ _ _ H4.out).mono ?_; rintro e w5 ⟨rfl, h5⟩; have H5 := Lib.hid h5; clear h5 H4)
      | (go_at_call 17; refine (HO1.out _ _ _ H5.out).mono ?_; rintro e w6 ⟨rfl, h6⟩; have H6 := Lib.hid h6; clear h6 H5)
      | (go_at_call 19; refine (HC2.out _ _ _ H6.out).mono ?_; rintro e w7 ⟨rfl, h7⟩; have H7 := Lib.hid h7; clear h7 H6 HC2)
      | (go_at_call 12; refine (k2.out _ _ H7.out).mono ?_; rintro e w8 ⟨rfl, h8⟩; have H8 := Lib.hid h8; clear h8 H7 k2)
      | (go_at_call 12; refine (HR2.out _ _ H8.out).mono ?_; rintro e w9 ⟨rfl, h9⟩; have H9 := Lib.hid h9; clear h9 H8)
      | (go_at_call 19; refine (HC3.out _ _ H9.out).mono ?_; rintro e w10 ⟨rfl, h10⟩; have H10 := Lib.hid h10; clear h10))
    go_ret
    exact ⟨rfl, H10.out.bel⟩
  · have hx := size_cut s (k := 30) (by omega)
    have k1 := key (s.extract 0 30) (by omega)
    have k2 := HR (s.extract 0 30) (by omega)
    clear key HR hx
    go_enter Tryd.func6, Tryd.ntmps6
    go_wp2_with (first
      | (go_at_call 10; refine HS.out.mono ?_; rintro e w1 ⟨rfl, hB⟩; have HB := Lib.hid hB; clear hB)
      | (go_at_call 11; refine (sp_new HN.out HB.out).mono ?_; rintro e w2 ⟨p, rfl, h2⟩; have H2 := Lib.hid h2; clear h2; generalize s.extract 0 30 = S at *)
      | (go_at_call 14; refine (k1.out _ _ H2.out).mono ?_; rintro e w3 ⟨rfl, h3⟩; have H3 := Lib.hid h3; clear h3 H2)
      | (go_at_call 19; refine (HC1.out _ _ _ H3.out).mono ?_; rintro e w4 ⟨rfl, h4⟩; have H4 := Lib.hid h4; clear h4 H3 HC1)
      | (go_at_call 14; refine (HWB.out _ _ _ H4.out).mono ?_; rintro e w5 ⟨rfl, h5⟩; have H5 := Lib.hid h5; clear h5 H4)
      | (go_at_call 17; refine (HO1.out _ _ _ H5.out).mono ?_; rintro e w6 ⟨rfl, h6⟩; have H6 := Lib.hid h6; clear h6 H5)
      | (go_at_call 19; refine (HC2.out _ _ _ H6.out).mono ?_; rintro e w7 ⟨rfl, h7⟩; have H7 := Lib.hid h7; clear h7 H6 HC2)
      | (go_at_call 12; refine (k2.out _ _ H7.out).mono ?_; rintro e w8 ⟨rfl, h8⟩; have H8 := Lib.hid h8; clear h8 H7 k2)
      | (go_at_call 12; refine (HR2.out _ _ H8.out).mono ?_; rintro e w9 ⟨rfl, h9⟩; have H9 := Lib.hid h9; clear h9 H8)
      | (go_at_call 19; refine (HC3.out _ _ H9.out).mono ?_; rintro e w10 ⟨rfl, h10⟩; have H10 := Lib.hid h10; clear h10))
    go_ret
    exact ⟨rfl, H10.out.bel⟩
end Go.Proofs.YtpfldelmbigmbaaDoor
