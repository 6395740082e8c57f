/- PipeFull, under Works10: a pipe takes thirty-two bytes, and no more. -/
import Derived.Test.YtpfldelmbigmbaaDoorPiText
namespace Go.Proofs.YtpfldelmbigmbaaDoor
open Go.RowKit

theorem wr_room {L S : List UInt8} (h : L.length < 32) : wrE L 1 S = 0 ∧ wrN L 1 S = min S.length (32 - L.length) ∧ (wrL L 1 S).length = L.length + min S.length (32 - L.length) := by
  have e : wrE L 1 S = 0 := by unfold wrE; rw [if_neg (by decide), if_neg (fun c => by have := c.2; omega)]
  have e2 : wrN L 1 S = min S.length (32 - L.length) := by unfold wrN; rw [if_pos e]
  refine ⟨e, e2, ?_⟩
  unfold wrL
  rw [e2, List.length_append, List.length_take]; omega
theorem wr_full {L S : List UInt8} (h : 32 ≤ L.length) (hS : S ≠ []) : wrE L 1 S = 63 ∧ wrN L 1 S = 0 ∧ wrL L 1 S = L := by
  have e : wrE L 1 S = 63 := by unfold wrE; rw [if_neg (by decide), if_pos ⟨hS, h⟩]
  have := wrL_no (L := L) (r := 1) (S := S) (by rw [e]; decide)
  exact ⟨e, this.1, this.2⟩

set_option maxRecDepth 100000 in
set_option maxHeartbeats 8000000 in
theorem full_of {g : Nat} {Pi : World → (Nat → Prop) → Nat → List UInt8 → Nat → Nat → Prop} (K : Works10 g Pi) (W : World) (N : NewP g Pi W) (s t : ByteArray) (hs : s.size ≤ maxLen) (ht : t.size ≤ maxLen) :
    Calls Tryd.prog 8 #[.string s, .string t] W fun e W' => e = .returned (.bool true) ∧ Below W.heap.size W W' := by
  have HS := Lib.hid (shown10 K W N)
  have HK := Lib.hid K
  have HN := Lib.hid N
  have TS := fun w => text10 s hs w
  have TT := fun w => text10 t ht w
  have h1 := textS10_size s
  have h2 := textS10_size t
  obtain ⟨T, hT⟩ : ∃ T, textS10 s = T := ⟨_, rfl⟩
  obtain ⟨U, hU⟩ : ∃ U, textS10 t = U := ⟨_, rfl⟩
  rw [hT] at h1 TS; rw [hU] at h2 TT
  obtain ⟨X, hX⟩ : ∃ X : ByteArray, (⟨(U.data.toList ++ [120]).toArray⟩ : ByteArray) = X := ⟨_, rfl⟩
  have hXl : X.data.toList = U.data.toList ++ [120] := by rw [← hX]
  have hXn : X.data.toList ≠ [] := by rw [hXl]; simp
  have hXs : X.data.toList.length = U.size + 1 := by rw [hXl, List.length_append, size_list]; rfl
  have hXz : X.size = U.size + 1 := by rw [← hXs, size_list]
  have hadd := join_known (X := U) (Y := ⟨#[120]⟩) (Z := X) (by rw [hXl]) (by omega)
  have HTS := Lib.hid TS; have HTT := Lib.hid TT
  have hTl := size_list T
  unfold maxLen at ht hs
  clear K N TS TT hT hU hX hXl
  obtain ⟨x, hx⟩ : ∃ x, T.size = x := ⟨_, rfl⟩
  obtain ⟨u, hu⟩ : ∃ u, U.size = u := ⟨_, rfl⟩
  obtain ⟨y, hy⟩ : ∃ y, t.size = y := ⟨_, rfl⟩
  rw [hx] at h1 hTl; rw [hu] at h2 hXs hXz; rw [hy] at h2 ht
  have KE : Hid (∀ (w2 : World) (p : Nat), Sp Pi W w2 p [] 1 1 → Calls Tryd.prog 14 #[.pointer (some ⟨p, 0, none⟩), .string T] w2 fun e w' => e = .returned (.tuple #[.int .i64 (min x 32 : Nat), .int .i64 0]) ∧ ∃ L, L.length = min x 32 ∧ Sp Pi W w' p L 1 1) := fun w2 p h => by
    refine (sp_write HK.out h T (.inl (by omega))).mono ?_
    rintro e w' ⟨rfl, h⟩
    obtain ⟨e1, e2, e3⟩ := wr_room (L := []) (S := T.data.toList) (by decide)
    rw [e1, e2, hTl]
    exact ⟨rfl, _, by rw [e3, hTl]; simp, h⟩
  have KX : Hid (∀ (w2 : World) (p : Nat) (L : List UInt8) (k : Nat), L.length = k → k < 32 → Sp Pi W w2 p L 1 1 → Calls Tryd.prog 14 #[.pointer (some ⟨p, 0, none⟩), .string X] w2 fun e w' => e = .returned (.tuple #[.int .i64 (min (u + 1) (32 - k) : Nat), .int .i64 0]) ∧ ∃ L, L.length = k + min (u + 1) (32 - k) ∧ Sp Pi W w' p L 1 1) := fun w2 p L k hk h32 h => by
    subst hk
    refine (sp_write HK.out h X (.inl (by omega))).mono ?_
    rintro e w' ⟨rfl, h⟩
    obtain ⟨e1, e2, e3⟩ := wr_room (L := L) (S := X.data.toList) h32
    rw [e1, e2, hXs]
    exact ⟨rfl, _, by rw [e3, hXs], h⟩
  have KF : Hid (∀ (w2 : World) (p : Nat) (L : List UInt8), L.length = 32 → Sp Pi W w2 p L 1 1 → Calls Tryd.prog 14 #[.pointer (some ⟨p, 0, none⟩), .string X] w2 fun e w' => e = .returned (.tuple #[.int .i64 0, .int .i64 63]) ∧ ∃ L, L.length = 32 ∧ Sp Pi W w' p L 1 1) := fun w2 p L hL h => by
    refine (sp_write HK.out h X (.inl (by omega))).mono ?_
    rintro e w' ⟨rfl, h⟩
    obtain ⟨e1, e2, e3⟩ := wr_full (L := L) (S := X.data.toList) (by omega) hXn
    rw [e1, e2]
    exact ⟨rfl, _, by rw [e3, hL], h⟩
  have KL : Hid (∀ (w2 : World) (p : Nat) (L : List UInt8), Sp Pi W w2 p L 1 1 → Calls Tryd.prog 22 #[.pointer (some ⟨p, 0, none⟩)] w2 fun e w' => e = .returned (.int .i64 (L.length : Nat)) ∧ Sp Pi W w' p L 1 1) := fun w2 p L h => sp_len HK.out h
  have HX := Lib.hid hx; have HU := Lib.hid hu; have HY := Lib.hid hy
  clear hTl hXn hXs hXz
  have hy := HY.out
  have h50 : x ≤ 50 := by omega
  have hcs : (y < 50 ∧ u = y) ∨ (¬ y < 50 ∧ u = 50) := by omega
  clear h1 h2
  by_cases c1 : x < 32
  · have m1 : (x : Int) < 32 := by omega
    have m2 : (32 - (x : Int) == 0) = false := by rw [beq_eq_false_iff_ne]; omega
    rw [show min x 32 = x by omega] at KE
    have key : ∀ mi : Int, mi = ((min (u + 1) (32 - x) : Nat) : Int) → Hid (∀ (w2 : World) (p : Nat) (L : List UInt8), L.length = x → Sp Pi W w2 p L 1 1 → Calls Tryd.prog 14 #[.pointer (some ⟨p, 0, none⟩), .string X] w2 fun e w' => e = .returned (.tuple #[.int .i64 mi, .int .i64 0]) ∧ ∃ L, ((L.length : Nat) : Int) = (x : Int) + mi ∧ Sp Pi W w' p L 1 1) := fun mi hmi w2 p L hL h => by
      refine (KX.out w2 p L x hL c1 h).mono ?_
      rintro e w' ⟨rfl, L', hl, h⟩
      rw [hmi]
      exact ⟨rfl, L', by omega, h⟩
    clear KX KF
    rcases hcs with ⟨c2, rfl⟩ | ⟨c2, rfl⟩
    · have m3 : (u : Int) < 50 := by omega
      by_cases c3 : (u : Int) + 1 < 32 - (x : Int)
      · have kx := key ((u : Int) + 1) (by omega)
        clear key
        go_enter Tryd.func8, Tryd.ntmps8
        go_wp2_with (first
          | (go_at_call 10; refine HS.out.mono ?_; rintro e w1 ⟨rfl, hB⟩; have HB := Lib.hid hB; clear hB)
          | (go_at_call 11; refine (sp_new HN.out HB.out).mono ?_; rintro e w2 ⟨p, rfl, h2⟩; have H2 := Lib.hid h2; clear h2)
          | (go_at_call 15; refine (HTS.out _).mono ?_; rintro e wt ⟨rfl, rfl⟩; have hx := HX.out)
          | (go_at_call 15; refine (HTT.out _).mono ?_; rintro e wt ⟨rfl, rfl⟩)
          | (go_at_call 14; refine (KE.out _ _ H2.out).mono ?_; rintro e w3 ⟨rfl, L3, e3, h3⟩; have H3 := Lib.hid h3; have E3 := Lib.hid e3; clear h3 H2 e3)
          | (go_at_call 14; refine (kx.out _ _ _ E3.out H3.out).mono ?_; rintro e w4 ⟨rfl, L4, e4, h4⟩; have H4 := Lib.hid h4; have E4 := Lib.hid e4; clear h4 H3 E3 e4)
          | (go_at_call 22; refine (KL.out _ _ _ H4.out).mono ?_; rintro e w5 ⟨rfl, h5⟩; rw [E4.out]; have H5 := Lib.hid h5; clear h5))
        go_ret
        exact ⟨rfl, H5.out.bel⟩
      · have kx := key (32 - (x : Int)) (by omega)
        clear key
        go_enter Tryd.func8, Tryd.ntmps8
        go_wp2_with (first
          | (go_at_call 10; refine HS.out.mono ?_; rintro e w1 ⟨rfl, hB⟩; have HB := Lib.hid hB; clear hB)
          | (go_at_call 11; refine (sp_new HN.out HB.out).mono ?_; rintro e w2 ⟨p, rfl, h2⟩; have H2 := Lib.hid h2; clear h2)
          | (go_at_call 15; refine (HTS.out _).mono ?_; rintro e wt ⟨rfl, rfl⟩; have hx := HX.out)
          | (go_at_call 15; refine (HTT.out _).mono ?_; rintro e wt ⟨rfl, rfl⟩)
          | (go_at_call 14; refine (KE.out _ _ H2.out).mono ?_; rintro e w3 ⟨rfl, L3, e3, h3⟩; have H3 := Lib.hid h3; have E3 := Lib.hid e3; clear h3 H2 e3)
          | (go_at_call 14; refine (kx.out _ _ _ E3.out H3.out).mono ?_; rintro e w4 ⟨rfl, L4, e4, h4⟩; have H4 := Lib.hid h4; have E4 := Lib.hid e4; clear h4 H3 E3 e4)
          | (go_at_call 22; refine (KL.out _ _ _ H4.out).mono ?_; rintro e w5 ⟨rfl, h5⟩; rw [E4.out]; have H5 := Lib.hid h5; clear h5))
        go_ret
        exact ⟨rfl, H5.out.bel⟩
    · have m3 : ¬ ((y : Int) < 50) := by omega
      have m4 : ¬ ((51 : Int) < 32 - (x : Int)) := by omega
      have kx := key (32 - (x : Int)) (by omega)
      clear key
      go_enter Tryd.func8, Tryd.ntmps8
      go_wp2_with (first
        | (go_at_call 10; refine HS.out.mono ?_; rintro e w1 ⟨rfl, hB⟩; have HB := Lib.hid hB; clear hB)
        | (go_at_call 11; refine (sp_new HN.out HB.out).mono ?_; rintro e w2 ⟨p, rfl, h2⟩; have H2 := Lib.hid h2; clear h2)
        | (go_at_call 15; refine (HTS.out _).mono ?_; rintro e wt ⟨rfl, rfl⟩; have hx := HX.out)
        | (go_at_call 15; refine (HTT.out _).mono ?_; rintro e wt ⟨rfl, rfl⟩)
        | (go_at_call 14; refine (KE.out _ _ H2.out).mono ?_; rintro e w3 ⟨rfl, L3, e3, h3⟩; have H3 := Lib.hid h3; have E3 := Lib.hid e3; clear h3 H2 e3)
        | (go_at_call 14; refine (kx.out _ _ _ E3.out H3.out).mono ?_; rintro e w4 ⟨rfl, L4, e4, h4⟩; have H4 := Lib.hid h4; have E4 := Lib.hid e4; clear h4 H3 E3 e4)
        | (go_at_call 22; refine (KL.out _ _ _ H4.out).mono ?_; rintro e w5 ⟨rfl, h5⟩; rw [E4.out]; have H5 := Lib.hid h5; clear h5))
      go_ret
      exact ⟨rfl, H5.out.bel⟩
  · have m1 : ¬ ((x : Int) < 32) := by omega
    rw [show min x 32 = 32 by omega] at KE
    have kx : Hid (∀ (w2 : World) (p : Nat) (L : List UInt8), L.length = 32 → Sp Pi W w2 p L 1 1 → Calls Tryd.prog 14 #[.pointer (some ⟨p, 0, none⟩), .string X] w2 fun e w' => e = .returned (.tuple #[.int .i64 0, .int .i64 63]) ∧ ∃ L, ((L.length : Nat) : Int) = 32 ∧ Sp Pi W w' p L 1 1) := fun w2 p L hL h => by
      refine (KF.out w2 p L hL h).mono ?_
      rintro e w' ⟨rfl, L', hl, h⟩
      exact ⟨rfl, L', by omega, h⟩
    clear KX KF
    rcases hcs with ⟨c2, rfl⟩ | ⟨c2, rfl⟩
    · have m3 : (u : Int) < 50 := by omega
      have m4 : ¬ ((u : Int) + 1 < 0) := by omega
      go_enter Tryd.func8, Tryd.ntmps8
      go_wp2_with (first
        | (go_at_call 10; refine HS.out.mono ?_; rintro e w1 ⟨rfl, hB⟩; have HB := Lib.hid hB; clear hB)
        | (go_at_call 11; refine (sp_new HN.out HB.out).mono ?_; rintro e w2 ⟨p, rfl, h2⟩; have H2 := Lib.hid h2; clear h2)
        | (go_at_call 15; refine (HTS.out _).mono ?_; rintro e wt ⟨rfl, rfl⟩; have hx := HX.out)
        | (go_at_call 15; refine (HTT.out _).mono ?_; rintro e wt ⟨rfl, rfl⟩)
        | (go_at_call 14; refine (KE.out _ _ H2.out).mono ?_; rintro e w3 ⟨rfl, L3, e3, h3⟩; have H3 := Lib.hid h3; have E3 := Lib.hid e3; clear h3 H2 e3)
        | (go_at_call 14; refine (kx.out _ _ _ E3.out H3.out).mono ?_; rintro e w4 ⟨rfl, L4, e4, h4⟩; have H4 := Lib.hid h4; have E4 := Lib.hid e4; clear h4 H3 E3 e4)
        | (go_at_call 22; refine (KL.out _ _ _ H4.out).mono ?_; rintro e w5 ⟨rfl, h5⟩; rw [E4.out]; have H5 := Lib.hid h5; clear h5))
      go_ret
      exact ⟨rfl, H5.out.bel⟩
    · have m3 : ¬ ((y : Int) < 50) := by omega
      go_enter Tryd.func8, Tryd.ntmps8
      go_wp2_with (first
        | (go_at_call 10; refine HS.out.mono ?_; rintro e w1 ⟨rfl, hB⟩; have HB := Lib.hid hB; clear hB)
        | (go_at_call 11; refine (sp_new HN.out HB.out).mono ?_; rintro e w2 ⟨p, rfl, h2⟩; have H2 := Lib.hid h2; clear h2)
        | (go_at_call 15; refine (HTS.out _).mono ?_; rintro e wt ⟨rfl, rfl⟩; have hx := HX.out)
        | (go_at_call 15; refine (HTT.out _).mono ?_; rintro e wt ⟨rfl, rfl⟩)
        | (go_at_call 14; refine (KE.out _ _ H2.out).mono ?_; rintro e w3 ⟨rfl, L3, e3, h3⟩; have H3 := Lib.hid h3; have E3 := Lib.hid e3; clear h3 H2 e3)
        | (go_at_call 14; refine (kx.out _ _ _ E3.out H3.out).mono ?_; rintro e w4 ⟨rfl, L4, e4, h4⟩; have H4 := Lib.hid h4; have E4 := Lib.hid e4; clear h4 H3 E3 e4)
        | (go_at_call 22; refine (KL.out _ _ _ H4.out).mono ?_; rintro e w5 ⟨rfl, h5⟩; rw [E4.out]; have H5 := Lib.hid h5; clear h5))
      go_ret
      exact ⟨rfl, H5.out.bel⟩
end Go.Proofs.YtpfldelmbigmbaaDoor
