/- PipeStreams, under Works10: what is read is what was written, in that order. -/
import Derived.Test.YtpfldelmbigmbaaDoorPipeFullOf
import Derived.Test.YtpfldelmbigmbaaDoorPiActs
namespace Go.Proofs.YtpfldelmbigmbaaDoor
open Go.RowKit

theorem mod6 (d : Int) : ∃ y : Nat, y < 6 ∧ (IntKind.u64.wrap d).tmod 6 = (y : Int) := by
  have h0 := wrap_u64_nonneg d
  generalize IntKind.u64.wrap d = y at *
  have h1 : 0 ≤ y.tmod 6 := Int.tmod_nonneg _ h0
  have h2 : y.tmod 6 < 6 := Int.tmod_lt_of_pos _ (by omega)
  exact ⟨(y.tmod 6).toNat, by omega, by omega⟩

set_option maxRecDepth 100000 in
set_option maxHeartbeats 8000000 in
theorem streams_of {g : Nat} {Pi : World → (Nat → Prop) → Nat → List UInt8 → Nat → Nat → Prop} (K : Works10 g Pi) (w : World) (N : NewP g Pi w) (a : Option Addr) (len cap : Nat) (hA : ActsAt w a len) :
    Calls Tryd.prog 4 #[.slice a len cap] w fun e w' => e = .returned (.bool true) ∧ Below w.heap.size w w' := by
  have HA := Lib.hid hA.2
  have hlen := hA.1
  have HS := Lib.hid (shown10 K w N)
  have HK := Lib.hid K
  have HN := Lib.hid N
  unfold maxLen at hlen
  clear hA K N
  go_enter Tryd.func4, Tryd.ntmps4
  go_wp2_with (first
    | (go_at_call 10; refine HS.out.mono ?_; rintro e w1 ⟨rfl, hB⟩; have HB := Lib.hid hB; clear hB)
    | (go_at_call 11; refine (sp_new HN.out HB.out).mono ?_; rintro e w2 ⟨p, rfl, h2⟩; have H2 := Lib.hid h2; clear h2))
  go_loopw [7, 5, 6] (fun i u o wr => ∃ j : Nat, j ≤ len ∧ j ≤ 150 ∧ i = .int .i64 (j : Int) ∧ ∃ (I O : ByteArray) (L : List UInt8), u = .string I ∧ o = .string O ∧ (O.data.toList ++ L = I.data.toList ∧ I.size ≤ 50 * j) ∧ Sp Pi w wr p L 1 1) (fun i _ _ _ => 150 - (intOf i).toNat)
  case atStart => exact ⟨0, Nat.zero_le _, by omega, rfl, ⟨#[]⟩, ⟨#[]⟩, [], rfl, rfl, ⟨rfl, Nat.le_refl _⟩, H2.out⟩
  case round =>
    obtain ⟨j, hj, hj2, rfl, I, O, L, rfl, rfl, hOL, hR⟩ := hrel
    have HOL := Lib.hid hOL; have HR := Lib.hid hR
    have hLK := (hR.ok HK.out).len
    have hsum := congrArg List.length hOL.1
    rw [List.length_append, size_list, size_list] at hsum
    have hI := hOL.2
    clear hR hOL
    by_cases hlt : j < len ∧ j < 150
    · obtain ⟨l1, l2⟩ := hlt
      have l3 : (j : Int) < (len : Int) := by omega
      have l4 : (j : Int) < 150 := by omega
      obtain ⟨b, off, rfl, hb, hcs⟩ := HA.out (by omega)
      obtain ⟨d, k, n, s, hA⟩ := hcs j l1
      have HA1 := Lib.hid hA
      have hA0 := hA.below HR.out.bel hb
      have c0 := hA0.c0
      obtain ⟨y, hy, hd⟩ := mod6 d
      clear hcs hA
      by_cases h2 : y < 2
      · have hd2 : (IntKind.u64.wrap d).tmod 6 < 2 := by omega
        have c2 := hA0.c2
        obtain ⟨L2, hL2⟩ : ∃ L2, rdL L 1 n = L2 := ⟨_, rfl⟩
        obtain ⟨X, hX⟩ : ∃ X : ByteArray, (⟨(rdS L 1 n).toArray⟩ : ByteArray) = X := ⟨_, rfl⟩
        obtain ⟨g, hg⟩ : ∃ g, rdE L 1 n = g := ⟨_, rfl⟩
        have hXl : X.data.toList = rdS L 1 n := by rw [← hX]
        have hXL : X.data.toList ++ L2 = L := by rw [hXl, ← hL2]; exact rd_all L 1 n
        obtain ⟨Z, hZ⟩ : ∃ Z : ByteArray, (⟨(O.data.toList ++ X.data.toList).toArray⟩ : ByteArray) = Z := ⟨_, rfl⟩
        have hadd := join_known (X := O) (Y := X) (Z := Z) (by rw [← hZ]) (by
          rw [← hZ, mk_size, List.length_append, size_list]
          have := congrArg List.length hXL
          rw [List.length_append] at this
          omega)
        have PG := sp_read HK.out HR.out n HA1.out.hn
        unfold strP at PG
        rw [hL2, hX, hg] at PG
        have HPG := Lib.hid PG; have HZ := Lib.hid hZ; have HXL := Lib.hid hXL
        clear hX hL2 hg PG hA0 hXl hXL hZ hd hy h2 hsum
        go_wp2_with (go_at_call 12; refine HPG.out.mono ?_; rintro e w2 ⟨rfl, hp⟩; have P2 := Lib.hid hp; clear hp)
        go_roundw
        case rel => exact ⟨j + 1, by omega, by omega, by go_num, I, Z, L2, rfl, rfl, ⟨by
            rw [← HZ.out]
            show O.data.toList ++ X.data.toList ++ L2 = _
            rw [List.append_assoc, HXL.out, HOL.out.1], by have := HOL.out.2; omega⟩, P2.out⟩
        case measure => simp [intOf]; omega
      · have hd2 : ¬ ((IntKind.u64.wrap d).tmod 6 < 2) := by omega
        have c3 := hA0.c3
        have TX := fun w => text10 s HA1.out.hs w
        have hT : (textS10 s).size ≤ 50 := by rw [textS10_size]; omega
        generalize textS10 s = T at *
        have hTl := size_list T
        obtain ⟨m, hm⟩ : ∃ m, wrN L 1 T.data.toList = m := ⟨_, rfl⟩
        have hmT : m ≤ T.size := by rw [← hm, ← hTl]; exact wrN_le L 1 _
        obtain ⟨g, hg⟩ : ∃ g, wrE L 1 T.data.toList = g := ⟨_, rfl⟩
        have PW := sp_write HK.out HR.out T (.inl (by omega))
        rw [hg, show wrL L 1 T.data.toList = L ++ T.data.toList.take m by unfold wrL; rw [hm], hm] at PW
        obtain ⟨J, hJ⟩ : ∃ J : ByteArray, (⟨(I.data.toList ++ T.data.toList.take m).toArray⟩ : ByteArray) = J := ⟨_, rfl⟩
        have hJs : J.size ≤ I.size + 50 := by rw [← hJ, mk_size, List.length_append, List.length_take, size_list]; omega
        have hadd := join_known (X := I) (Y := T.extract 0 m) (Z := J) (by rw [cut_list, ← hJ]) (by omega)
        have HPW := Lib.hid PW; have HJ := Lib.hid hJ; have HJs := Lib.hid hJs; have HTX := Lib.hid TX
        obtain ⟨t, ht⟩ : ∃ t, T.size = t := ⟨_, rfl⟩
        have HTT := Lib.hid ht
        have m1 : ¬ ((t : Int) < (m : Int)) := by omega
        have m2 : (m : Int) ≤ (t : Int) := by omega
        have hmt : m ≤ 50 := by omega
        clear hJ hJs PW hg hm hA0 hTl hT hmT TX hd hy h2 hsum
        go_wp2_with (first
          | (go_at_call 15; refine (HTX.out _).mono ?_; rintro e wt ⟨rfl, rfl⟩)
          | (go_at_call 14; refine HPW.out.mono ?_; rintro e w2 ⟨rfl, hp⟩; have d3 := (HA1.out.below hp.bel hb).c3; have P2 := Lib.hid hp; clear hp))
        go_roundw
        case rel => exact ⟨j + 1, by omega, by omega, by go_num, J, O, L ++ T.data.toList.take m, rfl, rfl, ⟨by
            rw [← HJ.out]
            show _ = I.data.toList ++ T.data.toList.take m
            rw [← List.append_assoc, HOL.out.1], by
            have h1 := HJs.out
            have h2 := HOL.out.2
            omega⟩, P2.out⟩
        case measure => simp [intOf]; omega
    · obtain ⟨X, hX⟩ : ∃ X : ByteArray, (⟨L.toArray⟩ : ByteArray) = X := ⟨_, rfl⟩
      have hadd := join_known (X := O) (Y := X) (Z := I) (by
        rw [← hX]
        show O.data.toList ++ L = _
        exact HOL.out.1) (by omega)
      have KC : Hid (Calls Tryd.prog 19 #[.pointer (some ⟨p, 0, none⟩), .int .i64 2] wr fun e w' => e = .returned (.tuple #[.bool false, .int .i64 0]) ∧ Sp Pi w w' p L 1 0) := sp_cls HK.out HR.out 2
      have KR : Hid (∀ w3, Sp Pi w w3 p L 1 0 → Calls Tryd.prog 12 #[.pointer (some ⟨p, 0, none⟩), .int .i64 100] w3 fun e w' => e = .returned (.tuple #[.string X, .int .i64 0]) ∧ Sp Pi w w' p [] 1 0) := fun w3 h => by
        have := sp_read HK.out h 100 (by decide)
        obtain ⟨e1, e2, e3⟩ := rd_left (L := L) (by omega)
        unfold strP at this
        rw [e1, e2, e3, hX] at this
        exact this
      have KS : Hid (∀ w3, Sp Pi w w3 p [] 1 0 → Calls Tryd.prog 12 #[.pointer (some ⟨p, 0, none⟩), .int .i64 100] w3 fun e w' => e = .returned (.tuple #[.string ⟨#[]⟩, .int .i64 0]) ∧ Sp Pi w w' p [] 1 0) := fun w3 h => sp_read HK.out h 100 (by decide)
      have hor : ¬ ((j : Int) < (len : Int)) ∨ ((j : Int) < (len : Int) ∧ ¬ ((j : Int) < 150)) := by omega
      clear hlt hX hsum hI hLK
      rcases hor with e1 | ⟨e1, e2⟩
      all_goals
        go_wp2_with (first
          | (go_at_call 19; refine KC.out.mono ?_; rintro e w4 ⟨rfl, h4⟩; have H4 := Lib.hid h4; clear h4)
          | (go_at_call 12; refine (KR.out _ H4.out).mono ?_; rintro e w5 ⟨rfl, h5⟩; have H5 := Lib.hid h5; clear h5 H4)
          | (go_at_call 12; refine (KS.out _ H5.out).mono ?_; rintro e w6 ⟨rfl, h6⟩; have H6 := Lib.hid h6; clear h6))
        go_ret
        exact ⟨rfl, H6.out.bel⟩
end Go.Proofs.YtpfldelmbigmbaaDoor
