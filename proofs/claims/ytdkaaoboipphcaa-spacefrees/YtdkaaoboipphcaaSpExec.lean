/- Package space: pagesOf, split, begin (of a space with nothing attached), Exec's closure, walked. -/
import Derived.Test.YtdkaaoboipphcaaSpLoad
import Derived.Test.YtdkaaoboipphcaaSpWhole
namespace Go.Proofs.Ytdkaaoboipphcaa
open Go.RowKit Go.Shelf

theorem ext_list (s : ByteArray) (i j : Nat) : (s.extract i j).data.toList = (s.data.toList.drop i).take (j - i) := by
  rw [ByteArray.data_extract]; simp only [Array.toList_extract, List.extract_eq_take_drop]

set_option maxRecDepth 100000 in
set_option maxHeartbeats 1000000 in
theorem pagesOf_any (s : ByteArray) (hs : s.size ≤ 100000) (w : World) : Calls Try.prog 19 #[.string s] w fun e w' => e = .returned (.int .i64 ((s.size + 63) / 64 : Nat)) ∧ w' = w := by
  have h1 : (s.size : Int) ≤ 100000 := by omega
  go_enter Try.func19, Try.ntmps19
  go_wp2
  go_ret
  exact ⟨ret_int (by omega), rfl⟩

set_option maxRecDepth 100000 in
set_option maxHeartbeats 1000000 in
theorem begin_nil (p : Nat) (r t d h : Int) (w : World) : Calls Try.prog 18 #[.pointer (some ⟨p, 0, none⟩), .agg #[.int .i64 r, .int .i64 t, .int .i64 d, .int .i64 h, .slice none 0 0]] w fun e w' =>
    e = .returned (.pointer (some ⟨w.heap.size + 1, 0, none⟩)) ∧ WorkAt w' (w.heap.size + 1) p r t d h (.slice none 0 0) (.slice none 0 0) 0 [] ∧ Below w.heap.size w w' ∧ w'.heap.size = w.heap.size + 2 := by
  have hq : ∀ w, (binOp .eql 30 (.slice none 0 0) (.slice none 0 0)).run Try.prog w = .ok (.bool true) w := fun _ => by rfl
  go_enter Try.func18, Try.ntmps18
  go_wp2
  go_ret
  have hnew := heap_alloc_new (w.alloc (.cells #[.int .i64 r, .int .i64 t, .int .i64 d, .int .i64 h, .slice none 0 0] 32)) (.cells #[.pointer (some ⟨p, 0, none⟩), .int .i64 r, .int .i64 t, .int .i64 d, .int .i64 h, .slice none 0 0, .slice none 0 0] 77)
  rw [World.size_alloc] at hnew
  exact ⟨rfl, ⟨hnew, World.ownsRow_nil _ _ _ _⟩, ((Below.refl _ w).alloc (Nat.le_refl _) _).alloc (by simp) _, by simp⟩

set_option maxRecDepth 100000 in
set_option maxHeartbeats 1000000 in
theorem split_short (s : ByteArray) (hs : s.size < 3) (w : World) : Calls Try.prog 17 #[.string s] w fun e w' => e = .returned (.tuple #[.string ⟨#[]⟩, .string ⟨#[]⟩, .bool false]) ∧ w' = w := by
  have h1 : (s.size : Int) < 3 := by omega
  go_enter Try.func17, Try.ntmps17
  go_wp2
  go_ret3
  exact ⟨rfl, rfl⟩

set_option maxRecDepth 100000 in
set_option maxHeartbeats 1000000 in
theorem split_ok (s : ByteArray) (a b : Nat) (hs : s.size = 3 + a + b) (ha : a < 256) (hb : b < 256) (h0 : s.data.toList[0]? = some 88) (h1 : s.data.toList[1]? = some (UInt8.ofNat a)) (h2 : s.data.toList[2]? = some (UInt8.ofNat b)) (w : World) :
    Calls Try.prog 17 #[.string s] w fun e w' => (∃ x y : ByteArray, e = .returned (.tuple #[.string x, .string y, .bool true]) ∧ x.data.toList = (s.data.toList.drop 3).take a ∧ y.data.toList = s.data.toList.drop (3 + a)) ∧ Below w.heap.size w w' := by
  have hs1 : (3 : Int) ≤ (s.size : Int) := by omega
  have l0 : 0 < s.size := by omega
  have l1 : 1 < s.size := by omega
  have l2 : 2 < s.size := by omega
  have l1' : (1 : Int) < (s.size : Int) := by omega
  have l2' : (2 : Int) < (s.size : Int) := by omega
  have hg : ∀ (i : Nat) (hi : i < s.size) (v : UInt8), s.data.toList[i]? = some v → s[i] = v := fun i hi v e => by
    have : i < s.data.toList.length := by rw [Array.length_toList]; exact hi
    rw [List.getElem?_eq_getElem this] at e
    exact Option.some.inj e
  have b0 : (((s[0].toNat : Nat) : Int) != 88) = false := by rw [hg 0 l0 _ h0]; rfl
  have e1 : s[1].toNat = a := by rw [hg 1 l1 _ h1]; simp; omega
  have e2 : s[2].toNat = b := by rw [hg 2 l2 _ h2]; simp; omega
  have hd : decide ((s.size : Int) < 3) = false := by simp; omega
  have HS := Lib.hid hs; have HA := Lib.hid ha; have HB := Lib.hid hb; have HE1 := Lib.hid e1; have HE2 := Lib.hid e2
  clear hs ha hb h0 h1 h2 hg e1 e2
  go_enter Try.func17, Try.ntmps17
  go_wp2
  go_quiet (fail)
  go_wp2_with fail
  · exfalso
    have hbad := ‹((((s.size - 3 : Nat) : Int)) != wrap64 (wrap64 ((s[1].toNat : Nat) : Int) + wrap64 ((s[2].toNat : Nat) : Int))) = true›
    rw [wrap64_byte, wrap64_byte, HE1.out, HE2.out] at hbad
    have hE : wrap64 ((a : Int) + (b : Int)) = (a : Int) + (b : Int) := by have := HA.out; have := HB.out; unfold wrap64; omega
    rw [hE] at hbad
    have hs3 := HS.out
    simp at hbad
    omega
  · have hw1 : Hid (wrap64 ((s[1].toNat : Nat) : Int) = (a : Int)) := by unfold Hid; rw [wrap64_byte, HE1.out]
    have ha0 : (0 : Int) ≤ (a : Int) := by omega
    have ha1 : (a : Int) ≤ ((s.size - 3 : Nat) : Int) := by have := HS.out; omega
    rw [hw1.out]
    go_quiet (fail)
    go_wp2
    go_ret3
    have hl : s.data.toList.length = s.size := toList_length s
    have hx : (s.extract 3 s.size).data.toList = s.data.toList.drop 3 := by rw [ext_list]; exact List.take_of_length_le (by rw [List.length_drop, hl]; exact Nat.le_refl _)
    refine ⟨⟨_, _, rfl, ?_, ?_⟩, below_drewN (below_drewN (Below.refl _ _))⟩
    · rw [ext_list, hx]; rfl
    · rw [ext_list, hx, List.drop_drop]
      exact List.take_of_length_le (by rw [List.length_drop, hl]; omega)

section
variable {w : World} {pw p g n : Nat} {R : Nat → Int} {B : Nat → List UInt8} {r h : Int} {vA vU : Value} {k : Nat} {us : List Value}

set_option maxRecDepth 100000 in
set_option maxHeartbeats 1000000 in
theorem exec1_ok (hm : MemAt w p g n R B) (t d : Nat) (hw : WorkAt w pw p r t d h vA vU k us) (hgp : g < pw) (hpp : p < pw) (hk : k ≤ 1000) (tx dx : ByteArray) (hs1 : tx.size ≤ 1000) (hs2 : dx.size ≤ 1000) (ha : allocE n R = 0)
    (hok : (rootS n R B).ok n (allocN n R)) (hu : usedN n (rootS n R B).R + 2 * (t + d + 2) ≤ n) (ht : t + d ≤ 254) (bw bt bd : Nat) (c1 : w.cell? ⟨bw, 0, none⟩ = some (.pointer (some ⟨pw, 0, none⟩))) (c2 : w.cell? ⟨bt, 0, none⟩ = some (.string tx)) (c3 : w.cell? ⟨bd, 0, none⟩ = some (.string dx)) :
    Calls Try.prog 21 #[.pointer (some ⟨bw, 0, none⟩), .pointer (some ⟨bt, 0, none⟩), .pointer (some ⟨bd, 0, none⟩)] w fun e w' => e = .returned (.int .i64 0) ∧
      (loadS n (allocN n R) (rootS n R B) t d tx.data.toList dx.data.toList).at w' p g n ∧ (∃ vU' k' us', WorkAt w' pw p (allocN n R : Nat) t d h vA vU' k' us') ∧ Wk g pw w w' := by
  have HL := Lib.hid (load_ok hm t d hw hgp hpp hk tx dx hs1 hs2 ha hok hu ht)
  clear hm hw ha hok hu
  go_enter Try.func21, Try.ntmps21
  go_wp2_with fail
  refine HL.out.mono ?_
  rintro e w2 ⟨rfl, hR⟩
  have HR := Lib.hid hR; clear hR
  go_wp2
  go_ret
  exact ⟨rfl, HR.out⟩

end
end Go.Proofs.Ytdkaaoboipphcaa
