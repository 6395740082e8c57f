/- Layer 4's laws: Image, given, walked. -/
import Derived.Test.YtdkaaoboipphcaaSpExecs
import Derived.Test.YtdkaaoboipphcaaSpCheck
namespace Go.Proofs.Ytdkaaoboipphcaa
open Go.RowKit Go.Shelf

/-- an image's bytes. -/
def imgL (t d : List UInt8) : List UInt8 := [88, UInt8.ofNat t.length, UInt8.ofNat d.length] ++ t ++ d
def imgB (t d : List UInt8) : ByteArray := ⟨(imgL t d).toArray⟩

set_option maxRecDepth 100000 in
set_option maxHeartbeats 2000000 in
theorem image_small (t d : ByteArray) (ht : t.size ≤ 200) (hd : d.size ≤ 200) (w : World) : Calls Try.prog 8 #[.string t, .string d] w fun e w' => e = .returned (.string (imgB t.data.toList d.data.toList)) ∧ Below w.heap.size w w' := by
  have h1 : (t.size : Int) ≤ 200 := by omega
  have h2 : (d.size : Int) ≤ 200 := by omega
  have e1 : (UInt8.ofNat t.size).toNat = t.size := by simp; omega
  have e2 : (UInt8.ofNat d.size).toNat = d.size := by simp; omega
  have hl1 : t.data.toList.length = t.size := toList_length t
  have hl2 : d.data.toList.length = d.size := toList_length d
  have hcv := conv_range (w.alloc (.cells #[.int .u8 88, .int .u8 (t.size : Int), .int .u8 (d.size : Int)] 5)) w.heap.size 0 3 3 [88, UInt8.ofNat t.size, UInt8.ofNat d.size] rfl (fun j v hv => by
    have hn := heap_alloc_new w (.cells #[.int .u8 88, .int .u8 (t.size : Int), .int .u8 (d.size : Int)] 5)
    rcases (by have := (List.getElem?_eq_some_iff.1 hv).1; simp at this; omega : j = 0 ∨ j = 1 ∨ j = 2) with rfl | rfl | rfl
    · rw [← hv]; exact cell_of_heap hn rfl
    · rw [← hv]
      refine (cell_of_heap (i := 1) hn rfl).trans ?_
      show some (Value.int .u8 (t.size : Int)) = some (bv (UInt8.ofNat t.size))
      unfold bv; rw [e1]
    · rw [← hv]
      refine (cell_of_heap (i := 2) hn rfl).trans ?_
      show some (Value.int .u8 (d.size : Int)) = some (bv (UInt8.ofNat d.size))
      unfold bv; rw [e2])
  have z3 : (⟨[88, UInt8.ofNat t.size, UInt8.ofNat d.size].toArray⟩ : ByteArray).size = 3 := rfl
  have HIM : Hid ((⟨[88, UInt8.ofNat t.size, UInt8.ofNat d.size].toArray⟩ : ByteArray) ++ t ++ d = imgB t.data.toList d.data.toList) := by
    refine bytes_ext ?_
    unfold imgB imgL
    rw [hl1, hl2]
    simp [ByteArray.data_append]
  generalize (⟨[88, UInt8.ofNat t.size, UInt8.ofNat d.size].toArray⟩ : ByteArray) = X at *
  have ha1 : ∀ W, (Op.stringOp .add X t).run Try.prog W = .ok (.string (X ++ t)) W := fun W => run_string_add_sum W _ _ (by rw [z3]; omega)
  have z4 : (X ++ t).size = 3 + t.size := by rw [ByteArray.size_append, z3]
  have ha2 : ∀ W, (Op.stringOp .add (X ++ t) d).run Try.prog W = .ok (.string (X ++ t ++ d)) W := fun W => run_string_add_sum W _ _ (by rw [z4]; omega)
  clear e1 e2 hl1 hl2 z3 z4
  go_enter Try.func8, Try.ntmps8
  go_wp2
  go_ret
  exact ⟨by rw [← HIM.out]; rfl, (Below.refl _ w).alloc (Nat.le_refl _) _⟩

set_option maxRecDepth 100000 in
set_option maxHeartbeats 2000000 in
theorem given_any (k : Nat) (hk : k < 4) (w : World) : Calls Try.prog 10 #[.int .i64 k] w fun e w' => e = .returned (.slice (some ⟨w.heap.size, 0, none⟩) (1 + k) 4) ∧ w' = w.alloc (.cells #[.int .i64 0, .int .i64 1, .int .i64 2, .int .i64 3] 3) := by
  have h0 : bits .and .i64 (k : Int) 3 = (k : Int) := by
    rcases (by omega : k = 0 ∨ k = 1 ∨ k = 2 ∨ k = 3) with rfl | rfl | rfl | rfl <;> decide
  have h1 : (0 : Int) ≤ 1 + (k : Int) := by omega
  have h2 : 1 + (k : Int) ≤ 4 := by omega
  go_enter Try.func10, Try.ntmps10
  go_wp2
  go_ret
  exact ⟨rfl, rfl⟩

end Go.Proofs.Ytdkaaoboipphcaa
