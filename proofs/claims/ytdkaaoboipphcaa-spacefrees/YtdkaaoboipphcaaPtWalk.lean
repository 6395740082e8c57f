/- Package ptable: seekMapped, Walk, walked, over the plain machine. -/
import Derived.Test.YtdkaaoboipphcaaPtSeek
import Derived.BigQuiet
import Derived.Deep.QuietTactic
namespace Go.Proofs.Ytdkaaoboipphcaa
open Go.RowKit

/-- what seek (or seekMapped) answers at whatever world behind w. -/
def Seeks (f : Nat) (a : Option Addr) (root page e v0 v1 v2 v3 : Int) (w : World) : Prop :=
  ∀ W, Below w.heap.size w W → Calls Try.prog f #[.pointer a, .int .i64 root, .int .i64 page] W fun r w' => r = .returned (.tuple #[.agg #[.int .i64 v0, .int .i64 v1, .int .i64 v2, .int .i64 v3], .int .i64 e]) ∧ Below W.heap.size W w'

theorem Seeks.mono {f : Nat} {a : Option Addr} {root page e v0 v1 v2 v3 : Int} {w w' : World} (h : Seeks f a root page e v0 v1 v2 v3 w) (hb : Below w.heap.size w w') : Seeks f a root page e v0 v1 v2 v3 w' :=
  fun W hW => h W (hb.trans (hW.mono hb.size))

theorem below_drewN {m k : Nat} {w w1 : World} (h : Below m w w1) : Below m w (w1.drewN k) := ⟨h.os, h.tape, h.output, h.size, h.block⟩

section
variable {w : World} {a : Option Addr} {root page e v0 v1 v2 v3 : Int}

set_option maxRecDepth 100000 in
set_option maxHeartbeats 1000000 in
theorem seekMapped_err (he : e ≠ 0) (hs : Seeks 64 a root page e 0 0 0 0 w) :
    Calls Try.prog 50 #[.pointer a, .int .i64 root, .int .i64 page] w fun r w' => r = .returned (.tuple #[.agg #[.int .i64 0, .int .i64 0, .int .i64 0, .int .i64 0], .int .i64 e]) ∧ Below w.heap.size w w' := by
  have he1 : (e != 0) = true := by simpa using he
  have HS := Lib.hid hs; clear hs he
  have HB0 := Lib.hid ((Below.refl _ w).alloc (Nat.le_refl _) (.cells #[.int .i64 0, .int .i64 0, .int .i64 0, .int .i64 0] 102))
  have HR0 := Lib.hid (Boxed4.new w 102 (.int .i64 0) (.int .i64 0) (.int .i64 0) (.int .i64 0))
  go_enter Try.func50, Try.ntmps50
  go_wp2_with fail
  generalize w.alloc (.cells #[.int .i64 0, .int .i64 0, .int .i64 0, .int .i64 0] 102) = W1 at *
  refine (HS.out _ HB0.out).mono ?_
  rintro r w2 ⟨rfl, hB2⟩
  have HB2 : Hid (Below w.heap.size w w2) := HB0.out.trans (hB2.mono HB0.out.size)
  have bR := HR0.out.below hB2 HR0.out.lt
  have HR2 := Lib.hid bR
  have y0 := bR.c0; have y1 := bR.c1; have y2 := bR.c2; have y3 := bR.c3
  have z0 := bR.fz 0; have z1 := bR.fz 1; have z2 := bR.fz 2; have z3 := bR.fz 3
  have hlt := bR.lt
  clear hB2 bR
  go_wp2
  have bs := ((HR2.out.set01 (.int .i64 0) (.int .i64 0)).set23 (.int .i64 0) (.int .i64 0)).alloc (.cells #[.int .i64 0, .int .i64 0, .int .i64 0, .int .i64 0] 102)
  have s0 := bs.c0; have s1 := bs.c1; have s2 := bs.c2; have s3 := bs.c3
  refine bodyPost_ret (v := .tuple #[.agg #[.int .i64 0, .int .i64 0, .int .i64 0, .int .i64 0], .int .i64 e]) (by simp [results, Try.results50, go_sem, s0, s1, s2, s3]) rfl ⟨rfl, ?_⟩
  have hb4 := (((HB2.out.setCell (p := ⟨w.heap.size, 0, none⟩) (Nat.le_refl _) (.int .i64 0)).setCell (p := ⟨w.heap.size, 1, none⟩) (Nat.le_refl _) (.int .i64 0)).setCell (p := ⟨w.heap.size, 2, none⟩) (Nat.le_refl _) (.int .i64 0)).setCell (p := ⟨w.heap.size, 3, none⟩) (Nat.le_refl _) (.int .i64 0)
  exact hb4.alloc hb4.size _

set_option maxRecDepth 100000 in
set_option maxHeartbeats 1000000 in
theorem seekMapped_fault (hs : Seeks 64 a root page 0 v0 v1 0 0 w) :
    Calls Try.prog 50 #[.pointer a, .int .i64 root, .int .i64 page] w fun r w' => r = .returned (.tuple #[.agg #[.int .i64 0, .int .i64 0, .int .i64 0, .int .i64 0], .int .i64 30]) ∧ Below w.heap.size w w' := by
  have HS := Lib.hid hs; clear hs
  have HB0 := Lib.hid ((Below.refl _ w).alloc (Nat.le_refl _) (.cells #[.int .i64 0, .int .i64 0, .int .i64 0, .int .i64 0] 102))
  have HR0 := Lib.hid (Boxed4.new w 102 (.int .i64 0) (.int .i64 0) (.int .i64 0) (.int .i64 0))
  go_enter Try.func50, Try.ntmps50
  go_wp2_with fail
  generalize w.alloc (.cells #[.int .i64 0, .int .i64 0, .int .i64 0, .int .i64 0] 102) = W1 at *
  refine (HS.out _ HB0.out).mono ?_
  rintro r w2 ⟨rfl, hB2⟩
  have HB2 : Hid (Below w.heap.size w w2) := HB0.out.trans (hB2.mono HB0.out.size)
  have bR := HR0.out.below hB2 HR0.out.lt
  have HR2 := Lib.hid bR
  have y0 := bR.c0; have y1 := bR.c1; have y2 := bR.c2; have y3 := bR.c3
  have z0 := bR.fz 0; have z1 := bR.fz 1; have z2 := bR.fz 2; have z3 := bR.fz 3
  have hlt := bR.lt
  clear hB2 bR
  go_wp2
  have bs := ((HR2.out.set01 (.int .i64 0) (.int .i64 0)).set23 (.int .i64 0) (.int .i64 0)).alloc (.cells #[.int .i64 v0, .int .i64 v1, .int .i64 0, .int .i64 0] 102)
  have s0 := bs.c0; have s1 := bs.c1; have s2 := bs.c2; have s3 := bs.c3
  refine bodyPost_ret (v := .tuple #[.agg #[.int .i64 0, .int .i64 0, .int .i64 0, .int .i64 0], .int .i64 30]) (by simp [results, Try.results50, go_sem, s0, s1, s2, s3]) rfl ⟨rfl, ?_⟩
  have hb4 := (((HB2.out.setCell (p := ⟨w.heap.size, 0, none⟩) (Nat.le_refl _) (.int .i64 0)).setCell (p := ⟨w.heap.size, 1, none⟩) (Nat.le_refl _) (.int .i64 0)).setCell (p := ⟨w.heap.size, 2, none⟩) (Nat.le_refl _) (.int .i64 0)).setCell (p := ⟨w.heap.size, 3, none⟩) (Nat.le_refl _) (.int .i64 0)
  exact hb4.alloc hb4.size _

set_option maxRecDepth 100000 in
set_option maxHeartbeats 1000000 in
theorem seekMapped_ok (hv : v2 ≠ 0) (hs : Seeks 64 a root page 0 v0 v1 v2 v3 w) :
    Calls Try.prog 50 #[.pointer a, .int .i64 root, .int .i64 page] w fun r w' => r = .returned (.tuple #[.agg #[.int .i64 v0, .int .i64 v1, .int .i64 v2, .int .i64 v3], .int .i64 0]) ∧ Below w.heap.size w w' := by
  have hv1 : (v2 == 0) = false := by simpa using hv
  have HS := Lib.hid hs; clear hs hv
  have HB0 := Lib.hid ((Below.refl _ w).alloc (Nat.le_refl _) (.cells #[.int .i64 0, .int .i64 0, .int .i64 0, .int .i64 0] 102))
  have HR0 := Lib.hid (Boxed4.new w 102 (.int .i64 0) (.int .i64 0) (.int .i64 0) (.int .i64 0))
  go_enter Try.func50, Try.ntmps50
  go_wp2_with fail
  generalize w.alloc (.cells #[.int .i64 0, .int .i64 0, .int .i64 0, .int .i64 0] 102) = W1 at *
  refine (HS.out _ HB0.out).mono ?_
  rintro r w2 ⟨rfl, hB2⟩
  have HB2 : Hid (Below w.heap.size w w2) := HB0.out.trans (hB2.mono HB0.out.size)
  have bR := HR0.out.below hB2 HR0.out.lt
  have HR2 := Lib.hid bR
  have y0 := bR.c0; have y1 := bR.c1; have y2 := bR.c2; have y3 := bR.c3
  have z0 := bR.fz 0; have z1 := bR.fz 1; have z2 := bR.fz 2; have z3 := bR.fz 3
  have hlt := bR.lt
  clear hB2 bR
  go_wp2
  have bs := ((HR2.out.set01 (.int .i64 v0) (.int .i64 v1)).set23 (.int .i64 v2) (.int .i64 v3)).alloc (.cells #[.int .i64 v0, .int .i64 v1, .int .i64 v2, .int .i64 v3] 102)
  have s0 := bs.c0; have s1 := bs.c1; have s2 := bs.c2; have s3 := bs.c3
  refine bodyPost_ret (v := .tuple #[.agg #[.int .i64 v0, .int .i64 v1, .int .i64 v2, .int .i64 v3], .int .i64 0]) (by simp [results, Try.results50, go_sem, s0, s1, s2, s3]) rfl ⟨rfl, ?_⟩
  have hb4 := (((HB2.out.setCell (p := ⟨w.heap.size, 0, none⟩) (Nat.le_refl _) (.int .i64 v0)).setCell (p := ⟨w.heap.size, 1, none⟩) (Nat.le_refl _) (.int .i64 v1)).setCell (p := ⟨w.heap.size, 2, none⟩) (Nat.le_refl _) (.int .i64 v2)).setCell (p := ⟨w.heap.size, 3, none⟩) (Nat.le_refl _) (.int .i64 v3)
  exact hb4.alloc hb4.size _

set_option maxRecDepth 100000 in
set_option maxHeartbeats 1000000 in
theorem walk_of (hs : Seeks 50 a root page e v0 v1 v2 v3 w) :
    Calls Try.prog 36 #[.pointer a, .int .i64 root, .int .i64 page] w fun r w' => r = .returned (.tuple #[.int .i64 v3, .int .i64 v2, .int .i64 e]) ∧ Below w.heap.size w w' := by
  have HS := Lib.hid hs; clear hs
  go_enter Try.func36, Try.ntmps36
  go_wp2_with fail
  refine (HS.out _ (Below.refl _ _)).mono ?_
  rintro r w2 ⟨rfl, hB2⟩
  have HB3 := Lib.hid (hB2.alloc hB2.size (.cells #[.int .i64 v0, .int .i64 v1, .int .i64 v2, .int .i64 v3] 102))
  clear hB2
  go_wp2
  go_quiet (fail)
  go_wp2
  exact bodyPost_ret (results_tmp3 rfl _ _ _) rfl ⟨rfl, below_drewN HB3.out⟩

end

/-- what walking tells. -/
def wkE (E : Nat → Nat × Nat) (page : Int) : Int := if belowB 256 page = true then (if E page.toNat = (0, 0) then 30 else 0) else 2
def wkT (E : Nat → Nat × Nat) (page : Int) : Int := if belowB 256 page = true then ((E page.toNat).2 : Nat) else 0
def wkF (E : Nat → Nat × Nat) (page : Int) : Int := if belowB 256 page = true then ((E page.toNat).1 : Nat) else 0

section
variable {w : World} {p g n : Nat} {R : Nat → Int} {B : Nat → List UInt8} {root : Nat} {T E : Nat → Nat × Nat}

theorem Rep.live (r : Rep n R B root T E) : liveB n R root = true := by
  have := r.rR
  have := r.rt
  simp [liveB]; omega

/-- seek, of a page that may be. -/
theorem seek_rep (h : MemAt w p g n R B) (r : Rep n R B root T E) {q : Nat} (hq : q < 256) : Seeks 64 (some ⟨p, 0, none⟩) root q 0 (T (q / 16)).1 (T (q / 16)).2 (E q).1 (E q).2 w := by
  intro W hW
  have hM := h.below2 hW
  have hi : q / 16 < 16 := by omega
  have hj : q % 16 < 16 := by omega
  have hr : 0 < R root := by rw [r.rR]; omega
  have hE := r.page hq
  have hT := r.pT hi
  by_cases c : T (q / 16) = (0, 0)
  · rw [if_pos c] at hE
    rw [c, hE]
    exact seek_none hM root (q / 16) q r.rt hr (by omega) (by omega) hi (by omega) (hT.trans c)
  · rw [if_neg c] at hE
    obtain ⟨t1, t2, t3, t4, _⟩ := r.tb _ hi c
    rw [hE]
    exact seek_ok hM root (q / 16) (q % 16) (T (q / 16)).1 (T (q / 16)).2 q r.rt hr (by omega) (by omega) hi hj (by omega) (by omega) hT (by omega) t2 (by omega)
theorem seek_arg_rep (h : MemAt w p g n R B) (r : Rep n R B root T E) {page : Int} (hp : belowB 256 page = false) : Seeks 64 (some ⟨p, 0, none⟩) root page 2 0 0 0 0 w :=
  fun _ hW => seek_arg (h.below2 hW) root page r.live hp

theorem below_nat {page : Int} (h : belowB 256 page = true) : ∃ q : Nat, page = q ∧ q < 256 := by
  simp only [belowB, decide_eq_true_eq] at h
  exact ⟨page.toNat, by omega, by omega⟩

/-- seekMapped. -/
theorem mapped_arg (h : MemAt w p g n R B) (r : Rep n R B root T E) {page : Int} (hp : belowB 256 page = false) : Seeks 50 (some ⟨p, 0, none⟩) root page 2 0 0 0 0 w :=
  fun _ hW => seekMapped_err (by omega) ((seek_arg_rep h r hp).mono hW)
theorem mapped_no (h : MemAt w p g n R B) (r : Rep n R B root T E) {q : Nat} (hq : q < 256) (hE : E q = (0, 0)) : Seeks 50 (some ⟨p, 0, none⟩) root q 30 0 0 0 0 w := by
  intro W hW
  have := (seek_rep h r hq).mono hW
  rw [hE] at this
  exact seekMapped_fault this
theorem mapped_yes (h : MemAt w p g n R B) (r : Rep n R B root T E) {q : Nat} (hq : q < 256) (hE : E q ≠ (0, 0)) : Seeks 50 (some ⟨p, 0, none⟩) root q 0 (T (q / 16)).1 (T (q / 16)).2 (E q).1 (E q).2 w :=
  fun _ hW => seekMapped_ok (fun c => hE ((r.E1 hq).1 (by omega))) ((seek_rep h r hq).mono hW)

theorem walk_rep (h : MemAt w p g n R B) (r : Rep n R B root T E) (page : Int) :
    Calls Try.prog 36 #[.pointer (some ⟨p, 0, none⟩), .int .i64 root, .int .i64 page] w fun e w' => e = .returned (.tuple #[.int .i64 (wkT E page), .int .i64 (wkF E page), .int .i64 (wkE E page)]) ∧ Below w.heap.size w w' := by
  unfold wkT wkF wkE
  cases hp : belowB 256 page with
  | false => exact walk_of (mapped_arg h r hp)
  | true =>
    obtain ⟨q, rfl, hq⟩ := below_nat hp
    rw [Int.toNat_natCast]
    by_cases hE : E q = (0, 0)
    · rw [if_pos rfl, if_pos rfl, if_pos rfl, if_pos hE, hE]
      exact walk_of (mapped_no h r hq hE)
    · rw [if_pos rfl, if_pos rfl, if_pos rfl, if_neg hE]
      exact walk_of (mapped_yes h r hq hE)

/-- of a nil memory, and of a root that is not in use. -/
theorem walk_nil (root page : Int) (w : World) : Calls Try.prog 36 #[.pointer none, .int .i64 root, .int .i64 page] w fun e w' => e = .returned (.tuple #[.int .i64 0, .int .i64 0, .int .i64 1]) ∧ Below w.heap.size w w' :=
  walk_of (v0 := 0) (v1 := 0) fun _ _ => seekMapped_err (by omega) fun _ _ => seek_nil _ _ _
theorem walk_no (h : MemAt w p g n R B) (k page : Int) (hl : liveB n R k = false) : Calls Try.prog 36 #[.pointer (some ⟨p, 0, none⟩), .int .i64 k, .int .i64 page] w fun e w' => e = .returned (.tuple #[.int .i64 0, .int .i64 0, .int .i64 10]) ∧ Below w.heap.size w w' :=
  walk_of (v0 := 0) (v1 := 0) fun _ hW => seekMapped_err (by omega) fun _ hW' => seek_no ((h.below2 hW).below2 hW') _ _ hl

end
end Go.Proofs.Ytdkaaoboipphcaa
