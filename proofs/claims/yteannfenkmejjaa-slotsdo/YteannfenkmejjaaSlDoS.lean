/- Package slots, of string: what is done with a slot (the closures of Add, Get, Set, Remove), walked. -/
import Derived.Test.YteannfenkmejjaaSlMemS
import Derived.Test.YteannfenkmejjaaSlPat
namespace Go.Proofs.Yteannfenkmejjaa
open Go.RowKit

section
variable {w : World} {p i : Nat} {L : SlT ByteArray}
/-- the slots' block. -/
def objS (L : SlT ByteArray) : Obj := .cells (rowA cellsS L) 70

set_option maxRecDepth 100000 in
set_option maxHeartbeats 1000000 in
theorem add1_S (h : MemS w p L) (hi : i < 8) (v : ByteArray) (id : Int) (bv bg : Nat) (g : Value) (cv : w.cell? ⟨bv, 0, none⟩ = some ((.string v))) (hg : Boxed w bg 3 g) (hne : bg ≠ p) (hnv : bv ≠ p) :
    Calls Try.prog 39 #[.int .i64 id, .pointer (some ⟨p, i * 3, none⟩), .pointer (some ⟨bv, 0, none⟩), .pointer (some ⟨bg, 0, none⟩)] w fun e w' =>
      e = .returned (.tuple #[]) ∧ Pat [(p, objS (L.set i (some v, seqS L i))), (bg, .cells #[.int .i64 id] 3)] w w' := by
  have c1 := h.c1 hi; have c2 := h.c2 hi; have f1 := h.f (i * 3 + 1); have f2 := h.f (i * 3 + 2)
  have cg := hg.cell; have fg := hg.frozen
  have HM := Lib.hid h
  have s0 : ∀ W : World, W.cell? ⟨bv, 0, none⟩ = some ((.string v)) → ∀ o u, (W.setCell ⟨p, o, none⟩ u).cell? ⟨bv, 0, none⟩ = some ((.string v)) := fun W hc o u => (World.cell?_of_block (a := ⟨bv, 0, none⟩) (heap_setCell_other _ _ _ _ hnv)).trans hc
  have S0 := Lib.hid s0
  clear s0 h
  go_enter Try.func39, Try.ntmps39
  go_wp2
  go_region_held3 (fun w' => w'.cell? ⟨bv, 0, none⟩ = some ((.string v))) (first | exact cv | exact S0.out _ cv _ _ | exact S0.out _ (S0.out _ cv _ _) _ _) (fail)
  have M2 := Lib.hid ((HM.out.fill hi v).keep (w' := ((w.setCell ⟨p, i * 3 + 1, none⟩ (.bool true)).setCell ⟨p, i * 3 + 2, none⟩ (.string v)).drew) rfl)
  have T2 := Lib.hid ((((Tou.refl [p, bg] w).set (c := p) (by simp) (i * 3 + 1) (.bool true)).set (c := p) (by simp) (i * 3 + 2) (.string v)).drew)
  have b2 : Boxed ((w.setCell ⟨p, i * 3 + 1, none⟩ (.bool true)).setCell ⟨p, i * 3 + 2, none⟩ (.string v)).drew bg 3 g := (heap_setCell_other _ _ _ _ hne).trans ((heap_setCell_other _ _ _ _ hne).trans hg)
  have g2 := b2.cell; have e2 := b2.frozen
  have B2 := Lib.hid b2
  clear b2 cg fg c1 c2 f1 f2
  generalize ((w.setCell ⟨p, i * 3 + 1, none⟩ (.bool true)).setCell ⟨p, i * 3 + 2, none⟩ (.string v)).drew = W2 at *
  go_wp2
  go_end0
  refine ⟨rfl, (T2.out.set (c := bg) (by simp) 0 (.int .i64 id)).pat (by simp) ?_⟩
  intro y hy
  rcases List.mem_cons.1 hy with rfl | hy
  · exact (heap_setCell_other _ _ _ _ (fun e => hne e.symm)).trans M2.out.box.blk
  · obtain rfl := List.mem_singleton.1 hy
    exact B2.out.set _

set_option maxRecDepth 100000 in
set_option maxHeartbeats 1000000 in
theorem get1_S (h : MemS w p L) (hi : i < 8) (id : Int) (bv : Nat) (g : Value) (hg : Boxed w bv 9 g) :
    Calls Try.prog 41 #[.int .i64 id, .pointer (some ⟨p, i * 3, none⟩), .pointer (some ⟨bv, 0, none⟩)] w fun e w' =>
      e = .returned (.tuple #[]) ∧ Pat [(bv, .cells #[encS ((valS L i).getD (⟨#[]⟩ : ByteArray))] 9)] w w' := by
  have c2 := h.c2 hi
  have cg := hg.cell; have fg := hg.frozen
  generalize (valS L i).getD (⟨#[]⟩ : ByteArray) = z at *
  unfold encS at *
  go_enter Try.func41, Try.ntmps41
  go_wp2
  go_end0
  refine ⟨rfl, ((Tou.refl [bv] w).set (c := bv) (by simp) 0 (.string z)).pat (by simp) ?_⟩
  intro y hy
  obtain rfl := List.mem_singleton.1 hy
  exact hg.set _

set_option maxRecDepth 100000 in
set_option maxHeartbeats 1000000 in
theorem set1_S (h : MemS w p L) (hi : i < 8) (hh : hasS L i = true) (v : ByteArray) (id : Int) (bv : Nat) (cv : w.cell? ⟨bv, 0, none⟩ = some ((.string v))) :
    Calls Try.prog 40 #[.int .i64 id, .pointer (some ⟨p, i * 3, none⟩), .pointer (some ⟨bv, 0, none⟩)] w fun e w' =>
      e = .returned (.tuple #[]) ∧ Pat [(p, objS (L.set i (some v, seqS L i)))] w w' := by
  have c2 := h.c2 hi; have f2 := h.f (i * 3 + 2)
  have HM := Lib.hid h
  clear h
  go_enter Try.func40, Try.ntmps40
  go_wp2
  go_end0
  refine ⟨rfl, ((Tou.refl [p] w).set (c := p) (by simp) (i * 3 + 2) (.string v)).pat (by simp) ?_⟩
  intro y hy
  obtain rfl := List.mem_singleton.1 hy
  exact (HM.out.put hi hh v).box.blk

set_option maxRecDepth 100000 in
set_option maxHeartbeats 1000000 in
theorem rem1_S (h : MemS w p L) (hi : i < 8) (id : Int) (bv : Nat) (g : Value) (hg : Boxed w bv 9 g) (hne : bv ≠ p) :
    Calls Try.prog 42 #[.int .i64 id, .pointer (some ⟨p, i * 3, none⟩), .pointer (some ⟨bv, 0, none⟩)] w fun e w' =>
      e = .returned (.tuple #[]) ∧ Pat [(p, objS (L.set i (none, (seqS L i + 1) % 4096))), (bv, .cells #[encS ((valS L i).getD (⟨#[]⟩ : ByteArray))] 9)] w w' := by
  have c0 := h.c0 hi; have c1 := h.c1 hi; have c2 := h.c2 hi; have f0 := h.f (i * 3); have f1 := h.f (i * 3 + 1); have f2 := h.f (i * 3 + 2)
  have cg := hg.cell; have fg := hg.frozen
  have HM := Lib.hid h
  have hn := next_any (seqS L i) (h.ok.seq i)
  have hq : (seqS L i + 1) % 4096 < 4096 := Nat.mod_lt _ (by omega)
  clear h
  generalize (seqS L i + 1) % 4096 = nq at *
  have HN := Lib.hid hn
  clear hn
  generalize (valS L i).getD (⟨#[]⟩ : ByteArray) = z at *
  unfold encS at *
  go_enter Try.func42, Try.ntmps42
  go_wp2_with (go_at_call 36; refine (HN.out _).mono ?_; rintro e w' ⟨rfl, rfl⟩)
  go_end0
  refine ⟨rfl, (((((Tou.refl [p, bv] w).set (c := bv) (by simp) 0 (.string z)).set (c := p) (by simp) (i * 3) (.int .i64 (nq : Int))).set (c := p) (by simp) (i * 3 + 1) (.bool false)).set (c := p) (by simp) (i * 3 + 2) (.string ⟨#[]⟩)).pat (by simp) ?_⟩
  intro y hy
  rcases List.mem_cons.1 hy with rfl | hy
  · exact ((HM.out.keep (heap_setCell_other _ _ _ _ (fun e => hne e.symm))).free hi hq).box.blk
  · obtain rfl := List.mem_singleton.1 hy
    exact (heap_setCell_other _ _ _ _ hne).trans ((heap_setCell_other _ _ _ _ hne).trans ((heap_setCell_other _ _ _ _ hne).trans (hg.set _)))
end
end Go.Proofs.Yteannfenkmejjaa
