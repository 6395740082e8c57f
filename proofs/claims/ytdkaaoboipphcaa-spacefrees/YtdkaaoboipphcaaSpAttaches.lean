/- Package space: Attach, of pages that may be and frames that are in use, walked. -/
import Derived.Test.YtdkaaoboipphcaaSpAttach
import Derived.Test.YtdkaaoboipphcaaSpExecs
namespace Go.Proofs.Ytdkaaoboipphcaa
open Go.RowKit Go.Shelf

section
variable {w : World} {pw p g n root : Nat} {S : PtS} {t d h : Int} {vA vU : Value} {k : Nat} {us : List Value}

set_option maxRecDepth 100000 in
set_option maxHeartbeats 2000000 in
theorem attach1_ok (page len bl cap : Nat) (write : Bool) (bw bp bb bwr : Nat) (c1 : w.cell? ⟨bw, 0, none⟩ = some (.pointer (some ⟨pw, 0, none⟩))) (c2 : w.cell? ⟨bp, 0, none⟩ = some (.int .i64 page)) (c3 : w.cell? ⟨bb, 0, none⟩ = some (.slice (some ⟨bl, 0, none⟩) len cap)) (c4 : w.cell? ⟨bwr, 0, none⟩ = some (.bool write))
    (P : World → Prop) (ha : Calls Try.prog 25 #[.pointer (some ⟨pw, 0, none⟩), .agg #[.int .i64 page, .int .i64 len, .bool write], .slice (some ⟨bl, 0, none⟩) len cap] w fun e w' => e = .returned (.int .i64 0) ∧ P w') :
    Calls Try.prog 24 #[.pointer (some ⟨bw, 0, none⟩), .pointer (some ⟨bp, 0, none⟩), .pointer (some ⟨bb, 0, none⟩), .pointer (some ⟨bwr, 0, none⟩)] w fun e w' => e = .returned (.int .i64 0) ∧ P w' := by
  have HA := Lib.hid ha; clear ha
  go_enter Try.func24, Try.ntmps24
  go_wp2_with fail
  refine HA.out.mono ?_
  rintro e w2 ⟨rfl, hP⟩
  have HP := Lib.hid hP; clear hP
  go_wp2
  go_ret
  exact ⟨rfl, HP.out⟩

theorem Wa.keep {g pw lo b : Nat} {x y : World} {C : Array Value} {ty : TypeId} (h : Wa g pw lo x y) (hb : x.heap[b]? = some (.cells C ty (0, 0))) (h1 : b ≠ g) (h2 : b ≠ pw) (n1 : ty ≠ 1) (n2 : ty ≠ 66) : y.heap[b]? = x.heap[b]? :=
  h.block b (Array.getElem?_eq_some_iff.1 hb).1 h1 h2 (fun C' f e => by rw [hb] at e; simp at e; exact n1 e.2.1) (fun C' f e => by rw [hb] at e; simp at e; exact n2 e.2.1)

/-- whole, of attach. -/
theorem attach_whole (hm : S.at w p g n) (hw : WorkAt w pw p root t d h vA vU k us) (hgp : g < pw) (hpp : p < pw) (hk : k ≤ 1000) (page len : Nat) (write : Bool) (bl cap : Nat) (f : Nat → Nat) (lo : Nat) (hlo : lo ≤ pw) (hblo : bl < lo) (hbg : bl ≠ g) (hglo : g < lo) (hplo : p < lo) (al : List AttV) (hal : al.length ≤ 10)
    (hown : w.ownsRow lo 66 3 vA al.length (cellsA al)) (hrow : ∀ j, vA.ownBlock = some j → j < pw) (hpg : page + len ≤ 256) (h3 : 1 ≤ len) (hl : len ≤ 100) (hc : ∀ j, j < len → w.cell? ⟨bl, j, none⟩ = some (.int .i64 (f j)))
    (hf : ∀ c, c ≤ len → AttF n root S page (if write = true then 7 else 5) f c ∧ (c < len → ShareF n root (attK n root S page (if write = true then 7 else 5) f c) (page + c) (f c) (if write = true then 7 else 5)))
    (bw bp bb bwr : Nat) (c1 : w.cell? ⟨bw, 0, none⟩ = some (.pointer (some ⟨pw, 0, none⟩))) (c2 : w.cell? ⟨bp, 0, none⟩ = some (.int .i64 page)) (c3 : w.cell? ⟨bb, 0, none⟩ = some (.slice (some ⟨bl, 0, none⟩) len cap)) (c4 : w.cell? ⟨bwr, 0, none⟩ = some (.bool write)) :
    Calls Try.prog 20 #[.pointer (some ⟨pw, 0, none⟩), .func (.func 24) #[] #[.pointer (some ⟨bw, 0, none⟩), .pointer (some ⟨bp, 0, none⟩), .pointer (some ⟨bb, 0, none⟩), .pointer (some ⟨bwr, 0, none⟩)]] w fun e w' =>
      ∃ gg cap', e = .returned (.tuple #[.agg #[.int .i64 root, .int .i64 t, .int .i64 d, .int .i64 h, .slice (some ⟨gg, 0, none⟩) (al.length + 1) cap'], .int .i64 0]) ∧ (attK n root S page (if write = true then 7 else 5) f len).at w' p g n ∧
        (∃ al' : List AttV, al'.Perm (al ++ [(⟨page, by omega⟩, ⟨len, by omega⟩, write)]) ∧ AttsAt w' (.slice (some ⟨gg, 0, none⟩) (al.length + 1) cap') al') ∧ lo ≤ gg ∧ Wa g pw lo w w' := by
  have hpwl := hw.lt
  have hpl := MemAt.p_lt hm; have hgl := MemAt.g_lt hm
  obtain ⟨S', hS'⟩ : ∃ S', S' = attK n root S page (if write = true then 7 else 5) f len := ⟨_, rfl⟩
  obtain ⟨x, hx⟩ : ∃ x : AttV, x = (⟨page, by omega⟩, ⟨len, by omega⟩, write) := ⟨_, rfl⟩
  have hW1 : Wa g pw lo w (((w.alloc (.cells #[.pointer (some ⟨pw, 0, none⟩)] 57)).alloc (.cells #[.int .i64 0, .int .i64 0, .int .i64 0, .int .i64 0, .slice none 0 0] 32)).alloc (.cells #[.int .i64 0] 25)) := Wa.of_wk ((((Wk.refl g pw w).alloc (Nat.le_of_lt hpwl) _).alloc (Nat.le_of_lt hpwl) _).alloc (Nat.le_of_lt hpwl) _) hlo
  refine (whole_ok (r := root) (t := t) (d := d) (h := h) (p := p) 24 _ (enters_of Try.func24 (by kernel_rfl) rfl) hpwl (fun W a m cap' => S'.at W p g n ∧ Wa g pw lo w W ∧ ∃ gg, a = some ⟨gg, 0, none⟩ ∧ m = al.length + 1 ∧ ((gg < w.heap.size ∨ w.heap.size + 3 ≤ gg) ∧ lo ≤ gg) ∧ ∃ al' : List AttV, al'.Perm (al ++ [x]) ∧ AttsAt W (.slice (some ⟨gg, 0, none⟩) (al.length + 1) cap') al') ?_ ?_ ?_).mono ?_
  · refine (attach1_ok page len bl cap write bw bp bb bwr (cells_alloc3 _ _ _ c1) (cells_alloc3 _ _ _ c2) (cells_alloc3 _ _ _ c3) (cells_alloc3 _ _ _ c4) _ (attach_ok (((MemAt.alloc hm _).alloc _).alloc _) (((hw.alloc _).alloc _).alloc _) hgp hpp hk page len write bl cap f lo hlo hblo hbg hglo hplo al hal (((hown.alloc _).alloc _).alloc _) hrow hpg h3 hl (fun j hj => cells_alloc3 _ _ _ (hc j hj)) hf)).mono ?_
    rintro e w' ⟨rfl, a1, ⟨gg, cap', vU', k', us', a2, al', a3, a4, a5, a6⟩, a7⟩
    have hs3 : (((w.alloc (.cells #[.pointer (some ⟨pw, 0, none⟩)] 57)).alloc (.cells #[.int .i64 0, .int .i64 0, .int .i64 0, .int .i64 0, .slice none 0 0] 32)).alloc (.cells #[.int .i64 0] 25)).heap.size = w.heap.size + 3 := by simp
    rw [hs3] at a6
    refine ⟨rfl, ⟨some ⟨gg, 0, none⟩, al.length + 1, cap', ⟨vU', k', us', a2⟩, by rw [hS']; exact a1, hW1.trans a7, gg, rfl, rfl, ⟨by omega, a5⟩, al', by rw [hx]; exact a3, a4⟩, fun c h1 h2 => ?_⟩
    exact a7.block c (by rw [hs3]; omega) (by omega) (by omega) (alloc3_no _ _ _ h1 h2 (by decide) (by decide) (by decide)) (alloc3_no _ _ _ h1 h2 (by decide) (by decide) (by decide))
  · rintro W a m cap' c o v ⟨x1, x2, gg, x3, x4, x5, al', x6, x7⟩ hcc
    refine ⟨MemAt.setOther x1 _ _ _ (by omega) (by omega), x2.setNew (by omega) _ _ (by omega), gg, x3, x4, x5, al', x6, ?_⟩
    rcases x7 with ⟨_, h2⟩ | ⟨h0, b, cap2, h1, h2, h4⟩
    · cases h2
    · refine .inr ⟨h0, b, cap2, h1, by simpa [World.setCell] using h2, fun j hj i u hu => cell_far (h4 j hj i u hu) ?_⟩
      have hb : gg = b := by simp at h1; exact h1.1
      omega
  · rintro W a m cap' ⟨x1, x2, gg, x3, x4, x5, al', x6, x7⟩
    refine ⟨MemAt.drew x1, x2.drewR, gg, x3, x4, x5, al', x6, ?_⟩
    rcases x7 with h | ⟨h0, b, cap2, h1, h2, h4⟩
    · exact .inl h
    · exact .inr ⟨h0, b, cap2, h1, h2, fun j hj i u hu => (cell_drew _ _).trans (h4 j hj i u hu)⟩
  · rintro e w' ⟨a, m, cap', rfl, x1, x2, gg, rfl, rfl, x5, al', x6, x7⟩
    exact ⟨gg, cap', rfl, by rw [← hS']; exact x1, ⟨al', by rw [← hx]; exact x6, x7⟩, x5.2, x2⟩

end
end Go.Proofs.Ytdkaaoboipphcaa
