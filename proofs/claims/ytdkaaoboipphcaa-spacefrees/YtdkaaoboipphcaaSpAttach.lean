/- Package space: attach, where it can be done, walked. -/
import Derived.Test.YtdkaaoboipphcaaSpSort
namespace Go.Proofs.Ytdkaaoboipphcaa
open Go.RowKit Go.Shelf Go.Sort

/-- what turns while something is attached: as Wk, and rows of attachments from block lo on. -/
structure Wa (g pw lo : Nat) (w w' : World) : Prop where
  os : w'.os = w.os
  tape : w'.tape = w.tape
  output : w'.output = w.output
  size : w.heap.size ≤ w'.heap.size
  low : ∀ k, k < lo → k ≠ g → w'.heap[k]? = w.heap[k]?
  block : ∀ k, k < w.heap.size → k ≠ g → k ≠ pw → (∀ C f, w.heap[k]? ≠ some (.cells C 1 f)) → (∀ C f, w.heap[k]? ≠ some (.cells C 66 f)) → w'.heap[k]? = w.heap[k]?
theorem Wa.of_wk {g pw lo : Nat} {w w' : World} (h : Wk g pw w w') (hl : lo ≤ pw) : Wa g pw lo w w' := ⟨h.os, h.tape, h.output, h.size, fun k h1 h2 => h.low k (by omega) h2, fun k h1 h2 h3 h4 _ => h.block k h1 h2 h3 h4⟩
theorem Wa.trans {g pw lo : Nat} {a b c : World} (h : Wa g pw lo a b) (k : Wa g pw lo b c) : Wa g pw lo a c :=
  ⟨k.os.trans h.os, k.tape.trans h.tape, k.output.trans h.output, Nat.le_trans h.size k.size, fun j h1 h2 => (k.low j h1 h2).trans (h.low j h1 h2),
    fun j h1 h2 h3 h4 h5 => (k.block j (Nat.lt_of_lt_of_le h1 h.size) h2 h3 (fun C f => by rw [h.block j h1 h2 h3 h4 h5]; exact h4 C f) (fun C f => by rw [h.block j h1 h2 h3 h4 h5]; exact h5 C f)).trans (h.block j h1 h2 h3 h4 h5)⟩
theorem Wa.setNew {g pw lo : Nat} {a b : World} (h : Wa g pw lo a b) (hlo : lo ≤ a.heap.size) {c : Nat} (o : Nat) (v : Value) (hc : a.heap.size ≤ c) : Wa g pw lo a (b.setCell ⟨c, o, none⟩ v) :=
  ⟨h.os, h.tape, h.output, by simpa [World.setCell] using h.size, fun j h1 h2 => (heap_setCell_other _ _ _ _ (show j ≠ c by omega)).trans (h.low j h1 h2), fun j h1 h2 h3 h4 h5 => (heap_setCell_other _ _ _ _ (show j ≠ c by omega)).trans (h.block j h1 h2 h3 h4 h5)⟩
theorem Wa.drewR {g pw lo : Nat} {a b : World} (h : Wa g pw lo a b) : Wa g pw lo a b.drew := ⟨h.os, h.tape, h.output, h.size, h.low, h.block⟩
/-- a row of attachments turns. -/
theorem Wa.row {g pw lo : Nat} {w w' : World} {row : Option Nat} (h : w.grownBy w' row) (hlo : lo ≤ w.heap.size) (hr : ∀ j, row = some j → lo ≤ j ∧ ∃ C f, w.heap[j]? = some (.cells C 66 f)) : Wa g pw lo w w' :=
  ⟨h.os, h.tape, h.output, h.size, fun k h1 _ => h.block k (by omega) (fun e => by have := (hr k e.symm).1; omega), fun k h1 _ _ _ h5 => h.block k h1 (fun e => by obtain ⟨_, C, f, hc⟩ := hr k e.symm; exact h5 C f hc)⟩
theorem Wa.setWork {g pw lo : Nat} {a b : World} (h : Wa g pw lo a b) (hl : lo ≤ pw) (o : Nat) (v : Value) : Wa g pw lo a (b.setCell ⟨pw, o, none⟩ v) :=
  ⟨h.os, h.tape, h.output, by simpa [World.setCell] using h.size, fun j h1 h2 => (heap_setCell_other _ _ _ _ (show j ≠ pw by omega)).trans (h.low j h1 h2), fun j h1 h2 h3 h4 h5 => (heap_setCell_other _ _ _ _ h3).trans (h.block j h1 h2 h3 h4 h5)⟩

theorem own_wk {g pw lo m : Nat} {w w' : World} {v : Value} {xs : List Value} (h : w.ownsRow lo 66 3 v m xs) (hk : Wk g pw w w') (hr : ∀ j, v.ownBlock = some j → j < pw) (hg : g < lo) : w'.ownsRow lo 66 3 v m xs := by
  refine ⟨h.1, ?_⟩
  rcases h.2 with hn | ⟨g', cap, cur, h1, h2, h3, h4⟩
  · exact .inl hn
  · refine .inr ⟨g', cap, cur, h1, h2, (hk.low g' (hr g' (by rw [h1]; rfl)) (by omega)).trans h3, h4⟩

/-- behind the append: what lies in the world. -/
theorem att_app {g pw lo p n m m' : Nat} {w w3 : World} {S : PtS} {root t d h : Int} {vA vU v' : Value} {k : Nat} {us xs xs' : List Value} {o : Obj} (hm : S.at w p g n) (hw : WorkAt w pw p root t d h vA vU k us) (hO : w.ownsRow lo 66 3 vA m xs) (hr : ∀ j, vA.ownBlock = some j → j < pw) (hgp : g < pw) (hpp : p < pw) (hlo : lo ≤ pw) (hg : g < lo) (hp : p < lo)
    (hown : w3.ownsRow lo 66 3 v' m' xs') (hgr : (w.alloc o).drew.grownBy w3 vA.ownBlock) (hv : ∀ j, v'.ownBlock = some j → j ≠ pw) :
    S.at (w3.setCell ⟨pw, 5, none⟩ v') p g n ∧ WorkAt (w3.setCell ⟨pw, 5, none⟩ v') pw p root t d h v' vU k us ∧ (w3.setCell ⟨pw, 5, none⟩ v').ownsRow lo 66 3 v' m' xs' ∧ Wa g pw lo w (w3.setCell ⟨pw, 5, none⟩ v') := by
  have hw1 := (hw.alloc o).drew
  have hO1 := (hO.alloc o).drew
  have hlow : ∀ j, j < w.heap.size → vA.ownBlock ≠ some j → w3.heap[j]? = w.heap[j]? := fun j hj hne => (hgr.block j (by show j < (w.alloc o).heap.size; simp; omega) (Ne.symm hne)).trans (Below.heap_alloc w o j hj)
  have hge : ∀ j, vA.ownBlock = some j → lo ≤ j := fun j e => (hO.lt j e).1
  have hpl := MemAt.p_lt hm; have hgl := MemAt.g_lt hm; have hwl := hw.lt
  have hM3 : S.at w3 p g n := MemAt.keep hm (hlow p hpl (fun e => by have := hge p e; omega)) (hlow g hgl (fun e => by have := hge g e; omega))
  have hW3 : WorkAt w3 pw p root t d h vA vU k us := by
    refine ⟨(hlow pw hwl (fun e => by have := hr pw e; omega)).trans hw.blk, hw1.own.kept hgr ?_⟩
    cases e : vU.ownBlock with
    | none => exact .inl rfl
    | some j => right; intro e2; have h1 := hw.row_ge j e; have h2 := hr j e2.symm; omega
  refine ⟨MemAt.setOther hM3 _ _ _ (by omega) (by omega), hW3.atts v', hown.kept (grown_setCell w3 pw 5 v') ?_, ?_⟩
  · cases e : v'.ownBlock with
    | none => exact .inl rfl
    | some j => right; intro e2; exact hv j e (Option.some.inj e2)
  · refine Wa.setWork (show Wa g pw lo w w3 from ⟨hgr.os, hgr.tape, hgr.output, Nat.le_trans (by show w.heap.size ≤ (w.alloc o).heap.size; simp) hgr.size, fun j h1 _ => hlow j (by omega) (fun e => by have := hge j e; omega), fun j h1 _ _ _ h5 => hlow j h1 (fun e => ?_)⟩) hlo _ _
    rcases hO.2 with ⟨rfl, _⟩ | ⟨gg, cap, cur, rfl, _, hgg, _⟩
    · simp [Value.ownBlock] at e
    · simp [Value.ownBlock] at e
      subst e
      exact h5 _ _ hgg

theorem att_sort {g pw lo p n m cap gg : Nat} {w w' : World} {S : PtS} {root t d h : Int} {vU : Value} {k : Nat} {us xs : List Value} (hm : S.at w p g n) (hw : WorkAt w pw p root t d h (.slice (some ⟨gg, 0, none⟩) m cap) vU k us) (hO : w.ownsRow lo 66 3 (.slice (some ⟨gg, 0, none⟩) m cap) m xs) (hgw : gg ≠ pw) (hlo : lo ≤ pw) (hg : g < lo) (hp : p < lo) (hgr : w.grownBy w' (some gg)) :
    S.at w' p g n ∧ WorkAt w' pw p root t d h (.slice (some ⟨gg, 0, none⟩) m cap) vU k us ∧ Wa g pw lo w w' ∧ lo ≤ gg := by
  have hge : lo ≤ gg := (hO.lt gg rfl).1
  obtain ⟨C, hC⟩ : ∃ C, w.heap[gg]? = some (.cells C 66 (0, 0)) := by
    rcases hO.2 with ⟨h1, _⟩ | ⟨g', cap', cur, h1, _, h3, _⟩
    · cases h1
    · cases h1; exact ⟨cur, h3⟩
  have hwl := hw.lt
  refine ⟨MemAt.keep hm (hgr.block p (MemAt.p_lt hm) (fun e => by have := Option.some.inj e; omega)) (hgr.block g (MemAt.g_lt hm) (fun e => by have := Option.some.inj e; omega)), ⟨(hgr.block pw hwl (fun e => hgw (Option.some.inj e).symm)).trans hw.blk, hw.own.kept hgr ?_⟩, Wa.row hgr (by omega) (fun j e => by obtain rfl := Option.some.inj e; exact ⟨hge, C, _, hC⟩), hge⟩
  rcases hw.own.2 with ⟨rfl, _⟩ | ⟨g', cap', cur, rfl, _, h3, _⟩
  · exact .inl rfl
  · right
    intro e
    simp [Value.ownBlock] at e
    subst e
    rw [h3] at hC
    simp at hC

theorem ext_all {α : Type} (d : Array α) (m : Nat) (h : d.size = m) : d.extract 0 m = d := by subst h; exact Array.extract_size

theorem holds_of_own {lo gg m cap : Nat} {w : World} {al : List AttV} (h : w.ownsRow lo 66 3 (.slice (some ⟨gg, 0, none⟩) m cap) m (cellsA al)) : HoldsK encA 3 w gg 0 al.toArray ∧ gg < w.heap.size := by
  obtain ⟨C, hC⟩ : ∃ C, w.heap[gg]? = some (.cells C 66 (0, 0)) := by
    rcases h.2 with ⟨h1, _⟩ | ⟨g', cap', cur, h1, _, h3, _⟩
    · cases h1
    · cases h1; exact ⟨cur, h3⟩
  refine ⟨fun j hj => ⟨?_, by simp [World.frozen?, hC]⟩, (Array.getElem?_eq_some_iff.1 hC).1⟩
  rw [size_flatK] at hj
  have hj' : j < al.length * 3 := by simpa using hj
  have hu : (cellsA al)[j]? = some ((encA al[j / 3]!)[j % 3]!) := by
    rw [cellsA_get, if_pos hj']
    have : j % 3 < (encA al[j / 3]!).length := by show j % 3 < 3; omega
    rw [List.getElem?_eq_getElem this]
    exact congrArg some (getElem!_pos (encA al[j / 3]!) (j % 3) this).symm
  have := h.cells (g := gg) rfl j _ hu
  show w.cell? ⟨gg, 0 + j, none⟩ = some (flatK encA 3 al.toArray)[j]!
  rw [get_flatK _ _ _ _ hj]
  simpa [Addr.add_mid] using this

theorem atts_of_holds {gg cap m : Nat} {w : World} {d : Array AttV} (h : HoldsK encA 3 w gg 0 d) (hm : d.size = m) (hm0 : 0 < m) (hgl : gg < w.heap.size) : AttsAt w (.slice (some ⟨gg, 0, none⟩) m cap) d.toList := by
  refine .inr ⟨by simpa [hm] using hm0, gg, cap, by simp [hm], hgl, fun j hj i u hu => ?_⟩
  have hj' : j < d.size := by simpa using hj
  have hi : i < 3 := by have := (List.getElem?_eq_some_iff.1 hu).1; exact this
  have h1 := (h (j * 3 + i) (by rw [size_flatK]; omega)).1
  rw [show (id (flatK encA 3 d)[j * 3 + i]! : Value) = (encA d[(j * 3 + i) / 3]!)[(j * 3 + i) % 3]! from get_flatK _ _ _ _ (by omega), show (j * 3 + i) / 3 = j by omega, show (j * 3 + i) % 3 = i by omega] at h1
  rw [show 0 + j * 3 + i = 0 + (j * 3 + i) by omega, h1]
  have e1 : d.toList[j]! = d[j]! := by rw [getElem!_pos d.toList j hj, getElem!_pos d j hj']; exact Array.getElem_toList hj'
  rw [e1] at hu
  have hl : i < (encA d[j]!).length := hi
  rw [List.getElem?_eq_getElem hl] at hu
  rw [getElem!_pos (encA d[j]!) i hl]
  exact hu

section
variable {w : World} {pw p g n root : Nat} {S : PtS} {t d h : Int} {vA vU : Value} {k : Nat} {us : List Value}

set_option maxRecDepth 100000 in
set_option maxHeartbeats 8000000 in
theorem attach_ok (hm : S.at w p g n) (hw : WorkAt w pw p root t d h vA vU k us) (hgp : g < pw) (hpp : p < pw) (hk : k ≤ 1000) (page len : Nat) (write : Bool) (bl cap : Nat) (f : Nat → Nat) (lo : Nat) (hlo : lo ≤ pw) (hblo : bl < lo) (hbg : bl ≠ g) (hglo : g < lo) (hplo : p < lo) (al : List AttV) (hal : al.length ≤ 10)
    (hown : w.ownsRow lo 66 3 vA al.length (cellsA al)) (hrow : ∀ j, vA.ownBlock = some j → j < pw) (hpg : page + len ≤ 256) (h3 : 1 ≤ len) (hl : len ≤ 100) (hc : ∀ j, j < len → w.cell? ⟨bl, j, none⟩ = some (.int .i64 (f j)))
    (hf : ∀ c, c ≤ len → AttF n root S page (if write = true then 7 else 5) f c ∧ (c < len → ShareF n root (attK n root S page (if write = true then 7 else 5) f c) (page + c) (f c) (if write = true then 7 else 5))) :
    Calls Try.prog 25 #[.pointer (some ⟨pw, 0, none⟩), .agg #[.int .i64 page, .int .i64 len, .bool write], .slice (some ⟨bl, 0, none⟩) len cap] w fun e w' => e = .returned (.int .i64 0) ∧
      (attK n root S page (if write = true then 7 else 5) f len).at w' p g n ∧ (∃ gg cap' vU' k' us', WorkAt w' pw p root t d h (.slice (some ⟨gg, 0, none⟩) (al.length + 1) cap') vU' k' us' ∧
        ∃ al' : List AttV, al'.Perm (al ++ [(⟨page, by omega⟩, ⟨len, by omega⟩, write)]) ∧ AttsAt w' (.slice (some ⟨gg, 0, none⟩) (al.length + 1) cap') al' ∧ lo ≤ gg ∧ (gg < pw ∨ w.heap.size ≤ gg)) ∧ Wa g pw lo w w' := by
  obtain ⟨i0, hi, hz0, hz1, hz2⟩ := info_parts Try.infoAtt
  have HI := Lib.hid hi; have HZ0 := Lib.hid hz0; have HZ1 := Lib.hid hz1; have HZ2 := Lib.hid hz2
  clear hi hz0 hz1 hz2
  obtain ⟨fl, hfl⟩ : ∃ fl : Nat, fl = if write = true then 7 else 5 := ⟨_, rfl⟩
  rw [← hfl] at hf
  rw [← hfl]
  have HF := Lib.hid hf; have HC := Lib.hid hc
  have HPW := Lib.hid (show g < pw ∧ p < pw ∧ pw < w.heap.size ∧ lo ≤ pw ∧ bl < lo ∧ bl ≠ g ∧ g < lo ∧ p < lo from ⟨hgp, hpp, hw.lt, hlo, hblo, hbg, hglo, hplo⟩)
  have HFL : Hid (fl < 8) := by unfold Hid; rw [hfl]; split <;> omega
  have HROW := Lib.hid hrow
  have w1 := hw.alloc (.cells #[.int .i64 page, .int .i64 len, .bool write] 66)
  have HM1 : Hid (S.at (w.alloc (.cells #[.int .i64 page, .int .i64 len, .bool write] 66)) p g n) := MemAt.alloc hm _
  have HO1 := Lib.hid (hown.alloc (.cells #[.int .i64 page, .int .i64 len, .bool write] 66))
  have hn1 := heap_alloc_new w (.cells #[.int .i64 page, .int .i64 len, .bool write] 66)
  have HG1 : Hid (Wk g pw w (w.alloc (.cells #[.int .i64 page, .int .i64 len, .bool write] 66))) := (Wk.refl g pw w).alloc (Nat.le_of_lt hw.lt) _
  have HW1 := Lib.hid w1
  clear hm hw hf hc hown hrow w1
  go_enter Try.func25, Try.ntmps25
  cases write
  · have b2 : (w.alloc (.cells #[.int .i64 page, .int .i64 len, .bool false] 66)).cell? ⟨w.heap.size, 2, none⟩ = some (.bool false) := cell_of_heap hn1 rfl
    obtain rfl : fl = 5 := hfl
    go_wp2_with fail
    generalize w.alloc (.cells #[.int .i64 page, .int .i64 len, .bool false] 66) = W1 at *
    go_loopw [17] (fun i wr => ∃ j : Nat, j ≤ len ∧ i = .int .i64 j ∧ (attK n root S page 5 f j).at wr p g n ∧ (∃ vU k' us, k' ≤ 1000 + 2 * j ∧ WorkAt wr pw p root t d h vA vU k' us) ∧ wr.ownsRow lo 66 3 vA al.length (cellsA al) ∧ Wk g pw w wr ∧ wr.heap[w.heap.size]? = some (.cells #[.int .i64 page, .int .i64 len, .bool false] 66 (0, 0))) (fun i _ => len - (intOf i).toNat)
    case atStart => exact ⟨0, Nat.zero_le _, rfl, HM1.out, ⟨_, _, _, by omega, HW1.out⟩, HO1.out, HG1.out, hn1⟩
    case round =>
      obtain ⟨j, hj, rfl, hM, ⟨vU3, k3, us3, hk3, hW⟩, hO, hG, hA⟩ := hrel
      have H3 := Lib.hid (⟨hM, hk3, hW, hO, hG, hA⟩ : _ ∧ _ ∧ _ ∧ _ ∧ _ ∧ _)
      by_cases hlt : j < len
      · have q0 : wr.cell? ⟨w.heap.size, 0, none⟩ = some (.int .i64 page) := cell_of_heap hA rfl
        have q1 := (World.cell?_of_block (a := ⟨bl, j, none⟩) (hG.low bl (by have := HPW.out; omega) HPW.out.2.2.2.2.2.1)).trans (HC.out j hlt)
        have i0 : (0 : Int) ≤ (j : Int) := by omega
        have i1 : (j : Int) < (len : Int) := by omega
        have HCAL : Hid (Calls Try.prog 38 #[.pointer (some ⟨pw, 0, none⟩), .int .i64 ((page : Int) + (j : Int)), .int .i64 (f j : Nat), .int .i64 5] wr fun e w' => e = .returned (.int .i64 0) ∧ (attK n root S page 5 f (j + 1)).at w' p g n ∧ (∃ vU' us', WorkAt w' pw p root t d h vA vU' (k3 + 2) us') ∧ Wk g pw wr w') := by
          have := sharePage_ok hM hW HPW.out.1 HPW.out.2.1 (by omega) (page + j) (f j) 5 (by omega) ((HF.out j hj).2 hlt)
          rw [show ((page + j : Nat) : Int) = (page : Int) + (j : Int) by omega] at this
          exact this
        clear hM hW hO hG hA
        generalize hfj : f j = fj at *
        go_wp2_with fail
        refine HCAL.out.mono ?_
        rintro e w5 ⟨rfl, hM5, ⟨vU5, us5, hW5⟩, hG5⟩
        have H5 := Lib.hid (⟨hM5, hW5, hG5⟩ : _ ∧ _ ∧ _)
        clear hM5 hW5 hG5
        go_wp2
        go_roundw
        case rel =>
          obtain ⟨hM, hk3, hW, hO, hG, hA⟩ := H3.out
          obtain ⟨hM5, hW5, hG5⟩ := H5.out
          have hAb : w.heap.size < wr.heap.size := (Array.getElem?_eq_some_iff.1 hA).1
          exact ⟨j + 1, by omega, by go_num, hM5, ⟨_, _, _, by omega, hW5⟩, own_wk hO hG5 HROW.out HPW.out.2.2.2.2.2.2.1, hG.trans hG5, (hG5.block _ hAb (by have := HPW.out; omega) (by have := HPW.out; omega) (fun C f e => by rw [hA] at e; simp at e)).trans hA⟩
        case measure => simp [intOf]; omega
      · obtain rfl : j = len := by omega
        have q0 : wr.cell? ⟨w.heap.size, 0, none⟩ = some (.int .i64 page) := cell_of_heap hA rfl
        have q1 : wr.cell? ⟨w.heap.size, 1, none⟩ = some (.int .i64 j) := cell_of_heap hA rfl
        have q2 : wr.cell? ⟨w.heap.size, 2, none⟩ = some (.bool false) := cell_of_heap hA rfl
        have u2 := hW.cAtts; have f2 := hW.fz 5
        clear hM hW hO hG hA
        go_wp2_with fail
        have HNB : Hid (vA.ownBlock ≠ some w.heap.size ∧ vA.ownBlock ≠ some pw) := ⟨fun e => by have := HROW.out _ e; have := HPW.out; omega, fun e => by have := HROW.out _ e; omega⟩
        have HBL : Hid (w.heap.size < wr.heap.size ∧ pw < wr.heap.size) := ⟨World.block_lt_of_cell? wr _ q0, World.block_lt_of_cell? wr _ u2⟩
        have a0 := cell_allocL (.cells #[.int .i64 page, .int .i64 j, .bool false] 66) q0
        have a1 := cell_allocL (.cells #[.int .i64 page, .int .i64 j, .bool false] 66) q1
        have a2 := cell_allocL (.cells #[.int .i64 page, .int .i64 j, .bool false] 66) q2
        have a3 := cell_allocL (.cells #[.int .i64 page, .int .i64 j, .bool false] 66) u2
        refine wp_region_held_drew (S := fun w' => w'.cell? ⟨w.heap.size, 0, none⟩ = some (.int .i64 page) ∧ w'.cell? ⟨w.heap.size, 1, none⟩ = some (.int .i64 j) ∧ w'.cell? ⟨w.heap.size, 2, none⟩ = some (.bool false)) (by kernel_rfl) ⟨q0, q1, q2⟩ (fun hHeld => ?_)
        change wpAnyH _ _ _ _ _ 13 (Array.replicate 13 false) _ _
        refine takeH 0 (.pointer (some ⟨pw, 0, none⟩)) (some 34) rfl (by kernel_rfl) (by kernel_rfl) (by kernel_rfl) (fun _ _ _ h => h) (fun oi h => by obtain rfl := Option.some.inj h; rfl) (fun oi h W hS => by obtain ⟨hS1, hS2, hS3⟩ := hS; obtain rfl := Option.some.inj h; go_simp) hHeld ?_
        simp only [Act.put, List.setIfInBounds_toArray, List.set_cons_zero, List.set_cons_succ]
        refine takeH 1 (.pointer (some ⟨pw, 0, none⟩)) (some 35) rfl (by kernel_rfl) (by kernel_rfl) (by kernel_rfl) (fun _ _ _ h => h) (fun oi h => by obtain rfl := Option.some.inj h; rfl) (fun oi h W hS => by obtain ⟨hS1, hS2, hS3⟩ := hS; obtain rfl := Option.some.inj h; go_simp) hHeld ?_
        simp only [Act.put, List.setIfInBounds_toArray, List.set_cons_zero, List.set_cons_succ]
        refine takeH 2 (.pointer (some ⟨pw, 0, none⟩)) (some 36) rfl (by kernel_rfl) (by kernel_rfl) (by kernel_rfl) (fun _ _ _ h => h) (fun oi h => by obtain rfl := Option.some.inj h; rfl) (fun oi h W hS => by obtain ⟨hS1, hS2, hS3⟩ := hS; obtain rfl := Option.some.inj h; go_simp) hHeld ?_
        simp only [Act.put, List.setIfInBounds_toArray, List.set_cons_zero, List.set_cons_succ]
        refine takeH 3 (.pointer (some ⟨pw, 1, none⟩)) (some 37) rfl (by kernel_rfl) (by kernel_rfl) (by kernel_rfl) (fun _ _ _ h => h) (fun oi h => by obtain rfl := Option.some.inj h; rfl) (fun oi h W hS => by obtain ⟨hS1, hS2, hS3⟩ := hS; obtain rfl := Option.some.inj h; go_simp) hHeld ?_
        simp only [Act.put, List.setIfInBounds_toArray, List.set_cons_zero, List.set_cons_succ]
        refine takeH 4 (.pointer (some ⟨pw, 5, none⟩)) (some 38) rfl (by kernel_rfl) (by kernel_rfl) (by kernel_rfl) (fun _ _ _ h => h) (fun oi h => by obtain rfl := Option.some.inj h; rfl) (fun oi h W hS => by obtain ⟨hS1, hS2, hS3⟩ := hS; obtain rfl := Option.some.inj h; go_simp) hHeld ?_
        simp only [Act.put, List.setIfInBounds_toArray, List.set_cons_zero, List.set_cons_succ]
        refine takeH 6 (.agg #[.int .i64 page, .int .i64 j, .bool false]) (some 40) rfl (by kernel_rfl) (by kernel_rfl) (by kernel_rfl) (fun _ _ _ h => h) (fun oi h => by obtain rfl := Option.some.inj h; rfl) (fun oi h W hS => by obtain ⟨hS1, hS2, hS3⟩ := hS; obtain rfl := Option.some.inj h; go_simp) hHeld ?_
        simp only [Act.put, List.setIfInBounds_toArray, List.set_cons_zero, List.set_cons_succ]
        refine wpAnyH_ready (rs := [5, 7]) (by kernel_rfl) (by simp) ?_
        refine AllReadyH.cons (i := 5) rfl (fun K hK => ?_) (AllReadyH.cons (i := 7) rfl (fun K hK => ?_) AllReadyH.nil)
        · go_simp
          refine hK.out _ _ ⟨q0, q1, q2⟩ (fun _ => ?_)
          clear hK K
          try simp only [Act.put, List.setIfInBounds_toArray, List.set_cons_zero, List.set_cons_succ]
          refine wpAnyH_ready (rs := [7]) (by kernel_rfl) (by simp) ?_
          refine AllReadyH.cons (i := 7) rfl (fun K hK => ?_) AllReadyH.nil
          go_simp
          refine hK.out _ _ ⟨a0, a1, a2⟩ (fun _ => ?_)
          clear hK K
          try simp only [Act.put, List.setIfInBounds_toArray, List.set_cons_zero, List.set_cons_succ]
          refine wpAnyH_ready (rs := [8]) (by kernel_rfl) (by simp) ?_
          refine AllReadyH.cons (i := 8) rfl (fun K hK => ?_) AllReadyH.nil
          refine step_append_lies _ (by rfl) _ _ _ (by rfl) lo 66 i0 _ 3 24 Try.underlying30 HI.out HZ0.out HZ1.out HZ2.out rfl (by omega) vA al.length (cellsA al) (by rfl) ((H3.out.2.2.2.1.alloc _).drew) ⟨wr.heap.size, 0, none⟩ 1 1 [.int .i64 page, .int .i64 j, .bool false] (by rfl) (by rfl) (World.news_of_block (cs := #[.int .i64 page, .int .i64 j, .bool false]) (t := 66) (fr := (0, 0)) (heap_alloc_new wr _)) (by simp [Value.oneCell']) (by omega) (by unfold maxLen; omega) (by omega) (by have := HPW.out; have := HBL.out; simp; omega) (wr.heap.size + 1) (by simp) ?_
          intro gg cap' w3 hown1 hgrow hat hlt3
          have e0 := (hgrow.cell_far ⟨w.heap.size, 0, none⟩ (by have := HBL.out; simp; omega) (Ne.symm HNB.out.1)).trans a0
          have e1 := (hgrow.cell_far ⟨w.heap.size, 1, none⟩ (by have := HBL.out; simp; omega) (Ne.symm HNB.out.1)).trans a1
          have e2 := (hgrow.cell_far ⟨w.heap.size, 2, none⟩ (by have := HBL.out; simp; omega) (Ne.symm HNB.out.1)).trans a2
          have e3 := (hgrow.cell_far ⟨pw, 5, none⟩ (by have := HBL.out; simp; omega) (Ne.symm HNB.out.2)).trans a3
          have e4 := (hgrow.frozen_far ⟨pw, 5, none⟩ (by have := HBL.out; simp; omega) (Ne.symm HNB.out.2)).trans ((World.frozen?_of_block (a := ⟨pw, 5, none⟩) (Below.heap_alloc wr _ pw HBL.out.2)).trans f2)
          have HOWN := Lib.hid hown1; have HGR := Lib.hid hgrow; have HAT := Lib.hid hat
          clear hown1 hgrow hat
          refine hK.out _ _ ⟨e0, e1, e2⟩ (fun hHeld => ?_)
          clear hK K
          change wpAnyH _ _ _ _ _ _ _ (Act.put _ (some 42) _) _
          simp only [Act.put, List.setIfInBounds_toArray, List.set_cons_zero, List.set_cons_succ]
          refine takeH 9 (.pointer (some ⟨pw, 0, none⟩)) (some 43) rfl (by kernel_rfl) (by kernel_rfl) (by kernel_rfl) (fun _ _ _ h => h) (fun oi h => by obtain rfl := Option.some.inj h; rfl) (fun oi h W hS => by obtain ⟨hS1, hS2, hS3⟩ := hS; obtain rfl := Option.some.inj h; go_simp) hHeld ?_
          simp only [Act.put, List.setIfInBounds_toArray, List.set_cons_zero, List.set_cons_succ]
          refine takeH 10 (.pointer (some ⟨pw, 1, none⟩)) (some 44) rfl (by kernel_rfl) (by kernel_rfl) (by kernel_rfl) (fun _ _ _ h => h) (fun oi h => by obtain rfl := Option.some.inj h; rfl) (fun oi h W hS => by obtain ⟨hS1, hS2, hS3⟩ := hS; obtain rfl := Option.some.inj h; go_simp) hHeld ?_
          simp only [Act.put, List.setIfInBounds_toArray, List.set_cons_zero, List.set_cons_succ]
          refine takeH 11 (.pointer (some ⟨pw, 5, none⟩)) (some 45) rfl (by kernel_rfl) (by kernel_rfl) (by kernel_rfl) (fun _ _ _ h => h) (fun oi h => by obtain rfl := Option.some.inj h; rfl) (fun oi h W hS => by obtain ⟨hS1, hS2, hS3⟩ := hS; obtain rfl := Option.some.inj h; go_simp) hHeld ?_
          simp only [Act.put, List.setIfInBounds_toArray, List.set_cons_zero, List.set_cons_succ]
          refine wpAnyH_ready (rs := [12]) (by kernel_rfl) (by simp) ?_
          refine AllReadyH.cons (i := 12) rfl (fun K hK => ?_) AllReadyH.nil
          go_simp
          have hne : w.heap.size ≠ pw := by have := HPW.out; omega
          refine hK.out _ _ ⟨cell_far e0 hne, cell_far e1 hne, cell_far e2 hne⟩ (fun _ => ?_)
          clear hK K
          refine wpAnyH_done (by kernel_rfl) ?_ _
          obtain ⟨hM, hk3, hW, hO, hG, hA⟩ := H3.out
          have hv : gg ≠ pw := by
            rcases HAT.out with e | e
            · have := HROW.out gg e; omega
            · have := HBL.out; omega
          obtain ⟨x1, x2, x3, x4⟩ := att_app hM hW hO HROW.out HPW.out.1 HPW.out.2.1 HPW.out.2.2.2.1 HPW.out.2.2.2.2.2.2.1 HPW.out.2.2.2.2.2.2.2 HOWN.out HGR.out (fun i e => by simp [Value.ownBlock] at e; omega)
          generalize w3.setCell ⟨pw, 5, none⟩ (.slice (some ⟨gg, 0, none⟩) (al.length + 1) cap') = W4 at *
          have u5 := x2.cAtts
          have hcs : cellsA al ++ [.int .i64 page, .int .i64 j, .bool false] = cellsA (al ++ [(⟨page, by omega⟩, ⟨j, by omega⟩, false)]) := by unfold cellsA; rw [List.flatMap_append]; rfl
          rw [hcs] at x3
          obtain ⟨hH, hgl⟩ := holds_of_own x3
          have hds : (al ++ [((⟨page, by omega⟩ : Fin 10001), (⟨j, by omega⟩ : Fin 10001), false)]).toArray.size = al.length + 1 := by simp
          have HSORT := Lib.hid (sortA_any gg cap' _ W4 hH hgl (by rw [hds]; omega))
          rw [hds] at HSORT
          have HX := Lib.hid (⟨x1, x2, x3, x4, hG, hv⟩ : _ ∧ _ ∧ _ ∧ _ ∧ _ ∧ _)
          clear hM hk3 hW hO hG hA x1 x2 x3 x4 hH hgl hcs e0 e1 e2 e3 e4 a0 a1 a2 a3 q0 q1 q2 u2 f2 hHeld
          go_wp2_with fail
          refine HSORT.out.mono ?_
          rintro e w6 ⟨rfl, ⟨d', hperm, hH'⟩, hG6⟩
          have H6 := Lib.hid (⟨hperm, hH', hG6⟩ : _ ∧ _ ∧ _)
          clear hperm hH' hG6
          go_wp2
          go_ret
          obtain ⟨x1, x2, x3, x4, hG, hv⟩ := HX.out
          obtain ⟨hperm, hH', hG6⟩ := H6.out
          obtain ⟨y1, y2, y3, y4⟩ := att_sort x1 x2 x3 hv HPW.out.2.2.2.1 HPW.out.2.2.2.2.2.2.1 HPW.out.2.2.2.2.2.2.2 hG6
          have hds' : d'.size = al.length + 1 := hperm.1.trans hds
          have hgc : gg < pw ∨ w.heap.size ≤ gg := by
            rcases HAT.out with e | e
            · exact .inl (HROW.out gg e)
            · exact .inr (by have := hG.size; omega)
          refine ⟨rfl, y1, ⟨gg, cap', _, _, _, y2, d'.toList, ?_, atts_of_holds hH' hds' (by omega) (by have := hG6.size; have := x3.lt gg rfl; omega), y4, hgc⟩, ((Wa.of_wk hG HPW.out.2.2.2.1).trans x4).trans y3⟩
          have hp := hperm.2.2
          rw [ext_all d' _ hds', ext_all _ _ hds] at hp
          exact hp
        · go_simp
          refine hK.out _ _ ⟨a0, a1, a2⟩ (fun _ => ?_)
          clear hK K
          try simp only [Act.put, List.setIfInBounds_toArray, List.set_cons_zero, List.set_cons_succ]
          refine wpAnyH_ready (rs := [5]) (by kernel_rfl) (by simp) ?_
          refine AllReadyH.cons (i := 5) rfl (fun K hK => ?_) AllReadyH.nil
          go_simp
          refine hK.out _ _ ⟨a0, a1, a2⟩ (fun _ => ?_)
          clear hK K
          try simp only [Act.put, List.setIfInBounds_toArray, List.set_cons_zero, List.set_cons_succ]
          refine wpAnyH_ready (rs := [8]) (by kernel_rfl) (by simp) ?_
          refine AllReadyH.cons (i := 8) rfl (fun K hK => ?_) AllReadyH.nil
          refine step_append_lies _ (by rfl) _ _ _ (by rfl) lo 66 i0 _ 3 24 Try.underlying30 HI.out HZ0.out HZ1.out HZ2.out rfl (by omega) vA al.length (cellsA al) (by rfl) ((H3.out.2.2.2.1.alloc _).drew) ⟨wr.heap.size, 0, none⟩ 1 1 [.int .i64 page, .int .i64 j, .bool false] (by rfl) (by rfl) (World.news_of_block (cs := #[.int .i64 page, .int .i64 j, .bool false]) (t := 66) (fr := (0, 0)) (heap_alloc_new wr _)) (by simp [Value.oneCell']) (by omega) (by unfold maxLen; omega) (by omega) (by have := HPW.out; have := HBL.out; simp; omega) (wr.heap.size + 1) (by simp) ?_
          intro gg cap' w3 hown1 hgrow hat hlt3
          have e0 := (hgrow.cell_far ⟨w.heap.size, 0, none⟩ (by have := HBL.out; simp; omega) (Ne.symm HNB.out.1)).trans a0
          have e1 := (hgrow.cell_far ⟨w.heap.size, 1, none⟩ (by have := HBL.out; simp; omega) (Ne.symm HNB.out.1)).trans a1
          have e2 := (hgrow.cell_far ⟨w.heap.size, 2, none⟩ (by have := HBL.out; simp; omega) (Ne.symm HNB.out.1)).trans a2
          have e3 := (hgrow.cell_far ⟨pw, 5, none⟩ (by have := HBL.out; simp; omega) (Ne.symm HNB.out.2)).trans a3
          have e4 := (hgrow.frozen_far ⟨pw, 5, none⟩ (by have := HBL.out; simp; omega) (Ne.symm HNB.out.2)).trans ((World.frozen?_of_block (a := ⟨pw, 5, none⟩) (Below.heap_alloc wr _ pw HBL.out.2)).trans f2)
          have HOWN := Lib.hid hown1; have HGR := Lib.hid hgrow; have HAT := Lib.hid hat
          clear hown1 hgrow hat
          refine hK.out _ _ ⟨e0, e1, e2⟩ (fun hHeld => ?_)
          clear hK K
          change wpAnyH _ _ _ _ _ _ _ (Act.put _ (some 42) _) _
          simp only [Act.put, List.setIfInBounds_toArray, List.set_cons_zero, List.set_cons_succ]
          refine takeH 9 (.pointer (some ⟨pw, 0, none⟩)) (some 43) rfl (by kernel_rfl) (by kernel_rfl) (by kernel_rfl) (fun _ _ _ h => h) (fun oi h => by obtain rfl := Option.some.inj h; rfl) (fun oi h W hS => by obtain ⟨hS1, hS2, hS3⟩ := hS; obtain rfl := Option.some.inj h; go_simp) hHeld ?_
          simp only [Act.put, List.setIfInBounds_toArray, List.set_cons_zero, List.set_cons_succ]
          refine takeH 10 (.pointer (some ⟨pw, 1, none⟩)) (some 44) rfl (by kernel_rfl) (by kernel_rfl) (by kernel_rfl) (fun _ _ _ h => h) (fun oi h => by obtain rfl := Option.some.inj h; rfl) (fun oi h W hS => by obtain ⟨hS1, hS2, hS3⟩ := hS; obtain rfl := Option.some.inj h; go_simp) hHeld ?_
          simp only [Act.put, List.setIfInBounds_toArray, List.set_cons_zero, List.set_cons_succ]
          refine takeH 11 (.pointer (some ⟨pw, 5, none⟩)) (some 45) rfl (by kernel_rfl) (by kernel_rfl) (by kernel_rfl) (fun _ _ _ h => h) (fun oi h => by obtain rfl := Option.some.inj h; rfl) (fun oi h W hS => by obtain ⟨hS1, hS2, hS3⟩ := hS; obtain rfl := Option.some.inj h; go_simp) hHeld ?_
          simp only [Act.put, List.setIfInBounds_toArray, List.set_cons_zero, List.set_cons_succ]
          refine wpAnyH_ready (rs := [12]) (by kernel_rfl) (by simp) ?_
          refine AllReadyH.cons (i := 12) rfl (fun K hK => ?_) AllReadyH.nil
          go_simp
          have hne : w.heap.size ≠ pw := by have := HPW.out; omega
          refine hK.out _ _ ⟨cell_far e0 hne, cell_far e1 hne, cell_far e2 hne⟩ (fun _ => ?_)
          clear hK K
          refine wpAnyH_done (by kernel_rfl) ?_ _
          obtain ⟨hM, hk3, hW, hO, hG, hA⟩ := H3.out
          have hv : gg ≠ pw := by
            rcases HAT.out with e | e
            · have := HROW.out gg e; omega
            · have := HBL.out; omega
          obtain ⟨x1, x2, x3, x4⟩ := att_app hM hW hO HROW.out HPW.out.1 HPW.out.2.1 HPW.out.2.2.2.1 HPW.out.2.2.2.2.2.2.1 HPW.out.2.2.2.2.2.2.2 HOWN.out HGR.out (fun i e => by simp [Value.ownBlock] at e; omega)
          generalize w3.setCell ⟨pw, 5, none⟩ (.slice (some ⟨gg, 0, none⟩) (al.length + 1) cap') = W4 at *
          have u5 := x2.cAtts
          have hcs : cellsA al ++ [.int .i64 page, .int .i64 j, .bool false] = cellsA (al ++ [(⟨page, by omega⟩, ⟨j, by omega⟩, false)]) := by unfold cellsA; rw [List.flatMap_append]; rfl
          rw [hcs] at x3
          obtain ⟨hH, hgl⟩ := holds_of_own x3
          have hds : (al ++ [((⟨page, by omega⟩ : Fin 10001), (⟨j, by omega⟩ : Fin 10001), false)]).toArray.size = al.length + 1 := by simp
          have HSORT := Lib.hid (sortA_any gg cap' _ W4 hH hgl (by rw [hds]; omega))
          rw [hds] at HSORT
          have HX := Lib.hid (⟨x1, x2, x3, x4, hG, hv⟩ : _ ∧ _ ∧ _ ∧ _ ∧ _ ∧ _)
          clear hM hk3 hW hO hG hA x1 x2 x3 x4 hH hgl hcs e0 e1 e2 e3 e4 a0 a1 a2 a3 q0 q1 q2 u2 f2 hHeld
          go_wp2_with fail
          refine HSORT.out.mono ?_
          rintro e w6 ⟨rfl, ⟨d', hperm, hH'⟩, hG6⟩
          have H6 := Lib.hid (⟨hperm, hH', hG6⟩ : _ ∧ _ ∧ _)
          clear hperm hH' hG6
          go_wp2
          go_ret
          obtain ⟨x1, x2, x3, x4, hG, hv⟩ := HX.out
          obtain ⟨hperm, hH', hG6⟩ := H6.out
          obtain ⟨y1, y2, y3, y4⟩ := att_sort x1 x2 x3 hv HPW.out.2.2.2.1 HPW.out.2.2.2.2.2.2.1 HPW.out.2.2.2.2.2.2.2 hG6
          have hds' : d'.size = al.length + 1 := hperm.1.trans hds
          have hgc : gg < pw ∨ w.heap.size ≤ gg := by
            rcases HAT.out with e | e
            · exact .inl (HROW.out gg e)
            · exact .inr (by have := hG.size; omega)
          refine ⟨rfl, y1, ⟨gg, cap', _, _, _, y2, d'.toList, ?_, atts_of_holds hH' hds' (by omega) (by have := hG6.size; have := x3.lt gg rfl; omega), y4, hgc⟩, ((Wa.of_wk hG HPW.out.2.2.2.1).trans x4).trans y3⟩
          have hp := hperm.2.2
          rw [ext_all d' _ hds', ext_all _ _ hds] at hp
          exact hp
  · have b2 : (w.alloc (.cells #[.int .i64 page, .int .i64 len, .bool true] 66)).cell? ⟨w.heap.size, 2, none⟩ = some (.bool true) := cell_of_heap hn1 rfl
    obtain rfl : fl = 7 := hfl
    go_wp2_with fail
    generalize w.alloc (.cells #[.int .i64 page, .int .i64 len, .bool true] 66) = W1 at *
    go_loopw [17] (fun i wr => ∃ j : Nat, j ≤ len ∧ i = .int .i64 j ∧ (attK n root S page 7 f j).at wr p g n ∧ (∃ vU k' us, k' ≤ 1000 + 2 * j ∧ WorkAt wr pw p root t d h vA vU k' us) ∧ wr.ownsRow lo 66 3 vA al.length (cellsA al) ∧ Wk g pw w wr ∧ wr.heap[w.heap.size]? = some (.cells #[.int .i64 page, .int .i64 len, .bool true] 66 (0, 0))) (fun i _ => len - (intOf i).toNat)
    case atStart => exact ⟨0, Nat.zero_le _, rfl, HM1.out, ⟨_, _, _, by omega, HW1.out⟩, HO1.out, HG1.out, hn1⟩
    case round =>
      obtain ⟨j, hj, rfl, hM, ⟨vU3, k3, us3, hk3, hW⟩, hO, hG, hA⟩ := hrel
      have H3 := Lib.hid (⟨hM, hk3, hW, hO, hG, hA⟩ : _ ∧ _ ∧ _ ∧ _ ∧ _ ∧ _)
      by_cases hlt : j < len
      · have q0 : wr.cell? ⟨w.heap.size, 0, none⟩ = some (.int .i64 page) := cell_of_heap hA rfl
        have q1 := (World.cell?_of_block (a := ⟨bl, j, none⟩) (hG.low bl (by have := HPW.out; omega) HPW.out.2.2.2.2.2.1)).trans (HC.out j hlt)
        have i0 : (0 : Int) ≤ (j : Int) := by omega
        have i1 : (j : Int) < (len : Int) := by omega
        have HCAL : Hid (Calls Try.prog 38 #[.pointer (some ⟨pw, 0, none⟩), .int .i64 ((page : Int) + (j : Int)), .int .i64 (f j : Nat), .int .i64 7] wr fun e w' => e = .returned (.int .i64 0) ∧ (attK n root S page 7 f (j + 1)).at w' p g n ∧ (∃ vU' us', WorkAt w' pw p root t d h vA vU' (k3 + 2) us') ∧ Wk g pw wr w') := by
          have := sharePage_ok hM hW HPW.out.1 HPW.out.2.1 (by omega) (page + j) (f j) 7 (by omega) ((HF.out j hj).2 hlt)
          rw [show ((page + j : Nat) : Int) = (page : Int) + (j : Int) by omega] at this
          exact this
        clear hM hW hO hG hA
        generalize hfj : f j = fj at *
        go_wp2_with fail
        refine HCAL.out.mono ?_
        rintro e w5 ⟨rfl, hM5, ⟨vU5, us5, hW5⟩, hG5⟩
        have H5 := Lib.hid (⟨hM5, hW5, hG5⟩ : _ ∧ _ ∧ _)
        clear hM5 hW5 hG5
        go_wp2
        go_roundw
        case rel =>
          obtain ⟨hM, hk3, hW, hO, hG, hA⟩ := H3.out
          obtain ⟨hM5, hW5, hG5⟩ := H5.out
          have hAb : w.heap.size < wr.heap.size := (Array.getElem?_eq_some_iff.1 hA).1
          exact ⟨j + 1, by omega, by go_num, hM5, ⟨_, _, _, by omega, hW5⟩, own_wk hO hG5 HROW.out HPW.out.2.2.2.2.2.2.1, hG.trans hG5, (hG5.block _ hAb (by have := HPW.out; omega) (by have := HPW.out; omega) (fun C f e => by rw [hA] at e; simp at e)).trans hA⟩
        case measure => simp [intOf]; omega
      · obtain rfl : j = len := by omega
        have q0 : wr.cell? ⟨w.heap.size, 0, none⟩ = some (.int .i64 page) := cell_of_heap hA rfl
        have q1 : wr.cell? ⟨w.heap.size, 1, none⟩ = some (.int .i64 j) := cell_of_heap hA rfl
        have q2 : wr.cell? ⟨w.heap.size, 2, none⟩ = some (.bool true) := cell_of_heap hA rfl
        have u2 := hW.cAtts; have f2 := hW.fz 5
        clear hM hW hO hG hA
        go_wp2_with fail
        have HNB : Hid (vA.ownBlock ≠ some w.heap.size ∧ vA.ownBlock ≠ some pw) := ⟨fun e => by have := HROW.out _ e; have := HPW.out; omega, fun e => by have := HROW.out _ e; omega⟩
        have HBL : Hid (w.heap.size < wr.heap.size ∧ pw < wr.heap.size) := ⟨World.block_lt_of_cell? wr _ q0, World.block_lt_of_cell? wr _ u2⟩
        have a0 := cell_allocL (.cells #[.int .i64 page, .int .i64 j, .bool true] 66) q0
        have a1 := cell_allocL (.cells #[.int .i64 page, .int .i64 j, .bool true] 66) q1
        have a2 := cell_allocL (.cells #[.int .i64 page, .int .i64 j, .bool true] 66) q2
        have a3 := cell_allocL (.cells #[.int .i64 page, .int .i64 j, .bool true] 66) u2
        refine wp_region_held_drew (S := fun w' => w'.cell? ⟨w.heap.size, 0, none⟩ = some (.int .i64 page) ∧ w'.cell? ⟨w.heap.size, 1, none⟩ = some (.int .i64 j) ∧ w'.cell? ⟨w.heap.size, 2, none⟩ = some (.bool true)) (by kernel_rfl) ⟨q0, q1, q2⟩ (fun hHeld => ?_)
        change wpAnyH _ _ _ _ _ 13 (Array.replicate 13 false) _ _
        refine takeH 0 (.pointer (some ⟨pw, 0, none⟩)) (some 34) rfl (by kernel_rfl) (by kernel_rfl) (by kernel_rfl) (fun _ _ _ h => h) (fun oi h => by obtain rfl := Option.some.inj h; rfl) (fun oi h W hS => by obtain ⟨hS1, hS2, hS3⟩ := hS; obtain rfl := Option.some.inj h; go_simp) hHeld ?_
        simp only [Act.put, List.setIfInBounds_toArray, List.set_cons_zero, List.set_cons_succ]
        refine takeH 1 (.pointer (some ⟨pw, 0, none⟩)) (some 35) rfl (by kernel_rfl) (by kernel_rfl) (by kernel_rfl) (fun _ _ _ h => h) (fun oi h => by obtain rfl := Option.some.inj h; rfl) (fun oi h W hS => by obtain ⟨hS1, hS2, hS3⟩ := hS; obtain rfl := Option.some.inj h; go_simp) hHeld ?_
        simp only [Act.put, List.setIfInBounds_toArray, List.set_cons_zero, List.set_cons_succ]
        refine takeH 2 (.pointer (some ⟨pw, 0, none⟩)) (some 36) rfl (by kernel_rfl) (by kernel_rfl) (by kernel_rfl) (fun _ _ _ h => h) (fun oi h => by obtain rfl := Option.some.inj h; rfl) (fun oi h W hS => by obtain ⟨hS1, hS2, hS3⟩ := hS; obtain rfl := Option.some.inj h; go_simp) hHeld ?_
        simp only [Act.put, List.setIfInBounds_toArray, List.set_cons_zero, List.set_cons_succ]
        refine takeH 3 (.pointer (some ⟨pw, 1, none⟩)) (some 37) rfl (by kernel_rfl) (by kernel_rfl) (by kernel_rfl) (fun _ _ _ h => h) (fun oi h => by obtain rfl := Option.some.inj h; rfl) (fun oi h W hS => by obtain ⟨hS1, hS2, hS3⟩ := hS; obtain rfl := Option.some.inj h; go_simp) hHeld ?_
        simp only [Act.put, List.setIfInBounds_toArray, List.set_cons_zero, List.set_cons_succ]
        refine takeH 4 (.pointer (some ⟨pw, 5, none⟩)) (some 38) rfl (by kernel_rfl) (by kernel_rfl) (by kernel_rfl) (fun _ _ _ h => h) (fun oi h => by obtain rfl := Option.some.inj h; rfl) (fun oi h W hS => by obtain ⟨hS1, hS2, hS3⟩ := hS; obtain rfl := Option.some.inj h; go_simp) hHeld ?_
        simp only [Act.put, List.setIfInBounds_toArray, List.set_cons_zero, List.set_cons_succ]
        refine takeH 6 (.agg #[.int .i64 page, .int .i64 j, .bool true]) (some 40) rfl (by kernel_rfl) (by kernel_rfl) (by kernel_rfl) (fun _ _ _ h => h) (fun oi h => by obtain rfl := Option.some.inj h; rfl) (fun oi h W hS => by obtain ⟨hS1, hS2, hS3⟩ := hS; obtain rfl := Option.some.inj h; go_simp) hHeld ?_
        simp only [Act.put, List.setIfInBounds_toArray, List.set_cons_zero, List.set_cons_succ]
        refine wpAnyH_ready (rs := [5, 7]) (by kernel_rfl) (by simp) ?_
        refine AllReadyH.cons (i := 5) rfl (fun K hK => ?_) (AllReadyH.cons (i := 7) rfl (fun K hK => ?_) AllReadyH.nil)
        · go_simp
          refine hK.out _ _ ⟨q0, q1, q2⟩ (fun _ => ?_)
          clear hK K
          try simp only [Act.put, List.setIfInBounds_toArray, List.set_cons_zero, List.set_cons_succ]
          refine wpAnyH_ready (rs := [7]) (by kernel_rfl) (by simp) ?_
          refine AllReadyH.cons (i := 7) rfl (fun K hK => ?_) AllReadyH.nil
          go_simp
          refine hK.out _ _ ⟨a0, a1, a2⟩ (fun _ => ?_)
          clear hK K
          try simp only [Act.put, List.setIfInBounds_toArray, List.set_cons_zero, List.set_cons_succ]
          refine wpAnyH_ready (rs := [8]) (by kernel_rfl) (by simp) ?_
          refine AllReadyH.cons (i := 8) rfl (fun K hK => ?_) AllReadyH.nil
          refine step_append_lies _ (by rfl) _ _ _ (by rfl) lo 66 i0 _ 3 24 Try.underlying30 HI.out HZ0.out HZ1.out HZ2.out rfl (by omega) vA al.length (cellsA al) (by rfl) ((H3.out.2.2.2.1.alloc _).drew) ⟨wr.heap.size, 0, none⟩ 1 1 [.int .i64 page, .int .i64 j, .bool true] (by rfl) (by rfl) (World.news_of_block (cs := #[.int .i64 page, .int .i64 j, .bool true]) (t := 66) (fr := (0, 0)) (heap_alloc_new wr _)) (by simp [Value.oneCell']) (by omega) (by unfold maxLen; omega) (by omega) (by have := HPW.out; have := HBL.out; simp; omega) (wr.heap.size + 1) (by simp) ?_
          intro gg cap' w3 hown1 hgrow hat hlt3
          have e0 := (hgrow.cell_far ⟨w.heap.size, 0, none⟩ (by have := HBL.out; simp; omega) (Ne.symm HNB.out.1)).trans a0
          have e1 := (hgrow.cell_far ⟨w.heap.size, 1, none⟩ (by have := HBL.out; simp; omega) (Ne.symm HNB.out.1)).trans a1
          have e2 := (hgrow.cell_far ⟨w.heap.size, 2, none⟩ (by have := HBL.out; simp; omega) (Ne.symm HNB.out.1)).trans a2
          have e3 := (hgrow.cell_far ⟨pw, 5, none⟩ (by have := HBL.out; simp; omega) (Ne.symm HNB.out.2)).trans a3
          have e4 := (hgrow.frozen_far ⟨pw, 5, none⟩ (by have := HBL.out; simp; omega) (Ne.symm HNB.out.2)).trans ((World.frozen?_of_block (a := ⟨pw, 5, none⟩) (Below.heap_alloc wr _ pw HBL.out.2)).trans f2)
          have HOWN := Lib.hid hown1; have HGR := Lib.hid hgrow; have HAT := Lib.hid hat
          clear hown1 hgrow hat
          refine hK.out _ _ ⟨e0, e1, e2⟩ (fun hHeld => ?_)
          clear hK K
          change wpAnyH _ _ _ _ _ _ _ (Act.put _ (some 42) _) _
          simp only [Act.put, List.setIfInBounds_toArray, List.set_cons_zero, List.set_cons_succ]
          refine takeH 9 (.pointer (some ⟨pw, 0, none⟩)) (some 43) rfl (by kernel_rfl) (by kernel_rfl) (by kernel_rfl) (fun _ _ _ h => h) (fun oi h => by obtain rfl := Option.some.inj h; rfl) (fun oi h W hS => by obtain ⟨hS1, hS2, hS3⟩ := hS; obtain rfl := Option.some.inj h; go_simp) hHeld ?_
          simp only [Act.put, List.setIfInBounds_toArray, List.set_cons_zero, List.set_cons_succ]
          refine takeH 10 (.pointer (some ⟨pw, 1, none⟩)) (some 44) rfl (by kernel_rfl) (by kernel_rfl) (by kernel_rfl) (fun _ _ _ h => h) (fun oi h => by obtain rfl := Option.some.inj h; rfl) (fun oi h W hS => by obtain ⟨hS1, hS2, hS3⟩ := hS; obtain rfl := Option.some.inj h; go_simp) hHeld ?_
          simp only [Act.put, List.setIfInBounds_toArray, List.set_cons_zero, List.set_cons_succ]
          refine takeH 11 (.pointer (some ⟨pw, 5, none⟩)) (some 45) rfl (by kernel_rfl) (by kernel_rfl) (by kernel_rfl) (fun _ _ _ h => h) (fun oi h => by obtain rfl := Option.some.inj h; rfl) (fun oi h W hS => by obtain ⟨hS1, hS2, hS3⟩ := hS; obtain rfl := Option.some.inj h; go_simp) hHeld ?_
          simp only [Act.put, List.setIfInBounds_toArray, List.set_cons_zero, List.set_cons_succ]
          refine wpAnyH_ready (rs := [12]) (by kernel_rfl) (by simp) ?_
          refine AllReadyH.cons (i := 12) rfl (fun K hK => ?_) AllReadyH.nil
          go_simp
          have hne : w.heap.size ≠ pw := by have := HPW.out; omega
          refine hK.out _ _ ⟨cell_far e0 hne, cell_far e1 hne, cell_far e2 hne⟩ (fun _ => ?_)
          clear hK K
          refine wpAnyH_done (by kernel_rfl) ?_ _
          obtain ⟨hM, hk3, hW, hO, hG, hA⟩ := H3.out
          have hv : gg ≠ pw := by
            rcases HAT.out with e | e
            · have := HROW.out gg e; omega
            · have := HBL.out; omega
          obtain ⟨x1, x2, x3, x4⟩ := att_app hM hW hO HROW.out HPW.out.1 HPW.out.2.1 HPW.out.2.2.2.1 HPW.out.2.2.2.2.2.2.1 HPW.out.2.2.2.2.2.2.2 HOWN.out HGR.out (fun i e => by simp [Value.ownBlock] at e; omega)
          generalize w3.setCell ⟨pw, 5, none⟩ (.slice (some ⟨gg, 0, none⟩) (al.length + 1) cap') = W4 at *
          have u5 := x2.cAtts
          have hcs : cellsA al ++ [.int .i64 page, .int .i64 j, .bool true] = cellsA (al ++ [(⟨page, by omega⟩, ⟨j, by omega⟩, true)]) := by unfold cellsA; rw [List.flatMap_append]; rfl
          rw [hcs] at x3
          obtain ⟨hH, hgl⟩ := holds_of_own x3
          have hds : (al ++ [((⟨page, by omega⟩ : Fin 10001), (⟨j, by omega⟩ : Fin 10001), true)]).toArray.size = al.length + 1 := by simp
          have HSORT := Lib.hid (sortA_any gg cap' _ W4 hH hgl (by rw [hds]; omega))
          rw [hds] at HSORT
          have HX := Lib.hid (⟨x1, x2, x3, x4, hG, hv⟩ : _ ∧ _ ∧ _ ∧ _ ∧ _ ∧ _)
          clear hM hk3 hW hO hG hA x1 x2 x3 x4 hH hgl hcs e0 e1 e2 e3 e4 a0 a1 a2 a3 q0 q1 q2 u2 f2 hHeld
          go_wp2_with fail
          refine HSORT.out.mono ?_
          rintro e w6 ⟨rfl, ⟨d', hperm, hH'⟩, hG6⟩
          have H6 := Lib.hid (⟨hperm, hH', hG6⟩ : _ ∧ _ ∧ _)
          clear hperm hH' hG6
          go_wp2
          go_ret
          obtain ⟨x1, x2, x3, x4, hG, hv⟩ := HX.out
          obtain ⟨hperm, hH', hG6⟩ := H6.out
          obtain ⟨y1, y2, y3, y4⟩ := att_sort x1 x2 x3 hv HPW.out.2.2.2.1 HPW.out.2.2.2.2.2.2.1 HPW.out.2.2.2.2.2.2.2 hG6
          have hds' : d'.size = al.length + 1 := hperm.1.trans hds
          have hgc : gg < pw ∨ w.heap.size ≤ gg := by
            rcases HAT.out with e | e
            · exact .inl (HROW.out gg e)
            · exact .inr (by have := hG.size; omega)
          refine ⟨rfl, y1, ⟨gg, cap', _, _, _, y2, d'.toList, ?_, atts_of_holds hH' hds' (by omega) (by have := hG6.size; have := x3.lt gg rfl; omega), y4, hgc⟩, ((Wa.of_wk hG HPW.out.2.2.2.1).trans x4).trans y3⟩
          have hp := hperm.2.2
          rw [ext_all d' _ hds', ext_all _ _ hds] at hp
          exact hp
        · go_simp
          refine hK.out _ _ ⟨a0, a1, a2⟩ (fun _ => ?_)
          clear hK K
          try simp only [Act.put, List.setIfInBounds_toArray, List.set_cons_zero, List.set_cons_succ]
          refine wpAnyH_ready (rs := [5]) (by kernel_rfl) (by simp) ?_
          refine AllReadyH.cons (i := 5) rfl (fun K hK => ?_) AllReadyH.nil
          go_simp
          refine hK.out _ _ ⟨a0, a1, a2⟩ (fun _ => ?_)
          clear hK K
          try simp only [Act.put, List.setIfInBounds_toArray, List.set_cons_zero, List.set_cons_succ]
          refine wpAnyH_ready (rs := [8]) (by kernel_rfl) (by simp) ?_
          refine AllReadyH.cons (i := 8) rfl (fun K hK => ?_) AllReadyH.nil
          refine step_append_lies _ (by rfl) _ _ _ (by rfl) lo 66 i0 _ 3 24 Try.underlying30 HI.out HZ0.out HZ1.out HZ2.out rfl (by omega) vA al.length (cellsA al) (by rfl) ((H3.out.2.2.2.1.alloc _).drew) ⟨wr.heap.size, 0, none⟩ 1 1 [.int .i64 page, .int .i64 j, .bool true] (by rfl) (by rfl) (World.news_of_block (cs := #[.int .i64 page, .int .i64 j, .bool true]) (t := 66) (fr := (0, 0)) (heap_alloc_new wr _)) (by simp [Value.oneCell']) (by omega) (by unfold maxLen; omega) (by omega) (by have := HPW.out; have := HBL.out; simp; omega) (wr.heap.size + 1) (by simp) ?_
          intro gg cap' w3 hown1 hgrow hat hlt3
          have e0 := (hgrow.cell_far ⟨w.heap.size, 0, none⟩ (by have := HBL.out; simp; omega) (Ne.symm HNB.out.1)).trans a0
          have e1 := (hgrow.cell_far ⟨w.heap.size, 1, none⟩ (by have := HBL.out; simp; omega) (Ne.symm HNB.out.1)).trans a1
          have e2 := (hgrow.cell_far ⟨w.heap.size, 2, none⟩ (by have := HBL.out; simp; omega) (Ne.symm HNB.out.1)).trans a2
          have e3 := (hgrow.cell_far ⟨pw, 5, none⟩ (by have := HBL.out; simp; omega) (Ne.symm HNB.out.2)).trans a3
          have e4 := (hgrow.frozen_far ⟨pw, 5, none⟩ (by have := HBL.out; simp; omega) (Ne.symm HNB.out.2)).trans ((World.frozen?_of_block (a := ⟨pw, 5, none⟩) (Below.heap_alloc wr _ pw HBL.out.2)).trans f2)
          have HOWN := Lib.hid hown1; have HGR := Lib.hid hgrow; have HAT := Lib.hid hat
          clear hown1 hgrow hat
          refine hK.out _ _ ⟨e0, e1, e2⟩ (fun hHeld => ?_)
          clear hK K
          change wpAnyH _ _ _ _ _ _ _ (Act.put _ (some 42) _) _
          simp only [Act.put, List.setIfInBounds_toArray, List.set_cons_zero, List.set_cons_succ]
          refine takeH 9 (.pointer (some ⟨pw, 0, none⟩)) (some 43) rfl (by kernel_rfl) (by kernel_rfl) (by kernel_rfl) (fun _ _ _ h => h) (fun oi h => by obtain rfl := Option.some.inj h; rfl) (fun oi h W hS => by obtain ⟨hS1, hS2, hS3⟩ := hS; obtain rfl := Option.some.inj h; go_simp) hHeld ?_
          simp only [Act.put, List.setIfInBounds_toArray, List.set_cons_zero, List.set_cons_succ]
          refine takeH 10 (.pointer (some ⟨pw, 1, none⟩)) (some 44) rfl (by kernel_rfl) (by kernel_rfl) (by kernel_rfl) (fun _ _ _ h => h) (fun oi h => by obtain rfl := Option.some.inj h; rfl) (fun oi h W hS => by obtain ⟨hS1, hS2, hS3⟩ := hS; obtain rfl := Option.some.inj h; go_simp) hHeld ?_
          simp only [Act.put, List.setIfInBounds_toArray, List.set_cons_zero, List.set_cons_succ]
          refine takeH 11 (.pointer (some ⟨pw, 5, none⟩)) (some 45) rfl (by kernel_rfl) (by kernel_rfl) (by kernel_rfl) (fun _ _ _ h => h) (fun oi h => by obtain rfl := Option.some.inj h; rfl) (fun oi h W hS => by obtain ⟨hS1, hS2, hS3⟩ := hS; obtain rfl := Option.some.inj h; go_simp) hHeld ?_
          simp only [Act.put, List.setIfInBounds_toArray, List.set_cons_zero, List.set_cons_succ]
          refine wpAnyH_ready (rs := [12]) (by kernel_rfl) (by simp) ?_
          refine AllReadyH.cons (i := 12) rfl (fun K hK => ?_) AllReadyH.nil
          go_simp
          have hne : w.heap.size ≠ pw := by have := HPW.out; omega
          refine hK.out _ _ ⟨cell_far e0 hne, cell_far e1 hne, cell_far e2 hne⟩ (fun _ => ?_)
          clear hK K
          refine wpAnyH_done (by kernel_rfl) ?_ _
          obtain ⟨hM, hk3, hW, hO, hG, hA⟩ := H3.out
          have hv : gg ≠ pw := by
            rcases HAT.out with e | e
            · have := HROW.out gg e; omega
            · have := HBL.out; omega
          obtain ⟨x1, x2, x3, x4⟩ := att_app hM hW hO HROW.out HPW.out.1 HPW.out.2.1 HPW.out.2.2.2.1 HPW.out.2.2.2.2.2.2.1 HPW.out.2.2.2.2.2.2.2 HOWN.out HGR.out (fun i e => by simp [Value.ownBlock] at e; omega)
          generalize w3.setCell ⟨pw, 5, none⟩ (.slice (some ⟨gg, 0, none⟩) (al.length + 1) cap') = W4 at *
          have u5 := x2.cAtts
          have hcs : cellsA al ++ [.int .i64 page, .int .i64 j, .bool true] = cellsA (al ++ [(⟨page, by omega⟩, ⟨j, by omega⟩, true)]) := by unfold cellsA; rw [List.flatMap_append]; rfl
          rw [hcs] at x3
          obtain ⟨hH, hgl⟩ := holds_of_own x3
          have hds : (al ++ [((⟨page, by omega⟩ : Fin 10001), (⟨j, by omega⟩ : Fin 10001), true)]).toArray.size = al.length + 1 := by simp
          have HSORT := Lib.hid (sortA_any gg cap' _ W4 hH hgl (by rw [hds]; omega))
          rw [hds] at HSORT
          have HX := Lib.hid (⟨x1, x2, x3, x4, hG, hv⟩ : _ ∧ _ ∧ _ ∧ _ ∧ _ ∧ _)
          clear hM hk3 hW hO hG hA x1 x2 x3 x4 hH hgl hcs e0 e1 e2 e3 e4 a0 a1 a2 a3 q0 q1 q2 u2 f2 hHeld
          go_wp2_with fail
          refine HSORT.out.mono ?_
          rintro e w6 ⟨rfl, ⟨d', hperm, hH'⟩, hG6⟩
          have H6 := Lib.hid (⟨hperm, hH', hG6⟩ : _ ∧ _ ∧ _)
          clear hperm hH' hG6
          go_wp2
          go_ret
          obtain ⟨x1, x2, x3, x4, hG, hv⟩ := HX.out
          obtain ⟨hperm, hH', hG6⟩ := H6.out
          obtain ⟨y1, y2, y3, y4⟩ := att_sort x1 x2 x3 hv HPW.out.2.2.2.1 HPW.out.2.2.2.2.2.2.1 HPW.out.2.2.2.2.2.2.2 hG6
          have hds' : d'.size = al.length + 1 := hperm.1.trans hds
          have hgc : gg < pw ∨ w.heap.size ≤ gg := by
            rcases HAT.out with e | e
            · exact .inl (HROW.out gg e)
            · exact .inr (by have := hG.size; omega)
          refine ⟨rfl, y1, ⟨gg, cap', _, _, _, y2, d'.toList, ?_, atts_of_holds hH' hds' (by omega) (by have := hG6.size; have := x3.lt gg rfl; omega), y4, hgc⟩, ((Wa.of_wk hG HPW.out.2.2.2.1).trans x4).trans y3⟩
          have hp := hperm.2.2
          rw [ext_all d' _ hds', ext_all _ _ hds] at hp
          exact hp

end
end Go.Proofs.Ytdkaaoboipphcaa
