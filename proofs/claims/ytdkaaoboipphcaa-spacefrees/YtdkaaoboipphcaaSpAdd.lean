/- Package space: add, walked. -/
import Derived.Test.YtdkaaoboipphcaaSpAddPage
import Derived.Test.YtdkaaoboipphcaaSpRound
import Derived.Test.YtdkaaoboipphcaaPtSeek
import Derived.BigRegionIn
namespace Go.Proofs.Ytdkaaoboipphcaa
open Go.RowKit Go.Shelf

attribute [local go_sem] Oper.semAt_some

/-- what is left of a text. -/
def restB (s : ByteArray) (k : Nat) : ByteArray := ⟨(s.data.toList.drop (64 * k)).toArray⟩
theorem restB_list (s : ByteArray) (k : Nat) : (restB s k).data.toList = s.data.toList.drop (64 * k) := by simp [restB]
theorem restB_zero (s : ByteArray) : restB s 0 = s := by simp [restB]
theorem bytes_ext {a b : ByteArray} (h : a.data.toList = b.data.toList) : a = b := by
  cases a; cases b; simp at h; exact congrArg _ h

theorem Wk.keeps {g pw B : Nat} {a b : World} (h : Wk g pw a b) (hg : g < B) (hpw : pw < B) : KeepsFrom B a b :=
  ⟨h.size, fun k o hB hk ho => (h.block k (Array.getElem?_eq_some_iff.1 hk).1 (by omega) (by omega) (fun C f e => by rw [e] at hk; cases hk; cases ho)).trans hk⟩
theorem ownFrom_wk {β : Type} {B g pw : Nat} {w₀ : World} (hB : w₀.heap.size ≤ B) (hpw : pw ≤ w₀.heap.size) : OwnFrom B (fun (_ : β) W => Wk g pw w₀ W) :=
  fun _ _ _ _ hs hg hr => ⟨hg.os.trans hs.os, hg.tape.trans hs.tape, hg.output.trans hs.output, Nat.le_trans hs.size hg.size,
    fun k hk hne => (hg.block k (by have := hs.size; omega) (fun e => by have := (hr k e.symm).1; omega)).trans (hs.low k hk hne),
    fun k hk h1 h2 h3 => (hg.block k (Nat.lt_of_lt_of_le hk hs.size) (fun e => by have := (hr k e.symm).1; omega)).trans (hs.block k hk h1 h2 h3)⟩
theorem WorkAt.kept {w w' : World} {row : Option Nat} {pw p : Nat} {r t d h : Int} {vA vU : Value} {k : Nat} {us : List Value} (hw : WorkAt w pw p r t d h vA vU k us) (hg : w.grownBy w' row)
    (hrow : ∀ r, row = some r → ∃ o : Obj, w.heap[r]? = some o ∧ o.isCells = false) : WorkAt w' pw p r t d h vA vU k us := by
  refine ⟨(hg.block pw hw.lt (fun e => ?_)).trans hw.blk, hw.own.kept hg ?_⟩
  · obtain ⟨o, ho, hc⟩ := hrow pw e.symm
    rw [hw.blk] at ho; cases ho; cases hc
  · rcases hw.own.2 with ⟨rfl, _⟩ | ⟨gg, cap, cur, rfl, _, hgg, _⟩
    · exact .inl rfl
    · right
      intro e
      obtain ⟨o, ho, hc⟩ := hrow gg e.symm
      rw [hgg] at ho; cases ho; cases hc
theorem Boxed4.kept {W W' : World} {row : Option Nat} {b : Nat} {t : TypeId} {v0 v1 v2 v3 : Value} (h : Boxed4 W b t v0 v1 v2 v3) (hg : W.grownBy W' row) (hrow : ∀ r, row = some r → ∃ o : Obj, W.heap[r]? = some o ∧ o.isCells = false) : Boxed4 W' b t v0 v1 v2 v3 :=
  h.keep (hg.block b h.lt (fun e => by
    obtain ⟨o, ho, hc⟩ := hrow b e.symm
    rw [h.blk] at ho; cases ho; cases hc))
theorem Wk.box4 {g pw b : Nat} {x y : World} {t : TypeId} {v0 v1 v2 v3 : Value} (h : Wk g pw x y) (hb : Boxed4 x b t v0 v1 v2 v3) (h1 : b ≠ g) (h2 : b ≠ pw) (ht : t ≠ 1) : Boxed4 y b t v0 v1 v2 v3 :=
  hb.keep (h.block b hb.lt h1 h2 (fun C f e => by rw [hb.blk] at e; simp at e; exact ht e.2.1))

theorem boxed_keptC {W W' : World} {row : Option Nat} {b : Nat} {t : TypeId} {v : Value} (h : Boxed W b t v) (hg : W.grownBy W' row) (hrow : ∀ r, row = some r → ∃ o : Obj, W.heap[r]? = some o ∧ o.isCells = false) : Boxed W' b t v :=
  h.kept hg (fun e => by obtain ⟨o, ho, hc⟩ := hrow b e.symm; rw [show W.heap[b]? = _ from h] at ho; cases ho; cases hc)

theorem ord_snoc {c : Nat} {pre : List (Fin c)} {x : Fin c} (h : (pre ++ [x]).map Fin.val = List.range (pre ++ [x]).length) : pre.map Fin.val = List.range pre.length ∧ x.1 = pre.length := by
  rw [List.map_append, List.length_append, show pre.length + [x].length = pre.length + 1 from rfl, List.range_succ] at h
  obtain ⟨h1, h2⟩ := List.append_inj h (by simp)
  exact ⟨h1, by simpa using h2⟩
theorem WorkAt.setOther {w : World} {pw p : Nat} {r t d h : Int} {vA vU : Value} {k : Nat} {us : List Value} (hw : WorkAt w pw p r t d h vA vU k us) {b : Nat} (o : Nat) (v : Value) (h1 : pw ≠ b) (h2 : vU.ownBlock ≠ some b) : WorkAt (w.setCell ⟨b, o, none⟩ v) pw p r t d h vA vU k us :=
  ⟨(heap_setCell_other _ _ _ _ h1).trans hw.blk, hw.own.kept (grown_setCell w b o v) (.inr h2)⟩

/-- add, in the midst of it: m pages are there, in that order if 'o'. -/
structure AddI (n root : Nat) (S : PtS) (page flags : Nat) (s : ByteArray) (w0 : World) (pw p g be br b0 b1 k count : Nat) (t d h : Int) (vA : Value) (o : Prop) (m : Nat) (W : World) : Prop where
  mem : ∃ S' : PtS, S'.at W p g n ∧ S'.ok n root ∧ (o → S' = addS n root S page flags s.data.toList m)
  work : ∃ vU k' us, k' ≤ k + 2 * m ∧ WorkAt W pw p root t d h vA vU k' us
  e : Boxed W be 25 (.int .i64 0)
  r : ∃ r : ByteArray, r.size ≤ 100000 ∧ Boxed W br 9 (.string r) ∧ (o → r = restB s m)
  bw : Boxed W b0 57 (.pointer (some ⟨pw, 0, none⟩))
  bp : Boxed4 W b1 82 (.int .i64 page) (.int .i64 count) (.int .i64 flags) (.string s)
  wk : Wk g pw w0 W
theorem AddI.own {n root : Nat} {S : PtS} {page flags : Nat} {s : ByteArray} {w0 : World} {pw p g be br b0 b1 k count : Nat} {t d h : Int} {vA : Value} {o : Prop} {m : Nat} {X Y : World} {row : Option Nat} {B : Nat}
    (hs : AddI n root S page flags s w0 pw p g be br b0 b1 k count t d h vA o m X) (hg : X.grownBy Y row) (hr : ∀ r, row = some r → B ≤ r ∧ ∃ o : Obj, X.heap[r]? = some o ∧ o.isCells = false) (hB : w0.heap.size ≤ B) (hpw : pw ≤ w0.heap.size) :
    AddI n root S page flags s w0 pw p g be br b0 b1 k count t d h vA o m Y := by
  have hr2 : ∀ r, row = some r → ∃ o : Obj, X.heap[r]? = some o ∧ o.isCells = false := fun r e => (hr r e).2
  obtain ⟨S', a1, a2, a3⟩ := hs.mem
  obtain ⟨vU, k', us, b1, b2⟩ := hs.work
  obtain ⟨r, c1, c2, c3⟩ := hs.r
  exact ⟨⟨S', MemAt.kept a1 hg hr2, a2, a3⟩, ⟨vU, k', us, b1, b2.kept hg hr2⟩, boxed_keptC hs.e hg hr2, ⟨r, c1, boxed_keptC c2 hg hr2, c3⟩, boxed_keptC hs.bw hg hr2, hs.bp.kept hg hr2, ownFrom_wk hB hpw () _ _ _ hs.wk hg hr⟩

theorem own_ne {w : World} {pw p : Nat} {r t d h : Int} {vA vU : Value} {k : Nat} {us : List Value} (hw : WorkAt w pw p r t d h vA vU k us) {b : Nat} {ty : TypeId} {v : Value} (hb : Boxed w b ty v) (ht : ty ≠ 1) : vU.ownBlock ≠ some b := by
  intro e
  rcases hw.own.2 with ⟨rfl, _⟩ | ⟨gg, cap, cur, rfl, _, hg, _⟩
  · simp [Value.ownBlock] at e
  · simp [Value.ownBlock] at e
    subst e
    rw [show w.heap[gg]? = _ from hb] at hg
    simp at hg
    exact ht hg.2

/-- the end of a round of add. -/
theorem add_end {n root : Nat} {S S5 : PtS} {page flags : Nat} {s r2 : ByteArray} {w0 W w5 : World} {pw p g be br b0 b1 Bf k k5 count m B : Nat} {t d h : Int} {vA vU5 : Value} {us5 : List Value} {o2 : Prop} {r : ByteArray} {bc : Option Obj}
    (hn : be ≠ br ∧ be ≠ g ∧ be ≠ pw ∧ br ≠ g ∧ br ≠ pw ∧ b0 ≠ be ∧ b0 ≠ br ∧ b1 ≠ be ∧ b1 ≠ br ∧ p ≠ be ∧ p ≠ br ∧ Bf ≠ be ∧ Bf ≠ br ∧ Bf ≠ g ∧ Bf ≠ pw ∧ g < B ∧ pw < B ∧ pw ≤ w0.heap.size ∧ w0.heap.size ≤ be ∧ w0.heap.size ≤ br)
    (hG : Wk g pw W w5) (hM : S5.at w5 p g n) (hok : S5.ok n root) (hW : WorkAt w5 pw p root t d h vA vU5 k5 us5) (hk : k5 ≤ k + 2 * (m + 1)) (b5 : Boxed w5 be 25 (.int .i64 0)) (b6 : Boxed w5 br 9 (.string r))
    (b7 : Boxed w5 b0 57 (.pointer (some ⟨pw, 0, none⟩))) (b8 : Boxed4 w5 b1 82 (.int .i64 page) (.int .i64 count) (.int .i64 flags) (.string s))
    (hr2 : r2.size ≤ 100000) (hord : o2 → S5 = addS n root S page flags s.data.toList (m + 1) ∧ r2 = restB s (m + 1)) (wk : Wk g pw w0 W) (hF : W.heap[Bf]? = bc) (hFc : bc = some (.cells #[.int .i64 page] 3)) :
    KeepsFrom B W ((w5.setCell ⟨be, 0, none⟩ (.int .i64 0)).setCell ⟨br, 0, none⟩ (.string r2)) ∧ KpOne Bf W ((w5.setCell ⟨be, 0, none⟩ (.int .i64 0)).setCell ⟨br, 0, none⟩ (.string r2)) ∧
      AddI n root S page flags s w0 pw p g be br b0 b1 k count t d h vA o2 (m + 1) ((w5.setCell ⟨be, 0, none⟩ (.int .i64 0)).setCell ⟨br, 0, none⟩ (.string r2)) ∧ ((w5.setCell ⟨be, 0, none⟩ (.int .i64 0)).setCell ⟨br, 0, none⟩ (.string r2)).heap[Bf]? = bc := by
  obtain ⟨n1, n2, n3, n4, n5, n6, n7, n8, n9, n10, n11, n12, n13, n14, n15, n16, n17, n18, n19, n20⟩ := hn
  have hlt : Bf < W.heap.size := by rw [hFc] at hF; exact (Array.getElem?_eq_some_iff.1 hF).1
  have hB5 : w5.heap[Bf]? = W.heap[Bf]? := hG.block Bf hlt n14 n15 (fun C f e => by rw [hF, hFc] at e; simp at e)
  have hBf : ((w5.setCell ⟨be, 0, none⟩ (.int .i64 0)).setCell ⟨br, 0, none⟩ (.string r2)).heap[Bf]? = W.heap[Bf]? := ((heap_setCell_other _ _ _ _ n13).trans (heap_setCell_other _ _ _ _ n12)).trans hB5
  have hW6 := (hW.setOther 0 (.int .i64 0) (Ne.symm n3) (own_ne hW b5 (by decide)))
  have b6' : Boxed (w5.setCell ⟨be, 0, none⟩ (.int .i64 0)) br 9 (.string r) := Boxed.other b6 (Ne.symm n1) _
  refine ⟨(hG.keeps n16 n17).trans (((KeepsOthers.setCell _ _ _).trans (KeepsOthers.setCell _ _ _)).from _), hBf, ⟨⟨S5, ?_, hok, fun ho => (hord ho).1⟩, ⟨vU5, k5, us5, hk, hW6.setOther 0 _ (Ne.symm n5) (own_ne hW6 b6' (by decide))⟩, ?_, ⟨r2, hr2, b6'.set _, fun ho => (hord ho).2⟩, ?_, ?_, ?_⟩, hBf.trans hF⟩
  · exact MemAt.setOther (MemAt.setOther hM _ _ _ n10 (Ne.symm n2)) _ _ _ n11 (Ne.symm n4)
  · exact Boxed.other (b5.set (.int .i64 0)) n1 _
  · exact Boxed.other (Boxed.other b7 n6 _) n7 _
  · exact (b8.keep (heap_setCell_other _ _ _ _ n8)).keep (heap_setCell_other _ _ _ _ n9)
  · exact ((wk.trans hG).setNew n18 0 _ n19).setNew n18 0 _ n20

section
variable {w : World} {pw p g n root : Nat} {S : PtS} {t d h : Int} {vA vU : Value} {k : Nat} {us : List Value}

set_option maxRecDepth 100000 in
set_option maxHeartbeats 20000000 in
theorem add_in (hm : S.at w p g n) (hw : WorkAt w pw p root t d h vA vU k us) (hgp : g < pw) (hpp : p < pw) (hok : S.ok n root) (hk : k ≤ 5000) (page count flags : Nat) (s : ByteArray) (hfl : flagB (flags : Int) = true) (hpc : page + count ≤ 256) (hsz : s.size ≤ 100000)
    (hu : usedN n S.R + 2 * count ≤ n) (hE : ∀ q, page ≤ q → q < page + count → S.E q = (0, 0)) :
    CallsIn Fence.wide 6 Try.prog 35 #[.pointer (some ⟨pw, 0, none⟩), .agg #[.int .i64 page, .int .i64 count, .int .i64 flags, .string s]] w fun e w' => e = .returned (.int .i64 0) ∧
      (addS n root S page flags s.data.toList count).at w' p g n ∧ (∃ vU' k' us', k' ≤ k + 2 * count ∧ WorkAt w' pw p root t d h vA vU' k' us') ∧ Wk g pw w w' := by
  have HPW := Lib.hid (show g < pw ∧ p < pw ∧ pw < w.heap.size from ⟨hgp, hpp, hw.lt⟩)
  have HFA := Lib.hid (fun (c : Nat) (hc : c ≤ count) => add_facts hok hfl s.data.toList c (by omega) (by omega) (fun q h1 h2 => hE q h1 (by omega)))
  have HRD : Hid (∀ m, m < count → pageE n root (addS n root S page flags s.data.toList m) (page + m) flags ((s.data.toList.drop (64 * m)).take 64) = 0 ∧ pageT n root (addS n root S page flags s.data.toList m) (page + m) flags ((s.data.toList.drop (64 * m)).take 64) = addS n root S page flags s.data.toList (m + 1)) := by
    intro m hmc
    have ih := HFA.out m (by omega)
    have hE' : (addS n root S page flags s.data.toList m).E (page + m) = (0, 0) := by rw [ih.other _ (.inr (Nat.le_refl _))]; exact hE _ (by omega) (by omega)
    have f := page_facts ih.ok (by have := ih.used; omega) (pg := page + m) (by omega) hfl hE' (s := (s.data.toList.drop (64 * m)).take 64) (by rw [List.length_take]; exact Nat.min_le_left _ _)
    obtain ⟨x, hx⟩ := used_free (R := (addS n root S page flags s.data.toList m).R) (n := n) (by have := ih.used; omega)
    have hso : (allocF n (addS n root S page flags s.data.toList m).R).isSome = true := by rw [hx]; rfl
    unfold pageE pageT
    rw [if_pos hso, if_pos hso]
    exact ⟨f.me, rfl⟩
  have HFL : Hid (flags < 8) := by have := flag_lt hfl; unfold Hid; omega
  have w1 := (hw.alloc (.cells #[.pointer (some ⟨pw, 0, none⟩)] 57)).alloc (.cells #[.int .i64 page, .int .i64 count, .int .i64 flags, .string s] 82)
  have HM1 : Hid (S.at ((w.alloc (.cells #[.pointer (some ⟨pw, 0, none⟩)] 57)).alloc (.cells #[.int .i64 page, .int .i64 count, .int .i64 flags, .string s] 82)) p g n) := (MemAt.alloc hm _).alloc _
  have HG1 : Hid (Wk g pw w ((w.alloc (.cells #[.pointer (some ⟨pw, 0, none⟩)] 57)).alloc (.cells #[.int .i64 page, .int .i64 count, .int .i64 flags, .string s] 82))) := ((Wk.refl g pw w).alloc (Nat.le_of_lt hw.lt) _).alloc (Nat.le_of_lt hw.lt) _
  have bW := (Boxed.new w 57 (.pointer (some ⟨pw, 0, none⟩))).alloc (.cells #[.int .i64 page, .int .i64 count, .int .i64 flags, .string s] 82)
  have bP := Boxed4.new (w.alloc (.cells #[.pointer (some ⟨pw, 0, none⟩)] 57)) 82 (.int .i64 page) (.int .i64 count) (.int .i64 flags) (.string s)
  rw [World.size_alloc] at bP
  have hsW : ((w.alloc (.cells #[.pointer (some ⟨pw, 0, none⟩)] 57)).alloc (.cells #[.int .i64 page, .int .i64 count, .int .i64 flags, .string s] 82)).heap.size = w.heap.size + 2 := by simp
  refine callsIn_of_wp_marks Try.func35 rfl trivial ?_ rfl
  simp only [Try.ntmps35, List.size_toArray, List.length_cons, List.length_nil, Nat.reduceAdd, Nat.reduceSub, Array.replicate_succ, Array.replicate_zero, List.push_toArray, List.append_toArray, List.nil_append, List.cons_append]
  gi_wp2
  refine wpIn_scope' ?_
  gi_wp2
  generalize (w.alloc (.cells #[.pointer (some ⟨pw, 0, none⟩)] 57)).alloc (.cells #[.int .i64 page, .int .i64 count, .int .i64 flags, .string s] 82) = W1 at *
  have c3 := bP.c3
  have HW1 := Lib.hid w1; have HBW := Lib.hid bW; have HBP := Lib.hid bP
  have hok0 := hok
  clear w1 bW bP hm hw hE hok
  have HOK := Lib.hid hok0
  gi_region
  · have bA := ((Boxed.new W1 25 (.int .i64 0)).alloc (.cells #[.string s] 9))
    have bB := Boxed.new (W1.alloc (.cells #[.int .i64 0] 25)) 9 (.string s)
    rw [World.size_alloc] at bB
    rw [hsW] at bA bB
    have HM2 : Hid (S.at (((W1.alloc (.cells #[.int .i64 0] 25)).alloc (.cells #[.string s] 9)).drew) p g n) := MemAt.drew ((MemAt.alloc HM1.out _).alloc _)
    have HW2 : Hid (WorkAt (((W1.alloc (.cells #[.int .i64 0] 25)).alloc (.cells #[.string s] 9)).drew) pw p root t d h vA vU k us) := ((HW1.out.alloc _).alloc _).drew
    have HG2 : Hid (Wk g pw w (((W1.alloc (.cells #[.int .i64 0] 25)).alloc (.cells #[.string s] 9)).drew)) := ((HG1.out.alloc (Nat.le_of_lt HPW.out.2.2) _).alloc (Nat.le_of_lt HPW.out.2.2) _).drewR
    have HBW2 : Hid (Boxed (((W1.alloc (.cells #[.int .i64 0] 25)).alloc (.cells #[.string s] 9)).drew) w.heap.size 57 (.pointer (some ⟨pw, 0, none⟩))) := (HBW.out.alloc _).alloc _
    have bP2 : Boxed4 (((W1.alloc (.cells #[.int .i64 0] 25)).alloc (.cells #[.string s] 9)).drew) (w.heap.size + 1) 82 (.int .i64 page) (.int .i64 count) (.int .i64 flags) (.string s) := ((HBP.out.alloc _).alloc _).keep rfl
    have HBE : Hid (Boxed (((W1.alloc (.cells #[.int .i64 0] 25)).alloc (.cells #[.string s] 9)).drew) (w.heap.size + 2) 25 (.int .i64 0)) := bA
    have HBR : Hid (Boxed (((W1.alloc (.cells #[.int .i64 0] 25)).alloc (.cells #[.string s] 9)).drew) (w.heap.size + 2 + 1) 9 (.string s)) := bB
    have hs2 : (((W1.alloc (.cells #[.int .i64 0] 25)).alloc (.cells #[.string s] 9)).drew).heap.size = w.heap.size + 4 := by show ((W1.alloc _).alloc _).heap.size = _; rw [World.size_alloc, World.size_alloc, hsW]
    clear bA bB
    generalize ((W1.alloc (.cells #[.int .i64 0] 25)).alloc (.cells #[.string s] 9)).drew = W2 at *
    obtain ⟨br, hb1⟩ : ∃ b, b = w.heap.size + 2 + 1 := ⟨_, rfl⟩
    obtain ⟨be, hb2⟩ : ∃ b, b = w.heap.size + 2 := ⟨_, rfl⟩
    rw [← hb1, ← hb2]
    rw [← hb2] at HBE
    rw [← hb1] at HBR
    have HNE : Hid (be ≠ br ∧ w.heap.size + 1 < be ∧ w.heap.size + 1 < br ∧ be < W2.heap.size ∧ br < W2.heap.size) := ⟨by omega, by omega, by omega, by omega, by omega⟩
    clear hb1 hb2 hs2
    gi_wp2
    refine wpIn_label ?_
    have p0 := bP2.c0; have p1 := bP2.c1
    gi_wp2_with (refine ⟨trivial, ?_⟩; gi_at_call 27; refine (pagesFrom_in _ _ _ _).mono ?_; rintro e w' ⟨rfl, rfl⟩)
    have bF := (Boxed.new W2 3 (.int .i64 page)).alloc (.cells #[.int .i64 count] 3)
    have bC := Boxed.new (W2.alloc (.cells #[.int .i64 page] 3)) 3 (.int .i64 count)
    rw [World.size_alloc] at bC
    have hB3 : Below W2.heap.size W2 ((W2.alloc (.cells #[.int .i64 page] 3)).alloc (.cells #[.int .i64 count] 3)) := ((Below.refl _ W2).alloc (Nat.le_refl _) _).alloc (by simp) _
    have hs3 : ((W2.alloc (.cells #[.int .i64 page] 3)).alloc (.cells #[.int .i64 count] 3)).heap.size = W2.heap.size + 2 := by simp
    have h0 : AddI n root S page flags s w pw p g be br w.heap.size (w.heap.size + 1) k count t d h vA (([] : List (Fin count)).map Fin.val = List.range ([] : List (Fin count)).length) ([] : List (Fin count)).length ((W2.alloc (.cells #[.int .i64 page] 3)).alloc (.cells #[.int .i64 count] 3)) :=
      ⟨⟨S, (MemAt.alloc HM2.out _).alloc _, HOK.out, fun _ => rfl⟩, ⟨vU, k, us, by simp, (HW2.out.alloc _).alloc _⟩, (HBE.out.alloc _).alloc _, ⟨s, hsz, (HBR.out.alloc _).alloc _, fun _ => (restB_zero s).symm⟩, (HBW2.out.alloc _).alloc _, (bP2.alloc _).alloc _, HG2.out.trans (Wk.of_below hB3 (Nat.le_of_lt HW2.out.lt))⟩
    generalize (W2.alloc (.cells #[.int .i64 page] 3)).alloc (.cells #[.int .i64 count] 3) = W3 at *
    have HS3 := Lib.hid hs3; clear hs3
    refine wpIn_rangeFunc_ownG (F := Fence.wide) (n := 6) rfl (by omega) (gf := 42) (lb := #[.pointer (some ⟨W2.heap.size + 1, 0, none⟩), .pointer (some ⟨W2.heap.size, 0, none⟩)]) rfl trivial (enters_of Try.func42 (by kernel_rfl) rfl)
      (pages_stops 5 (by omega) (W2.heap.size + 1) W2.heap.size page count (by omega) W3 bC.cell bF.cell) KpOne.trans (KpOne.put (by have := HS3.out; omega)) (Below.refl _ _) (fun _ => rfl)
      (fun pre W => AddI n root S page flags s w pw p g be br w.heap.size (w.heap.size + 1) k count t d h vA (pre.map Fin.val = List.range pre.length) pre.length W ∧ Boxed W W2.heap.size 3 (.int .i64 page))
      (fun c pre W => c = .exit 0 ∧ ¬ (pre.map Fin.val = List.range pre.length))
      (fun pre X Y row hs hg hr => ⟨hs.1.own hg hr (by have := HNE.out; have := HS3.out; omega) (Nat.le_of_lt HPW.out.2.2), boxed_keptC hs.2 hg (fun r e => (hr r e).2)⟩)
      (fun c _ _ _ _ hs _ _ => hs)
      ⟨h0, bF⟩
      (fun x => { tmps := #[.pointer (some ⟨pw, 0, none⟩), .agg #[.int .i64 page, .int .i64 count, .int .i64 flags, .string s], .pointer (some ⟨w.heap.size, 0, none⟩), .pointer (some ⟨w.heap.size + 1, 0, none⟩), .int .i64 0, .pointer (some ⟨be, 0, none⟩), .pointer (some ⟨br, 0, none⟩), .int .i64 ((page + x.1 : Nat) : Int), undef, .pointer (some ⟨w.heap.size + 1, 3, none⟩), .string s, .pointer (some ⟨w.heap.size + 1, 0, none⟩), .int .i64 page, .pointer (some ⟨w.heap.size + 1, 1, none⟩), .int .i64 count, .func (.func 42) #[] #[.pointer (some ⟨W2.heap.size + 1, 0, none⟩), .pointer (some ⟨W2.heap.size, 0, none⟩)], .int .i64 ((page + x.1 : Nat) : Int), undef, undef, undef, undef, undef, undef, undef, undef, undef, undef, undef, undef, undef, undef, undef, undef, undef], defers := [] }) ?assign ?body ?done ?stop
    case assign =>
      intro l x W K hK
      unfold pgVals
      gi_wp2
      exact hK
    case body =>
      rintro l pre x W ⟨hI, hF⟩ hlen
      obtain ⟨⟨S', hm', ok', hS'⟩, ⟨vU', k', us', hk', hw'⟩, he, ⟨r, hr, hbr, hro⟩, hbw, hbp, hwk⟩ := hI
      have q0 := he.cell; have q1 := hbr.cell; have q2 := hbw.cell; have q3 := hbp.c2
      have q4 := he.frozen; have q5 := hbr.frozen
      have HS' := Lib.hid hS'; have HRO := Lib.hid hro; have HM' := Lib.hid hm'; have HW' := Lib.hid hw'; have HE' := Lib.hid he; have HBR' := Lib.hid hbr; have HBW' := Lib.hid hbw; have HBP' := Lib.hid hbp; have HWK := Lib.hid hwk; have HF := Lib.hid hF; have HOK' := Lib.hid ok'; have HRS := Lib.hid hr
      clear hS' hro hm' hw' he hbr hbw hbp hwk hF ok' hr h0
      have HNN : Hid (be ≠ br ∧ be ≠ g ∧ be ≠ pw ∧ br ≠ g ∧ br ≠ pw ∧ w.heap.size ≠ be ∧ w.heap.size ≠ br ∧ w.heap.size + 1 ≠ be ∧ w.heap.size + 1 ≠ br ∧ p ≠ be ∧ p ≠ br ∧ W2.heap.size ≠ be ∧ W2.heap.size ≠ br ∧ W2.heap.size ≠ g ∧ W2.heap.size ≠ pw ∧ g < W3.heap.size ∧ pw < W3.heap.size ∧ pw ≤ w.heap.size ∧ w.heap.size ≤ be ∧ w.heap.size ≤ br) := by
        have h1 := HPW.out; have h2 := HNE.out; have h3 := HS3.out
        refine ⟨?_, ?_, ?_, ?_, ?_, ?_, ?_, ?_, ?_, ?_, ?_, ?_, ?_, ?_, ?_, ?_, ?_, ?_, ?_, ?_⟩ <;> omega
      have HNB : Hid (w.heap.size ≠ be ∧ br ≠ be) := ⟨HNN.out.2.2.2.2.2.1, Ne.symm HNN.out.1⟩
      have HALL := Lib.hid (⟨HF.out, HWK.out, hk', HNN.out, hlen⟩ : _ ∧ _ ∧ _ ∧ _ ∧ _)
      clear HF HWK
      by_cases hr64 : r.size ≤ 64
      · have hr1 : (r.size : Int) ≤ 64 := by omega
        gi_wp2_with fail
        have HX : Hid (r.data.toList = r.data.toList.take 64) := by unfold Hid; rw [List.take_of_length_le]; rw [toList_length]; omega
        have HXS : Hid ((r).size ≤ 64) := by
          have h1 := congrArg List.length HX.out
          rw [toList_length, List.length_take] at h1
          unfold Hid; omega
        have HPT := Lib.hid (pageT_ok HOK'.out (page + x.1) flags (s := r.data.toList) (by rw [toList_length]; exact HXS.out))
        have HORD2 : Hid ((pre ++ [x]).map Fin.val = List.range (pre ++ [x]).length → pageE n root S' (page + x.1) flags r.data.toList = 0 ∧ pageT n root S' (page + x.1) flags r.data.toList = addS n root S page flags s.data.toList (pre.length + 1) ∧ ByteArray.empty = restB s (pre.length + 1)) := by
          intro ho
          obtain ⟨o1, o2⟩ := ord_snoc ho
          have e1 := HS'.out o1; have e2 := HRO.out o1
          have e3 := HRD.out pre.length hlen
          have e4 : r.data.toList = (s.data.toList.drop (64 * pre.length)).take 64 := by rw [HX.out, e2, restB_list]
          rw [e1, e4, o2]
          refine ⟨e3.1, e3.2, bytes_ext ?_⟩
          rw [restB_list, (show ByteArray.empty.data.toList = r.data.toList.drop 64 by rw [List.drop_eq_nil_of_le (by rw [toList_length]; omega)]; rfl), e2, restB_list, List.drop_drop]
          rfl
        have HR2 : Hid ((ByteArray.empty).size ≤ 100000) := by
          have h1 : (ByteArray.empty).data.toList.length = (r.data.toList.drop 64).length := congrArg List.length (show ByteArray.empty.data.toList = r.data.toList.drop 64 by rw [List.drop_eq_nil_of_le (by rw [toList_length]; omega)]; rfl)
          rw [toList_length, List.length_drop, toList_length] at h1
          have := HRS.out
          unfold Hid; omega
        have HARM := Lib.hid (⟨HX.out, HXS.out, HPT.out, HORD2.out, HR2.out⟩ : _ ∧ _ ∧ _ ∧ _ ∧ _)
        have HCAL : Hid (∀ W', W' = W.drew → Calls Try.prog 49 #[.pointer (some ⟨pw, 0, none⟩), .int .i64 ((page : Int) + (x.1 : Int)), .int .i64 flags, .string (r)] W' fun e w5 => e = .returned (.int .i64 (pageE n root S' (page + x.1) flags r.data.toList)) ∧
            (pageT n root S' (page + x.1) flags r.data.toList).at w5 p g n ∧ (∃ vU5 k5 us5, k5 ≤ k' + 2 ∧ WorkAt w5 pw p root t d h vA vU5 k5 us5) ∧ Wk g pw W w5 ∧ Boxed w5 be 25 (.int .i64 0) ∧ Boxed w5 br 9 (.string r) ∧ Boxed w5 w.heap.size 57 (.pointer (some ⟨pw, 0, none⟩)) ∧ Boxed4 w5 (w.heap.size + 1) 82 (.int .i64 page) (.int .i64 count) (.int .i64 flags) (.string s)) := by
          rintro _ rfl
          rw [show (page : Int) + (x.1 : Int) = ((page + x.1 : Nat) : Int) by omega]
          refine (addPage_any (MemAt.drew HM'.out) HW'.out.drew HPW.out.1 HPW.out.2.1 (by omega) (page + x.1) flags (r) HFL.out HXS.out HOK'.out).mono ?_
          rintro e w5 ⟨rfl, hM5, hW5, hG5⟩
          have hG6 := hG5.drewL
          exact ⟨rfl, hM5, hW5, hG6, hG6.box HE'.out HNN.out.2.1 HNN.out.2.2.1 (by decide), hG6.box HBR'.out HNN.out.2.2.2.1 HNN.out.2.2.2.2.1 (by decide), hG6.box HBW'.out (by have := HPW.out; omega) (by have := HPW.out; omega) (by decide), hG6.box4 HBP'.out (by have := HPW.out; omega) (by have := HPW.out; omega) (by decide)⟩
        clear HX HXS HPT HORD2 HR2 HRO HS' HM' HW' HE' HBR' HBW' HBP' HOK' HRS
        generalize hEE : pageE n root S' (page + x.1) flags r.data.toList = EE at HARM HCAL
        clear hEE
        have HREST := Lib.hid (⟨HALL.out, HARM.out⟩ : _ ∧ _)
        clear HALL HARM
        refine round_region (S := fun w' => w'.cell? ⟨w.heap.size, 0, none⟩ = some (.pointer (some ⟨pw, 0, none⟩)) ∧ w'.cell? ⟨w.heap.size + 1, 2, none⟩ = some (.int .i64 flags) ∧ w'.cell? ⟨br, 0, none⟩ = some (.string r)) (by kernel_rfl) (by kernel_rfl) (by rintro ⟨_, _, hq⟩; exact hq) ⟨q2, q3, q1⟩ (fun hHeld => ?_)
        change wpAnyH _ _ _ _ _ 9 (Array.replicate 9 false) _ _
        refine takeH 0 (.pointer (some ⟨pw, 0, none⟩)) (some 20) rfl (by kernel_rfl) (by kernel_rfl) (by kernel_rfl) (fun _ _ _ h => h) (fun oi h => by obtain rfl := Option.some.inj h; rfl) (fun oi h W hS => by obtain ⟨hS1, hS2, hS3⟩ := hS; obtain rfl := Option.some.inj h; go_simp) hHeld ?_
        simp only [Act.put, List.setIfInBounds_toArray, List.set_cons_zero, List.set_cons_succ]
        refine takeH 1 (.int .i64 ((page : Int) + (x.1 : Int))) (some 21) rfl (by kernel_rfl) (by kernel_rfl) (by kernel_rfl) (fun _ _ _ h => h) (fun oi h => by obtain rfl := Option.some.inj h; rfl) (fun oi h W hS => by obtain ⟨hS1, hS2, hS3⟩ := hS; obtain rfl := Option.some.inj h; go_simp) hHeld ?_
        simp only [Act.put, List.setIfInBounds_toArray, List.set_cons_zero, List.set_cons_succ]
        refine takeH 2 (.pointer (some ⟨w.heap.size + 1, 2, none⟩)) (some 22) rfl (by kernel_rfl) (by kernel_rfl) (by kernel_rfl) (fun _ _ _ h => h) (fun oi h => by obtain rfl := Option.some.inj h; rfl) (fun oi h W hS => by obtain ⟨hS1, hS2, hS3⟩ := hS; obtain rfl := Option.some.inj h; go_simp) hHeld ?_
        simp only [Act.put, List.setIfInBounds_toArray, List.set_cons_zero, List.set_cons_succ]
        refine takeH 3 (.int .i64 flags) (some 23) rfl (by kernel_rfl) (by kernel_rfl) (by kernel_rfl) (fun _ _ _ h => h) (fun oi h => by obtain rfl := Option.some.inj h; rfl) (fun oi h W hS => by obtain ⟨hS1, hS2, hS3⟩ := hS; obtain rfl := Option.some.inj h; go_simp) hHeld ?_
        simp only [Act.put, List.setIfInBounds_toArray, List.set_cons_zero, List.set_cons_succ]
        refine takeH 4 (.string r) (some 24) rfl (by kernel_rfl) (by kernel_rfl) (by kernel_rfl) (fun _ _ _ h => h) (fun oi h => by obtain rfl := Option.some.inj h; rfl) (fun oi h W hS => by obtain ⟨hS1, hS2, hS3⟩ := hS; obtain rfl := Option.some.inj h; go_simp) hHeld ?_
        simp only [Act.put, List.setIfInBounds_toArray, List.set_cons_zero, List.set_cons_succ]
        refine takeH 5 (.int .i64 r.size) (some 25) rfl (by kernel_rfl) (by kernel_rfl) (by kernel_rfl) (fun _ _ _ h => h) (fun oi h => by obtain rfl := Option.some.inj h; rfl) (fun oi h W hS => by obtain ⟨hS1, hS2, hS3⟩ := hS; obtain rfl := Option.some.inj h; go_simp) hHeld ?_
        simp only [Act.put, List.setIfInBounds_toArray, List.set_cons_zero, List.set_cons_succ]
        refine takeH 6 (.string r) (some 26) rfl (by kernel_rfl) (by kernel_rfl) (by kernel_rfl) (fun _ _ _ h => h) (fun oi h => by obtain rfl := Option.some.inj h; rfl) (fun oi h W hS => by obtain ⟨hS1, hS2, hS3⟩ := hS; obtain rfl := Option.some.inj h; go_simp) hHeld ?_
        simp only [Act.put, List.setIfInBounds_toArray, List.set_cons_zero, List.set_cons_succ]
        refine wpAnyH_ready (rs := [7]) (by kernel_rfl) (by simp) ?_
        refine AllReadyH.cons (i := 7) rfl (fun K hK => ?_) AllReadyH.nil
        go_simp
        refine (HCAL.out _ rfl).mono ?_
        rintro e w5 ⟨rfl, hM5, ⟨vU5, k5, us5, hk5, hW5⟩, hG5, b5, b6, b7, b8⟩
        have y0 := b5.cell; have y1 := b5.frozen; have y2 := b6.cell; have y3 := b6.frozen; have y4 := b7.cell; have y5 := b8.c2
        have H5 := Lib.hid (⟨hM5, hk5, hW5, hG5, b5, b6, b7, b8⟩ : _ ∧ _ ∧ _ ∧ _ ∧ _ ∧ _ ∧ _ ∧ _)
        clear hM5 hk5 hW5 hG5 b5 b6 b7 b8
        refine hK.out _ _ ⟨y4, y5, y2⟩ (fun hHeld => ?_)
        clear hK K
        refine wpAnyH_ready (rs := [8]) (by kernel_rfl) (by simp) ?_
        refine AllReadyH.cons (i := 8) rfl (fun K hK => ?_) AllReadyH.nil
        go_simp
        refine hK.out _ _ ⟨(World.cell?_setCell_other _ _ _ _ (by simp; exact Ne.symm HNB.out.1)).trans y4, (World.cell?_setCell_other _ _ _ _ (by simp)).trans y5, (World.cell?_setCell_other _ _ _ _ (by simp; exact Ne.symm HNB.out.2)).trans y2⟩ (fun _ => ?_)
        clear hK K
        refine wpAnyH_done (by kernel_rfl) ?_ _
        by_cases hz : EE = 0
        · subst hz
          gi_wp2
          obtain ⟨⟨hF, hwk, hk'2, hNN, _⟩, a1, a2, a3, a4, a5⟩ := HREST.out
          obtain ⟨z1, z2, z3, z4, z5, z6, z7, z8⟩ := H5.out
          have := add_end (o2 := (pre ++ [x]).map Fin.val = List.range (pre ++ [x]).length) (m := pre.length) (k := k) (r2 := ByteArray.empty) hNN z4 z1 a3 z3 (by omega) z5 z6 z7 z8 a5 (fun ho => (a4 ho).2) hwk hF rfl
          rw [show pre.length + 1 = (pre ++ [x]).length by simp] at this
          exact this
        · have hz1 : (EE != 0) = true := by simpa using hz
          gi_wp2
          obtain ⟨⟨hF, hwk, hk'2, hNN, _⟩, a1, a2, a3, a4, a5⟩ := HREST.out
          obtain ⟨z1, z2, z3, z4, z5, z6, z7, z8⟩ := H5.out
          exact ⟨(z4.keeps hNN.2.2.2.2.2.2.2.2.2.2.2.2.2.2.2.1 hNN.2.2.2.2.2.2.2.2.2.2.2.2.2.2.2.2.1).trans ((KeepsOthers.setCell _ _ _).from _), rfl, fun ho => hz (a4 ho).1⟩
      · have hr1 : (64 : Int) < (r.size : Int) := by omega
        have hr2 : (64 : Int) ≤ (r.size : Int) := by omega
        gi_wp2_with fail
        have HX : Hid ((r.extract 0 64).data.toList = r.data.toList.take 64) := by unfold Hid; simp [ByteArray.data_extract]
        have HXS : Hid (((r.extract 0 64)).size ≤ 64) := by
          have h1 := congrArg List.length HX.out
          rw [toList_length, List.length_take] at h1
          unfold Hid; omega
        have HPT := Lib.hid (pageT_ok HOK'.out (page + x.1) flags (s := (r.extract 0 64).data.toList) (by rw [toList_length]; exact HXS.out))
        have HORD2 : Hid ((pre ++ [x]).map Fin.val = List.range (pre ++ [x]).length → pageE n root S' (page + x.1) flags (r.extract 0 64).data.toList = 0 ∧ pageT n root S' (page + x.1) flags (r.extract 0 64).data.toList = addS n root S page flags s.data.toList (pre.length + 1) ∧ (r.extract 64 r.size) = restB s (pre.length + 1)) := by
          intro ho
          obtain ⟨o1, o2⟩ := ord_snoc ho
          have e1 := HS'.out o1; have e2 := HRO.out o1
          have e3 := HRD.out pre.length hlen
          have e4 : (r.extract 0 64).data.toList = (s.data.toList.drop (64 * pre.length)).take 64 := by rw [HX.out, e2, restB_list]
          rw [e1, e4, o2]
          refine ⟨e3.1, e3.2, bytes_ext ?_⟩
          rw [restB_list, (show (r.extract 64 r.size).data.toList = r.data.toList.drop 64 by rw [ByteArray.data_extract]; simp only [Array.toList_extract, List.extract_eq_take_drop]; exact List.take_of_length_le (by rw [List.length_drop, toList_length]; exact Nat.le_refl _)), e2, restB_list, List.drop_drop]
          rfl
        have HR2 : Hid (((r.extract 64 r.size)).size ≤ 100000) := by
          have h1 : ((r.extract 64 r.size)).data.toList.length = (r.data.toList.drop 64).length := congrArg List.length (show (r.extract 64 r.size).data.toList = r.data.toList.drop 64 by rw [ByteArray.data_extract]; simp only [Array.toList_extract, List.extract_eq_take_drop]; exact List.take_of_length_le (by rw [List.length_drop, toList_length]; exact Nat.le_refl _))
          rw [toList_length, List.length_drop, toList_length] at h1
          have := HRS.out
          unfold Hid; omega
        have HARM := Lib.hid (⟨HX.out, HXS.out, HPT.out, HORD2.out, HR2.out⟩ : _ ∧ _ ∧ _ ∧ _ ∧ _)
        have HCAL : Hid (∀ W', W' = W.drew → Calls Try.prog 49 #[.pointer (some ⟨pw, 0, none⟩), .int .i64 ((page : Int) + (x.1 : Int)), .int .i64 flags, .string ((r.extract 0 64))] W' fun e w5 => e = .returned (.int .i64 (pageE n root S' (page + x.1) flags (r.extract 0 64).data.toList)) ∧
            (pageT n root S' (page + x.1) flags (r.extract 0 64).data.toList).at w5 p g n ∧ (∃ vU5 k5 us5, k5 ≤ k' + 2 ∧ WorkAt w5 pw p root t d h vA vU5 k5 us5) ∧ Wk g pw W w5 ∧ Boxed w5 be 25 (.int .i64 0) ∧ Boxed w5 br 9 (.string r) ∧ Boxed w5 w.heap.size 57 (.pointer (some ⟨pw, 0, none⟩)) ∧ Boxed4 w5 (w.heap.size + 1) 82 (.int .i64 page) (.int .i64 count) (.int .i64 flags) (.string s)) := by
          rintro _ rfl
          rw [show (page : Int) + (x.1 : Int) = ((page + x.1 : Nat) : Int) by omega]
          refine (addPage_any (MemAt.drew HM'.out) HW'.out.drew HPW.out.1 HPW.out.2.1 (by omega) (page + x.1) flags ((r.extract 0 64)) HFL.out HXS.out HOK'.out).mono ?_
          rintro e w5 ⟨rfl, hM5, hW5, hG5⟩
          have hG6 := hG5.drewL
          exact ⟨rfl, hM5, hW5, hG6, hG6.box HE'.out HNN.out.2.1 HNN.out.2.2.1 (by decide), hG6.box HBR'.out HNN.out.2.2.2.1 HNN.out.2.2.2.2.1 (by decide), hG6.box HBW'.out (by have := HPW.out; omega) (by have := HPW.out; omega) (by decide), hG6.box4 HBP'.out (by have := HPW.out; omega) (by have := HPW.out; omega) (by decide)⟩
        clear HX HXS HPT HORD2 HR2 HRO HS' HM' HW' HE' HBR' HBW' HBP' HOK' HRS
        generalize hEE : pageE n root S' (page + x.1) flags (r.extract 0 64).data.toList = EE at HARM HCAL
        clear hEE
        have HREST := Lib.hid (⟨HALL.out, HARM.out⟩ : _ ∧ _)
        clear HALL HARM
        refine round_region (S := fun w' => w'.cell? ⟨w.heap.size, 0, none⟩ = some (.pointer (some ⟨pw, 0, none⟩)) ∧ w'.cell? ⟨w.heap.size + 1, 2, none⟩ = some (.int .i64 flags) ∧ w'.cell? ⟨br, 0, none⟩ = some (.string r)) (by kernel_rfl) (by kernel_rfl) (by rintro ⟨_, _, hq⟩; exact hq) ⟨q2, q3, q1⟩ (fun hHeld => ?_)
        change wpAnyH _ _ _ _ _ 9 (Array.replicate 9 false) _ _
        refine takeH 0 (.pointer (some ⟨pw, 0, none⟩)) (some 20) rfl (by kernel_rfl) (by kernel_rfl) (by kernel_rfl) (fun _ _ _ h => h) (fun oi h => by obtain rfl := Option.some.inj h; rfl) (fun oi h W hS => by obtain ⟨hS1, hS2, hS3⟩ := hS; obtain rfl := Option.some.inj h; go_simp) hHeld ?_
        simp only [Act.put, List.setIfInBounds_toArray, List.set_cons_zero, List.set_cons_succ]
        refine takeH 1 (.int .i64 ((page : Int) + (x.1 : Int))) (some 21) rfl (by kernel_rfl) (by kernel_rfl) (by kernel_rfl) (fun _ _ _ h => h) (fun oi h => by obtain rfl := Option.some.inj h; rfl) (fun oi h W hS => by obtain ⟨hS1, hS2, hS3⟩ := hS; obtain rfl := Option.some.inj h; go_simp) hHeld ?_
        simp only [Act.put, List.setIfInBounds_toArray, List.set_cons_zero, List.set_cons_succ]
        refine takeH 2 (.pointer (some ⟨w.heap.size + 1, 2, none⟩)) (some 22) rfl (by kernel_rfl) (by kernel_rfl) (by kernel_rfl) (fun _ _ _ h => h) (fun oi h => by obtain rfl := Option.some.inj h; rfl) (fun oi h W hS => by obtain ⟨hS1, hS2, hS3⟩ := hS; obtain rfl := Option.some.inj h; go_simp) hHeld ?_
        simp only [Act.put, List.setIfInBounds_toArray, List.set_cons_zero, List.set_cons_succ]
        refine takeH 3 (.int .i64 flags) (some 23) rfl (by kernel_rfl) (by kernel_rfl) (by kernel_rfl) (fun _ _ _ h => h) (fun oi h => by obtain rfl := Option.some.inj h; rfl) (fun oi h W hS => by obtain ⟨hS1, hS2, hS3⟩ := hS; obtain rfl := Option.some.inj h; go_simp) hHeld ?_
        simp only [Act.put, List.setIfInBounds_toArray, List.set_cons_zero, List.set_cons_succ]
        refine takeH 4 (.string r) (some 24) rfl (by kernel_rfl) (by kernel_rfl) (by kernel_rfl) (fun _ _ _ h => h) (fun oi h => by obtain rfl := Option.some.inj h; rfl) (fun oi h W hS => by obtain ⟨hS1, hS2, hS3⟩ := hS; obtain rfl := Option.some.inj h; go_simp) hHeld ?_
        simp only [Act.put, List.setIfInBounds_toArray, List.set_cons_zero, List.set_cons_succ]
        refine takeH 5 (.int .i64 64) (some 25) rfl (by kernel_rfl) (by kernel_rfl) (by kernel_rfl) (fun _ _ _ h => h) (fun oi h => by obtain rfl := Option.some.inj h; rfl) (fun oi h W hS => by obtain ⟨hS1, hS2, hS3⟩ := hS; obtain rfl := Option.some.inj h; go_simp) hHeld ?_
        simp only [Act.put, List.setIfInBounds_toArray, List.set_cons_zero, List.set_cons_succ]
        refine takeH 6 (.string (r.extract 0 64)) (some 26) rfl (by kernel_rfl) (by kernel_rfl) (by kernel_rfl) (fun _ _ _ h => h) (fun oi h => by obtain rfl := Option.some.inj h; rfl) (fun oi h W hS => by obtain ⟨hS1, hS2, hS3⟩ := hS; obtain rfl := Option.some.inj h; go_simp) hHeld ?_
        simp only [Act.put, List.setIfInBounds_toArray, List.set_cons_zero, List.set_cons_succ]
        refine wpAnyH_ready (rs := [7]) (by kernel_rfl) (by simp) ?_
        refine AllReadyH.cons (i := 7) rfl (fun K hK => ?_) AllReadyH.nil
        go_simp
        refine (HCAL.out _ rfl).mono ?_
        rintro e w5 ⟨rfl, hM5, ⟨vU5, k5, us5, hk5, hW5⟩, hG5, b5, b6, b7, b8⟩
        have y0 := b5.cell; have y1 := b5.frozen; have y2 := b6.cell; have y3 := b6.frozen; have y4 := b7.cell; have y5 := b8.c2
        have H5 := Lib.hid (⟨hM5, hk5, hW5, hG5, b5, b6, b7, b8⟩ : _ ∧ _ ∧ _ ∧ _ ∧ _ ∧ _ ∧ _ ∧ _)
        clear hM5 hk5 hW5 hG5 b5 b6 b7 b8
        refine hK.out _ _ ⟨y4, y5, y2⟩ (fun hHeld => ?_)
        clear hK K
        refine wpAnyH_ready (rs := [8]) (by kernel_rfl) (by simp) ?_
        refine AllReadyH.cons (i := 8) rfl (fun K hK => ?_) AllReadyH.nil
        go_simp
        refine hK.out _ _ ⟨(World.cell?_setCell_other _ _ _ _ (by simp; exact Ne.symm HNB.out.1)).trans y4, (World.cell?_setCell_other _ _ _ _ (by simp)).trans y5, (World.cell?_setCell_other _ _ _ _ (by simp; exact Ne.symm HNB.out.2)).trans y2⟩ (fun _ => ?_)
        clear hK K
        refine wpAnyH_done (by kernel_rfl) ?_ _
        by_cases hz : EE = 0
        · subst hz
          gi_wp2
          obtain ⟨⟨hF, hwk, hk'2, hNN, _⟩, a1, a2, a3, a4, a5⟩ := HREST.out
          obtain ⟨z1, z2, z3, z4, z5, z6, z7, z8⟩ := H5.out
          have := add_end (o2 := (pre ++ [x]).map Fin.val = List.range (pre ++ [x]).length) (m := pre.length) (k := k) (r2 := (r.extract 64 r.size)) hNN z4 z1 a3 z3 (by omega) z5 z6 z7 z8 a5 (fun ho => (a4 ho).2) hwk hF rfl
          rw [show pre.length + 1 = (pre ++ [x]).length by simp] at this
          exact this
        · have hz1 : (EE != 0) = true := by simpa using hz
          gi_wp2
          obtain ⟨⟨hF, hwk, hk'2, hNN, _⟩, a1, a2, a3, a4, a5⟩ := HREST.out
          obtain ⟨z1, z2, z3, z4, z5, z6, z7, z8⟩ := H5.out
          exact ⟨(z4.keeps hNN.2.2.2.2.2.2.2.2.2.2.2.2.2.2.2.1 hNN.2.2.2.2.2.2.2.2.2.2.2.2.2.2.2.2.1).trans ((KeepsOthers.setCell _ _ _).from _), rfl, fun ho => hz (a4 ho).1⟩
    case done =>
      rintro D ys W hD hys ⟨hI, hF⟩ hK
      have hylen : ys.length = count := by have := congrArg List.length hys; simpa using this
      have hI2 := hI.own (B := W3.heap.size) (grownBy_putObj' W D (.deferred none)) (fun r e => by cases e; exact ⟨hD, _, hK, rfl⟩) (by have := HNE.out; have := HS3.out; omega) (Nat.le_of_lt HPW.out.2.2)
      have hoo : ys.map Fin.val = List.range ys.length := by rw [hylen]; exact hys
      obtain ⟨⟨S', hm', ok', hS'⟩, ⟨vU', k', us', hk', hw'⟩, _, _, _, _, hwk⟩ := hI2
      have q0 := hI.e.cell
      have HFIN : Hid ((addS n root S page flags s.data.toList count).at (W.putObj D (.deferred none)) p g n ∧ (∃ vU' k' us', k' ≤ k + 2 * count ∧ WorkAt (W.putObj D (.deferred none)) pw p root t d h vA vU' k' us') ∧ Wk g pw w (W.putObj D (.deferred none))) := by
        have e1 := hS' hoo
        rw [hylen] at e1 hk'
        exact ⟨e1 ▸ hm', ⟨vU', k', us', hk', hw'⟩, hwk⟩
      have HK := Lib.hid hK
      clear hI hm' ok' hS' hk' hw' hwk hys hoo hF hylen h0 hK
      gi_wp2
      rw [Exit.noGoto_ret]
      refine ⟨by simp, .inl ⟨_, _, rfl, run_takeDeferred HK.out, ?_⟩⟩
      exact ⟨_, results_tmp rfl _ _ _, rfl, HFIN.out⟩
    case stop =>
      rintro D c pre W hD ⟨kk, hkk, hpre⟩ ⟨rfl, hno⟩ hK
      have hl : pre.length = kk := by have := congrArg List.length hpre; simpa using this
      exact absurd (by rw [hl]; exact hpre) hno
  · have bA := ((Boxed.new W1 9 (.string s)).alloc (.cells #[.int .i64 0] 25))
    have bB := Boxed.new (W1.alloc (.cells #[.string s] 9)) 25 (.int .i64 0)
    rw [World.size_alloc] at bB
    rw [hsW] at bA bB
    have HM2 : Hid (S.at (((W1.alloc (.cells #[.string s] 9)).alloc (.cells #[.int .i64 0] 25)).drew) p g n) := MemAt.drew ((MemAt.alloc HM1.out _).alloc _)
    have HW2 : Hid (WorkAt (((W1.alloc (.cells #[.string s] 9)).alloc (.cells #[.int .i64 0] 25)).drew) pw p root t d h vA vU k us) := ((HW1.out.alloc _).alloc _).drew
    have HG2 : Hid (Wk g pw w (((W1.alloc (.cells #[.string s] 9)).alloc (.cells #[.int .i64 0] 25)).drew)) := ((HG1.out.alloc (Nat.le_of_lt HPW.out.2.2) _).alloc (Nat.le_of_lt HPW.out.2.2) _).drewR
    have HBW2 : Hid (Boxed (((W1.alloc (.cells #[.string s] 9)).alloc (.cells #[.int .i64 0] 25)).drew) w.heap.size 57 (.pointer (some ⟨pw, 0, none⟩))) := (HBW.out.alloc _).alloc _
    have bP2 : Boxed4 (((W1.alloc (.cells #[.string s] 9)).alloc (.cells #[.int .i64 0] 25)).drew) (w.heap.size + 1) 82 (.int .i64 page) (.int .i64 count) (.int .i64 flags) (.string s) := ((HBP.out.alloc _).alloc _).keep rfl
    have HBE : Hid (Boxed (((W1.alloc (.cells #[.string s] 9)).alloc (.cells #[.int .i64 0] 25)).drew) (w.heap.size + 2 + 1) 25 (.int .i64 0)) := bB
    have HBR : Hid (Boxed (((W1.alloc (.cells #[.string s] 9)).alloc (.cells #[.int .i64 0] 25)).drew) (w.heap.size + 2) 9 (.string s)) := bA
    have hs2 : (((W1.alloc (.cells #[.string s] 9)).alloc (.cells #[.int .i64 0] 25)).drew).heap.size = w.heap.size + 4 := by show ((W1.alloc _).alloc _).heap.size = _; rw [World.size_alloc, World.size_alloc, hsW]
    clear bA bB
    generalize ((W1.alloc (.cells #[.string s] 9)).alloc (.cells #[.int .i64 0] 25)).drew = W2 at *
    obtain ⟨be, hb1⟩ : ∃ b, b = w.heap.size + 2 + 1 := ⟨_, rfl⟩
    obtain ⟨br, hb2⟩ : ∃ b, b = w.heap.size + 2 := ⟨_, rfl⟩
    rw [← hb1, ← hb2]
    rw [← hb1] at HBE
    rw [← hb2] at HBR
    have HNE : Hid (be ≠ br ∧ w.heap.size + 1 < be ∧ w.heap.size + 1 < br ∧ be < W2.heap.size ∧ br < W2.heap.size) := ⟨by omega, by omega, by omega, by omega, by omega⟩
    clear hb1 hb2 hs2
    gi_wp2
    refine wpIn_label ?_
    have p0 := bP2.c0; have p1 := bP2.c1
    gi_wp2_with (refine ⟨trivial, ?_⟩; gi_at_call 27; refine (pagesFrom_in _ _ _ _).mono ?_; rintro e w' ⟨rfl, rfl⟩)
    have bF := (Boxed.new W2 3 (.int .i64 page)).alloc (.cells #[.int .i64 count] 3)
    have bC := Boxed.new (W2.alloc (.cells #[.int .i64 page] 3)) 3 (.int .i64 count)
    rw [World.size_alloc] at bC
    have hB3 : Below W2.heap.size W2 ((W2.alloc (.cells #[.int .i64 page] 3)).alloc (.cells #[.int .i64 count] 3)) := ((Below.refl _ W2).alloc (Nat.le_refl _) _).alloc (by simp) _
    have hs3 : ((W2.alloc (.cells #[.int .i64 page] 3)).alloc (.cells #[.int .i64 count] 3)).heap.size = W2.heap.size + 2 := by simp
    have h0 : AddI n root S page flags s w pw p g be br w.heap.size (w.heap.size + 1) k count t d h vA (([] : List (Fin count)).map Fin.val = List.range ([] : List (Fin count)).length) ([] : List (Fin count)).length ((W2.alloc (.cells #[.int .i64 page] 3)).alloc (.cells #[.int .i64 count] 3)) :=
      ⟨⟨S, (MemAt.alloc HM2.out _).alloc _, HOK.out, fun _ => rfl⟩, ⟨vU, k, us, by simp, (HW2.out.alloc _).alloc _⟩, (HBE.out.alloc _).alloc _, ⟨s, hsz, (HBR.out.alloc _).alloc _, fun _ => (restB_zero s).symm⟩, (HBW2.out.alloc _).alloc _, (bP2.alloc _).alloc _, HG2.out.trans (Wk.of_below hB3 (Nat.le_of_lt HW2.out.lt))⟩
    generalize (W2.alloc (.cells #[.int .i64 page] 3)).alloc (.cells #[.int .i64 count] 3) = W3 at *
    have HS3 := Lib.hid hs3; clear hs3
    refine wpIn_rangeFunc_ownG (F := Fence.wide) (n := 6) rfl (by omega) (gf := 42) (lb := #[.pointer (some ⟨W2.heap.size + 1, 0, none⟩), .pointer (some ⟨W2.heap.size, 0, none⟩)]) rfl trivial (enters_of Try.func42 (by kernel_rfl) rfl)
      (pages_stops 5 (by omega) (W2.heap.size + 1) W2.heap.size page count (by omega) W3 bC.cell bF.cell) KpOne.trans (KpOne.put (by have := HS3.out; omega)) (Below.refl _ _) (fun _ => rfl)
      (fun pre W => AddI n root S page flags s w pw p g be br w.heap.size (w.heap.size + 1) k count t d h vA (pre.map Fin.val = List.range pre.length) pre.length W ∧ Boxed W W2.heap.size 3 (.int .i64 page))
      (fun c pre W => c = .exit 0 ∧ ¬ (pre.map Fin.val = List.range pre.length))
      (fun pre X Y row hs hg hr => ⟨hs.1.own hg hr (by have := HNE.out; have := HS3.out; omega) (Nat.le_of_lt HPW.out.2.2), boxed_keptC hs.2 hg (fun r e => (hr r e).2)⟩)
      (fun c _ _ _ _ hs _ _ => hs)
      ⟨h0, bF⟩
      (fun x => { tmps := #[.pointer (some ⟨pw, 0, none⟩), .agg #[.int .i64 page, .int .i64 count, .int .i64 flags, .string s], .pointer (some ⟨w.heap.size, 0, none⟩), .pointer (some ⟨w.heap.size + 1, 0, none⟩), .int .i64 0, .pointer (some ⟨be, 0, none⟩), .pointer (some ⟨br, 0, none⟩), .int .i64 ((page + x.1 : Nat) : Int), undef, .pointer (some ⟨w.heap.size + 1, 3, none⟩), .string s, .pointer (some ⟨w.heap.size + 1, 0, none⟩), .int .i64 page, .pointer (some ⟨w.heap.size + 1, 1, none⟩), .int .i64 count, .func (.func 42) #[] #[.pointer (some ⟨W2.heap.size + 1, 0, none⟩), .pointer (some ⟨W2.heap.size, 0, none⟩)], .int .i64 ((page + x.1 : Nat) : Int), undef, undef, undef, undef, undef, undef, undef, undef, undef, undef, undef, undef, undef, undef, undef, undef, undef], defers := [] }) ?assign ?body ?done ?stop
    case assign =>
      intro l x W K hK
      unfold pgVals
      gi_wp2
      exact hK
    case body =>
      rintro l pre x W ⟨hI, hF⟩ hlen
      obtain ⟨⟨S', hm', ok', hS'⟩, ⟨vU', k', us', hk', hw'⟩, he, ⟨r, hr, hbr, hro⟩, hbw, hbp, hwk⟩ := hI
      have q0 := he.cell; have q1 := hbr.cell; have q2 := hbw.cell; have q3 := hbp.c2
      have q4 := he.frozen; have q5 := hbr.frozen
      have HS' := Lib.hid hS'; have HRO := Lib.hid hro; have HM' := Lib.hid hm'; have HW' := Lib.hid hw'; have HE' := Lib.hid he; have HBR' := Lib.hid hbr; have HBW' := Lib.hid hbw; have HBP' := Lib.hid hbp; have HWK := Lib.hid hwk; have HF := Lib.hid hF; have HOK' := Lib.hid ok'; have HRS := Lib.hid hr
      clear hS' hro hm' hw' he hbr hbw hbp hwk hF ok' hr h0
      have HNN : Hid (be ≠ br ∧ be ≠ g ∧ be ≠ pw ∧ br ≠ g ∧ br ≠ pw ∧ w.heap.size ≠ be ∧ w.heap.size ≠ br ∧ w.heap.size + 1 ≠ be ∧ w.heap.size + 1 ≠ br ∧ p ≠ be ∧ p ≠ br ∧ W2.heap.size ≠ be ∧ W2.heap.size ≠ br ∧ W2.heap.size ≠ g ∧ W2.heap.size ≠ pw ∧ g < W3.heap.size ∧ pw < W3.heap.size ∧ pw ≤ w.heap.size ∧ w.heap.size ≤ be ∧ w.heap.size ≤ br) := by
        have h1 := HPW.out; have h2 := HNE.out; have h3 := HS3.out
        refine ⟨?_, ?_, ?_, ?_, ?_, ?_, ?_, ?_, ?_, ?_, ?_, ?_, ?_, ?_, ?_, ?_, ?_, ?_, ?_, ?_⟩ <;> omega
      have HNB : Hid (w.heap.size ≠ be ∧ br ≠ be) := ⟨HNN.out.2.2.2.2.2.1, Ne.symm HNN.out.1⟩
      have HALL := Lib.hid (⟨HF.out, HWK.out, hk', HNN.out, hlen⟩ : _ ∧ _ ∧ _ ∧ _ ∧ _)
      clear HF HWK
      by_cases hr64 : r.size ≤ 64
      · have hr1 : (r.size : Int) ≤ 64 := by omega
        gi_wp2_with fail
        have HX : Hid (r.data.toList = r.data.toList.take 64) := by unfold Hid; rw [List.take_of_length_le]; rw [toList_length]; omega
        have HXS : Hid ((r).size ≤ 64) := by
          have h1 := congrArg List.length HX.out
          rw [toList_length, List.length_take] at h1
          unfold Hid; omega
        have HPT := Lib.hid (pageT_ok HOK'.out (page + x.1) flags (s := r.data.toList) (by rw [toList_length]; exact HXS.out))
        have HORD2 : Hid ((pre ++ [x]).map Fin.val = List.range (pre ++ [x]).length → pageE n root S' (page + x.1) flags r.data.toList = 0 ∧ pageT n root S' (page + x.1) flags r.data.toList = addS n root S page flags s.data.toList (pre.length + 1) ∧ ByteArray.empty = restB s (pre.length + 1)) := by
          intro ho
          obtain ⟨o1, o2⟩ := ord_snoc ho
          have e1 := HS'.out o1; have e2 := HRO.out o1
          have e3 := HRD.out pre.length hlen
          have e4 : r.data.toList = (s.data.toList.drop (64 * pre.length)).take 64 := by rw [HX.out, e2, restB_list]
          rw [e1, e4, o2]
          refine ⟨e3.1, e3.2, bytes_ext ?_⟩
          rw [restB_list, (show ByteArray.empty.data.toList = r.data.toList.drop 64 by rw [List.drop_eq_nil_of_le (by rw [toList_length]; omega)]; rfl), e2, restB_list, List.drop_drop]
          rfl
        have HR2 : Hid ((ByteArray.empty).size ≤ 100000) := by
          have h1 : (ByteArray.empty).data.toList.length = (r.data.toList.drop 64).length := congrArg List.length (show ByteArray.empty.data.toList = r.data.toList.drop 64 by rw [List.drop_eq_nil_of_le (by rw [toList_length]; omega)]; rfl)
          rw [toList_length, List.length_drop, toList_length] at h1
          have := HRS.out
          unfold Hid; omega
        have HARM := Lib.hid (⟨HX.out, HXS.out, HPT.out, HORD2.out, HR2.out⟩ : _ ∧ _ ∧ _ ∧ _ ∧ _)
        have HCAL : Hid (∀ W', W' = W.drew → Calls Try.prog 49 #[.pointer (some ⟨pw, 0, none⟩), .int .i64 ((page : Int) + (x.1 : Int)), .int .i64 flags, .string (r)] W' fun e w5 => e = .returned (.int .i64 (pageE n root S' (page + x.1) flags r.data.toList)) ∧
            (pageT n root S' (page + x.1) flags r.data.toList).at w5 p g n ∧ (∃ vU5 k5 us5, k5 ≤ k' + 2 ∧ WorkAt w5 pw p root t d h vA vU5 k5 us5) ∧ Wk g pw W w5 ∧ Boxed w5 be 25 (.int .i64 0) ∧ Boxed w5 br 9 (.string r) ∧ Boxed w5 w.heap.size 57 (.pointer (some ⟨pw, 0, none⟩)) ∧ Boxed4 w5 (w.heap.size + 1) 82 (.int .i64 page) (.int .i64 count) (.int .i64 flags) (.string s)) := by
          rintro _ rfl
          rw [show (page : Int) + (x.1 : Int) = ((page + x.1 : Nat) : Int) by omega]
          refine (addPage_any (MemAt.drew HM'.out) HW'.out.drew HPW.out.1 HPW.out.2.1 (by omega) (page + x.1) flags (r) HFL.out HXS.out HOK'.out).mono ?_
          rintro e w5 ⟨rfl, hM5, hW5, hG5⟩
          have hG6 := hG5.drewL
          exact ⟨rfl, hM5, hW5, hG6, hG6.box HE'.out HNN.out.2.1 HNN.out.2.2.1 (by decide), hG6.box HBR'.out HNN.out.2.2.2.1 HNN.out.2.2.2.2.1 (by decide), hG6.box HBW'.out (by have := HPW.out; omega) (by have := HPW.out; omega) (by decide), hG6.box4 HBP'.out (by have := HPW.out; omega) (by have := HPW.out; omega) (by decide)⟩
        clear HX HXS HPT HORD2 HR2 HRO HS' HM' HW' HE' HBR' HBW' HBP' HOK' HRS
        generalize hEE : pageE n root S' (page + x.1) flags r.data.toList = EE at HARM HCAL
        clear hEE
        have HREST := Lib.hid (⟨HALL.out, HARM.out⟩ : _ ∧ _)
        clear HALL HARM
        refine round_region (S := fun w' => w'.cell? ⟨w.heap.size, 0, none⟩ = some (.pointer (some ⟨pw, 0, none⟩)) ∧ w'.cell? ⟨w.heap.size + 1, 2, none⟩ = some (.int .i64 flags) ∧ w'.cell? ⟨br, 0, none⟩ = some (.string r)) (by kernel_rfl) (by kernel_rfl) (by rintro ⟨_, _, hq⟩; exact hq) ⟨q2, q3, q1⟩ (fun hHeld => ?_)
        change wpAnyH _ _ _ _ _ 9 (Array.replicate 9 false) _ _
        refine takeH 0 (.pointer (some ⟨pw, 0, none⟩)) (some 20) rfl (by kernel_rfl) (by kernel_rfl) (by kernel_rfl) (fun _ _ _ h => h) (fun oi h => by obtain rfl := Option.some.inj h; rfl) (fun oi h W hS => by obtain ⟨hS1, hS2, hS3⟩ := hS; obtain rfl := Option.some.inj h; go_simp) hHeld ?_
        simp only [Act.put, List.setIfInBounds_toArray, List.set_cons_zero, List.set_cons_succ]
        refine takeH 1 (.int .i64 ((page : Int) + (x.1 : Int))) (some 21) rfl (by kernel_rfl) (by kernel_rfl) (by kernel_rfl) (fun _ _ _ h => h) (fun oi h => by obtain rfl := Option.some.inj h; rfl) (fun oi h W hS => by obtain ⟨hS1, hS2, hS3⟩ := hS; obtain rfl := Option.some.inj h; go_simp) hHeld ?_
        simp only [Act.put, List.setIfInBounds_toArray, List.set_cons_zero, List.set_cons_succ]
        refine takeH 2 (.pointer (some ⟨w.heap.size + 1, 2, none⟩)) (some 22) rfl (by kernel_rfl) (by kernel_rfl) (by kernel_rfl) (fun _ _ _ h => h) (fun oi h => by obtain rfl := Option.some.inj h; rfl) (fun oi h W hS => by obtain ⟨hS1, hS2, hS3⟩ := hS; obtain rfl := Option.some.inj h; go_simp) hHeld ?_
        simp only [Act.put, List.setIfInBounds_toArray, List.set_cons_zero, List.set_cons_succ]
        refine takeH 3 (.int .i64 flags) (some 23) rfl (by kernel_rfl) (by kernel_rfl) (by kernel_rfl) (fun _ _ _ h => h) (fun oi h => by obtain rfl := Option.some.inj h; rfl) (fun oi h W hS => by obtain ⟨hS1, hS2, hS3⟩ := hS; obtain rfl := Option.some.inj h; go_simp) hHeld ?_
        simp only [Act.put, List.setIfInBounds_toArray, List.set_cons_zero, List.set_cons_succ]
        refine takeH 4 (.string r) (some 24) rfl (by kernel_rfl) (by kernel_rfl) (by kernel_rfl) (fun _ _ _ h => h) (fun oi h => by obtain rfl := Option.some.inj h; rfl) (fun oi h W hS => by obtain ⟨hS1, hS2, hS3⟩ := hS; obtain rfl := Option.some.inj h; go_simp) hHeld ?_
        simp only [Act.put, List.setIfInBounds_toArray, List.set_cons_zero, List.set_cons_succ]
        refine takeH 5 (.int .i64 r.size) (some 25) rfl (by kernel_rfl) (by kernel_rfl) (by kernel_rfl) (fun _ _ _ h => h) (fun oi h => by obtain rfl := Option.some.inj h; rfl) (fun oi h W hS => by obtain ⟨hS1, hS2, hS3⟩ := hS; obtain rfl := Option.some.inj h; go_simp) hHeld ?_
        simp only [Act.put, List.setIfInBounds_toArray, List.set_cons_zero, List.set_cons_succ]
        refine takeH 6 (.string r) (some 26) rfl (by kernel_rfl) (by kernel_rfl) (by kernel_rfl) (fun _ _ _ h => h) (fun oi h => by obtain rfl := Option.some.inj h; rfl) (fun oi h W hS => by obtain ⟨hS1, hS2, hS3⟩ := hS; obtain rfl := Option.some.inj h; go_simp) hHeld ?_
        simp only [Act.put, List.setIfInBounds_toArray, List.set_cons_zero, List.set_cons_succ]
        refine wpAnyH_ready (rs := [7]) (by kernel_rfl) (by simp) ?_
        refine AllReadyH.cons (i := 7) rfl (fun K hK => ?_) AllReadyH.nil
        go_simp
        refine (HCAL.out _ rfl).mono ?_
        rintro e w5 ⟨rfl, hM5, ⟨vU5, k5, us5, hk5, hW5⟩, hG5, b5, b6, b7, b8⟩
        have y0 := b5.cell; have y1 := b5.frozen; have y2 := b6.cell; have y3 := b6.frozen; have y4 := b7.cell; have y5 := b8.c2
        have H5 := Lib.hid (⟨hM5, hk5, hW5, hG5, b5, b6, b7, b8⟩ : _ ∧ _ ∧ _ ∧ _ ∧ _ ∧ _ ∧ _ ∧ _)
        clear hM5 hk5 hW5 hG5 b5 b6 b7 b8
        refine hK.out _ _ ⟨y4, y5, y2⟩ (fun hHeld => ?_)
        clear hK K
        refine wpAnyH_ready (rs := [8]) (by kernel_rfl) (by simp) ?_
        refine AllReadyH.cons (i := 8) rfl (fun K hK => ?_) AllReadyH.nil
        go_simp
        refine hK.out _ _ ⟨(World.cell?_setCell_other _ _ _ _ (by simp; exact Ne.symm HNB.out.1)).trans y4, (World.cell?_setCell_other _ _ _ _ (by simp)).trans y5, (World.cell?_setCell_other _ _ _ _ (by simp; exact Ne.symm HNB.out.2)).trans y2⟩ (fun _ => ?_)
        clear hK K
        refine wpAnyH_done (by kernel_rfl) ?_ _
        by_cases hz : EE = 0
        · subst hz
          gi_wp2
          obtain ⟨⟨hF, hwk, hk'2, hNN, _⟩, a1, a2, a3, a4, a5⟩ := HREST.out
          obtain ⟨z1, z2, z3, z4, z5, z6, z7, z8⟩ := H5.out
          have := add_end (o2 := (pre ++ [x]).map Fin.val = List.range (pre ++ [x]).length) (m := pre.length) (k := k) (r2 := ByteArray.empty) hNN z4 z1 a3 z3 (by omega) z5 z6 z7 z8 a5 (fun ho => (a4 ho).2) hwk hF rfl
          rw [show pre.length + 1 = (pre ++ [x]).length by simp] at this
          exact this
        · have hz1 : (EE != 0) = true := by simpa using hz
          gi_wp2
          obtain ⟨⟨hF, hwk, hk'2, hNN, _⟩, a1, a2, a3, a4, a5⟩ := HREST.out
          obtain ⟨z1, z2, z3, z4, z5, z6, z7, z8⟩ := H5.out
          exact ⟨(z4.keeps hNN.2.2.2.2.2.2.2.2.2.2.2.2.2.2.2.1 hNN.2.2.2.2.2.2.2.2.2.2.2.2.2.2.2.2.1).trans ((KeepsOthers.setCell _ _ _).from _), rfl, fun ho => hz (a4 ho).1⟩
      · have hr1 : (64 : Int) < (r.size : Int) := by omega
        have hr2 : (64 : Int) ≤ (r.size : Int) := by omega
        gi_wp2_with fail
        have HX : Hid ((r.extract 0 64).data.toList = r.data.toList.take 64) := by unfold Hid; simp [ByteArray.data_extract]
        have HXS : Hid (((r.extract 0 64)).size ≤ 64) := by
          have h1 := congrArg List.length HX.out
          rw [toList_length, List.length_take] at h1
          unfold Hid; omega
        have HPT := Lib.hid (pageT_ok HOK'.out (page + x.1) flags (s := (r.extract 0 64).data.toList) (by rw [toList_length]; exact HXS.out))
        have HORD2 : Hid ((pre ++ [x]).map Fin.val = List.range (pre ++ [x]).length → pageE n root S' (page + x.1) flags (r.extract 0 64).data.toList = 0 ∧ pageT n root S' (page + x.1) flags (r.extract 0 64).data.toList = addS n root S page flags s.data.toList (pre.length + 1) ∧ (r.extract 64 r.size) = restB s (pre.length + 1)) := by
          intro ho
          obtain ⟨o1, o2⟩ := ord_snoc ho
          have e1 := HS'.out o1; have e2 := HRO.out o1
          have e3 := HRD.out pre.length hlen
          have e4 : (r.extract 0 64).data.toList = (s.data.toList.drop (64 * pre.length)).take 64 := by rw [HX.out, e2, restB_list]
          rw [e1, e4, o2]
          refine ⟨e3.1, e3.2, bytes_ext ?_⟩
          rw [restB_list, (show (r.extract 64 r.size).data.toList = r.data.toList.drop 64 by rw [ByteArray.data_extract]; simp only [Array.toList_extract, List.extract_eq_take_drop]; exact List.take_of_length_le (by rw [List.length_drop, toList_length]; exact Nat.le_refl _)), e2, restB_list, List.drop_drop]
          rfl
        have HR2 : Hid (((r.extract 64 r.size)).size ≤ 100000) := by
          have h1 : ((r.extract 64 r.size)).data.toList.length = (r.data.toList.drop 64).length := congrArg List.length (show (r.extract 64 r.size).data.toList = r.data.toList.drop 64 by rw [ByteArray.data_extract]; simp only [Array.toList_extract, List.extract_eq_take_drop]; exact List.take_of_length_le (by rw [List.length_drop, toList_length]; exact Nat.le_refl _))
          rw [toList_length, List.length_drop, toList_length] at h1
          have := HRS.out
          unfold Hid; omega
        have HARM := Lib.hid (⟨HX.out, HXS.out, HPT.out, HORD2.out, HR2.out⟩ : _ ∧ _ ∧ _ ∧ _ ∧ _)
        have HCAL : Hid (∀ W', W' = W.drew → Calls Try.prog 49 #[.pointer (some ⟨pw, 0, none⟩), .int .i64 ((page : Int) + (x.1 : Int)), .int .i64 flags, .string ((r.extract 0 64))] W' fun e w5 => e = .returned (.int .i64 (pageE n root S' (page + x.1) flags (r.extract 0 64).data.toList)) ∧
            (pageT n root S' (page + x.1) flags (r.extract 0 64).data.toList).at w5 p g n ∧ (∃ vU5 k5 us5, k5 ≤ k' + 2 ∧ WorkAt w5 pw p root t d h vA vU5 k5 us5) ∧ Wk g pw W w5 ∧ Boxed w5 be 25 (.int .i64 0) ∧ Boxed w5 br 9 (.string r) ∧ Boxed w5 w.heap.size 57 (.pointer (some ⟨pw, 0, none⟩)) ∧ Boxed4 w5 (w.heap.size + 1) 82 (.int .i64 page) (.int .i64 count) (.int .i64 flags) (.string s)) := by
          rintro _ rfl
          rw [show (page : Int) + (x.1 : Int) = ((page + x.1 : Nat) : Int) by omega]
          refine (addPage_any (MemAt.drew HM'.out) HW'.out.drew HPW.out.1 HPW.out.2.1 (by omega) (page + x.1) flags ((r.extract 0 64)) HFL.out HXS.out HOK'.out).mono ?_
          rintro e w5 ⟨rfl, hM5, hW5, hG5⟩
          have hG6 := hG5.drewL
          exact ⟨rfl, hM5, hW5, hG6, hG6.box HE'.out HNN.out.2.1 HNN.out.2.2.1 (by decide), hG6.box HBR'.out HNN.out.2.2.2.1 HNN.out.2.2.2.2.1 (by decide), hG6.box HBW'.out (by have := HPW.out; omega) (by have := HPW.out; omega) (by decide), hG6.box4 HBP'.out (by have := HPW.out; omega) (by have := HPW.out; omega) (by decide)⟩
        clear HX HXS HPT HORD2 HR2 HRO HS' HM' HW' HE' HBR' HBW' HBP' HOK' HRS
        generalize hEE : pageE n root S' (page + x.1) flags (r.extract 0 64).data.toList = EE at HARM HCAL
        clear hEE
        have HREST := Lib.hid (⟨HALL.out, HARM.out⟩ : _ ∧ _)
        clear HALL HARM
        refine round_region (S := fun w' => w'.cell? ⟨w.heap.size, 0, none⟩ = some (.pointer (some ⟨pw, 0, none⟩)) ∧ w'.cell? ⟨w.heap.size + 1, 2, none⟩ = some (.int .i64 flags) ∧ w'.cell? ⟨br, 0, none⟩ = some (.string r)) (by kernel_rfl) (by kernel_rfl) (by rintro ⟨_, _, hq⟩; exact hq) ⟨q2, q3, q1⟩ (fun hHeld => ?_)
        change wpAnyH _ _ _ _ _ 9 (Array.replicate 9 false) _ _
        refine takeH 0 (.pointer (some ⟨pw, 0, none⟩)) (some 20) rfl (by kernel_rfl) (by kernel_rfl) (by kernel_rfl) (fun _ _ _ h => h) (fun oi h => by obtain rfl := Option.some.inj h; rfl) (fun oi h W hS => by obtain ⟨hS1, hS2, hS3⟩ := hS; obtain rfl := Option.some.inj h; go_simp) hHeld ?_
        simp only [Act.put, List.setIfInBounds_toArray, List.set_cons_zero, List.set_cons_succ]
        refine takeH 1 (.int .i64 ((page : Int) + (x.1 : Int))) (some 21) rfl (by kernel_rfl) (by kernel_rfl) (by kernel_rfl) (fun _ _ _ h => h) (fun oi h => by obtain rfl := Option.some.inj h; rfl) (fun oi h W hS => by obtain ⟨hS1, hS2, hS3⟩ := hS; obtain rfl := Option.some.inj h; go_simp) hHeld ?_
        simp only [Act.put, List.setIfInBounds_toArray, List.set_cons_zero, List.set_cons_succ]
        refine takeH 2 (.pointer (some ⟨w.heap.size + 1, 2, none⟩)) (some 22) rfl (by kernel_rfl) (by kernel_rfl) (by kernel_rfl) (fun _ _ _ h => h) (fun oi h => by obtain rfl := Option.some.inj h; rfl) (fun oi h W hS => by obtain ⟨hS1, hS2, hS3⟩ := hS; obtain rfl := Option.some.inj h; go_simp) hHeld ?_
        simp only [Act.put, List.setIfInBounds_toArray, List.set_cons_zero, List.set_cons_succ]
        refine takeH 3 (.int .i64 flags) (some 23) rfl (by kernel_rfl) (by kernel_rfl) (by kernel_rfl) (fun _ _ _ h => h) (fun oi h => by obtain rfl := Option.some.inj h; rfl) (fun oi h W hS => by obtain ⟨hS1, hS2, hS3⟩ := hS; obtain rfl := Option.some.inj h; go_simp) hHeld ?_
        simp only [Act.put, List.setIfInBounds_toArray, List.set_cons_zero, List.set_cons_succ]
        refine takeH 4 (.string r) (some 24) rfl (by kernel_rfl) (by kernel_rfl) (by kernel_rfl) (fun _ _ _ h => h) (fun oi h => by obtain rfl := Option.some.inj h; rfl) (fun oi h W hS => by obtain ⟨hS1, hS2, hS3⟩ := hS; obtain rfl := Option.some.inj h; go_simp) hHeld ?_
        simp only [Act.put, List.setIfInBounds_toArray, List.set_cons_zero, List.set_cons_succ]
        refine takeH 5 (.int .i64 64) (some 25) rfl (by kernel_rfl) (by kernel_rfl) (by kernel_rfl) (fun _ _ _ h => h) (fun oi h => by obtain rfl := Option.some.inj h; rfl) (fun oi h W hS => by obtain ⟨hS1, hS2, hS3⟩ := hS; obtain rfl := Option.some.inj h; go_simp) hHeld ?_
        simp only [Act.put, List.setIfInBounds_toArray, List.set_cons_zero, List.set_cons_succ]
        refine takeH 6 (.string (r.extract 0 64)) (some 26) rfl (by kernel_rfl) (by kernel_rfl) (by kernel_rfl) (fun _ _ _ h => h) (fun oi h => by obtain rfl := Option.some.inj h; rfl) (fun oi h W hS => by obtain ⟨hS1, hS2, hS3⟩ := hS; obtain rfl := Option.some.inj h; go_simp) hHeld ?_
        simp only [Act.put, List.setIfInBounds_toArray, List.set_cons_zero, List.set_cons_succ]
        refine wpAnyH_ready (rs := [7]) (by kernel_rfl) (by simp) ?_
        refine AllReadyH.cons (i := 7) rfl (fun K hK => ?_) AllReadyH.nil
        go_simp
        refine (HCAL.out _ rfl).mono ?_
        rintro e w5 ⟨rfl, hM5, ⟨vU5, k5, us5, hk5, hW5⟩, hG5, b5, b6, b7, b8⟩
        have y0 := b5.cell; have y1 := b5.frozen; have y2 := b6.cell; have y3 := b6.frozen; have y4 := b7.cell; have y5 := b8.c2
        have H5 := Lib.hid (⟨hM5, hk5, hW5, hG5, b5, b6, b7, b8⟩ : _ ∧ _ ∧ _ ∧ _ ∧ _ ∧ _ ∧ _ ∧ _)
        clear hM5 hk5 hW5 hG5 b5 b6 b7 b8
        refine hK.out _ _ ⟨y4, y5, y2⟩ (fun hHeld => ?_)
        clear hK K
        refine wpAnyH_ready (rs := [8]) (by kernel_rfl) (by simp) ?_
        refine AllReadyH.cons (i := 8) rfl (fun K hK => ?_) AllReadyH.nil
        go_simp
        refine hK.out _ _ ⟨(World.cell?_setCell_other _ _ _ _ (by simp; exact Ne.symm HNB.out.1)).trans y4, (World.cell?_setCell_other _ _ _ _ (by simp)).trans y5, (World.cell?_setCell_other _ _ _ _ (by simp; exact Ne.symm HNB.out.2)).trans y2⟩ (fun _ => ?_)
        clear hK K
        refine wpAnyH_done (by kernel_rfl) ?_ _
        by_cases hz : EE = 0
        · subst hz
          gi_wp2
          obtain ⟨⟨hF, hwk, hk'2, hNN, _⟩, a1, a2, a3, a4, a5⟩ := HREST.out
          obtain ⟨z1, z2, z3, z4, z5, z6, z7, z8⟩ := H5.out
          have := add_end (o2 := (pre ++ [x]).map Fin.val = List.range (pre ++ [x]).length) (m := pre.length) (k := k) (r2 := (r.extract 64 r.size)) hNN z4 z1 a3 z3 (by omega) z5 z6 z7 z8 a5 (fun ho => (a4 ho).2) hwk hF rfl
          rw [show pre.length + 1 = (pre ++ [x]).length by simp] at this
          exact this
        · have hz1 : (EE != 0) = true := by simpa using hz
          gi_wp2
          obtain ⟨⟨hF, hwk, hk'2, hNN, _⟩, a1, a2, a3, a4, a5⟩ := HREST.out
          obtain ⟨z1, z2, z3, z4, z5, z6, z7, z8⟩ := H5.out
          exact ⟨(z4.keeps hNN.2.2.2.2.2.2.2.2.2.2.2.2.2.2.2.1 hNN.2.2.2.2.2.2.2.2.2.2.2.2.2.2.2.2.1).trans ((KeepsOthers.setCell _ _ _).from _), rfl, fun ho => hz (a4 ho).1⟩
    case done =>
      rintro D ys W hD hys ⟨hI, hF⟩ hK
      have hylen : ys.length = count := by have := congrArg List.length hys; simpa using this
      have hI2 := hI.own (B := W3.heap.size) (grownBy_putObj' W D (.deferred none)) (fun r e => by cases e; exact ⟨hD, _, hK, rfl⟩) (by have := HNE.out; have := HS3.out; omega) (Nat.le_of_lt HPW.out.2.2)
      have hoo : ys.map Fin.val = List.range ys.length := by rw [hylen]; exact hys
      obtain ⟨⟨S', hm', ok', hS'⟩, ⟨vU', k', us', hk', hw'⟩, _, _, _, _, hwk⟩ := hI2
      have q0 := hI.e.cell
      have HFIN : Hid ((addS n root S page flags s.data.toList count).at (W.putObj D (.deferred none)) p g n ∧ (∃ vU' k' us', k' ≤ k + 2 * count ∧ WorkAt (W.putObj D (.deferred none)) pw p root t d h vA vU' k' us') ∧ Wk g pw w (W.putObj D (.deferred none))) := by
        have e1 := hS' hoo
        rw [hylen] at e1 hk'
        exact ⟨e1 ▸ hm', ⟨vU', k', us', hk', hw'⟩, hwk⟩
      have HK := Lib.hid hK
      clear hI hm' ok' hS' hk' hw' hwk hys hoo hF hylen h0 hK
      gi_wp2
      rw [Exit.noGoto_ret]
      refine ⟨by simp, .inl ⟨_, _, rfl, run_takeDeferred HK.out, ?_⟩⟩
      exact ⟨_, results_tmp rfl _ _ _, rfl, HFIN.out⟩
    case stop =>
      rintro D c pre W hD ⟨kk, hkk, hpre⟩ ⟨rfl, hno⟩ hK
      have hl : pre.length = kk := by have := congrArg List.length hpre; simpa using this
      exact absurd (by rw [hl]; exact hpre) hno

end
end Go.Proofs.Ytdkaaoboipphcaa
