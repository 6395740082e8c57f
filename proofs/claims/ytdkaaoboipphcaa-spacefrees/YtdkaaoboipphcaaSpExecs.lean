/- Package space: Exec, where it can be done, and of bytes that are no image, walked. -/
import Derived.Test.YtdkaaoboipphcaaSpExec
namespace Go.Proofs.Ytdkaaoboipphcaa
open Go.RowKit Go.Shelf

theorem cells_alloc3 {W : World} {x : Addr} {v : Value} (o1 o2 o3 : Obj) (h : W.cell? x = some v) : (((W.alloc o1).alloc o2).alloc o3).cell? x = some v := cell_allocL _ (cell_allocL _ (cell_allocL _ h))

/-- three new blocks are of their types. -/
theorem alloc3_no {W : World} {t1 t2 t3 ty : TypeId} (A1 A2 A3 : Array Value) {c : Nat} (h1 : W.heap.size ≤ c) (h2 : c ≤ W.heap.size + 2) (n1 : t1 ≠ ty) (n2 : t2 ≠ ty) (n3 : t3 ≠ ty) :
    ∀ C f, (((W.alloc (.cells A1 t1)).alloc (.cells A2 t2)).alloc (.cells A3 t3)).heap[c]? ≠ some (.cells C ty f) := by
  intro C f e
  rcases (by omega : c = W.heap.size ∨ c = W.heap.size + 1 ∨ c = W.heap.size + 2) with rfl | rfl | rfl
  · rw [Below.heap_alloc _ _ _ (by simp; omega), Below.heap_alloc _ _ _ (by simp), heap_alloc_new] at e
    simp at e; exact n1 e.2.1
  · have := heap_alloc_new (W.alloc (.cells A1 t1)) (.cells A2 t2)
    rw [World.size_alloc] at this
    rw [Below.heap_alloc _ _ _ (by simp), this] at e
    simp at e; exact n2 e.2.1
  · have := heap_alloc_new ((W.alloc (.cells A1 t1)).alloc (.cells A2 t2)) (.cells A3 t3)
    rw [World.size_alloc, World.size_alloc] at this
    rw [this] at e
    simp at e; exact n3 e.2.1

theorem exec_whole {Wx : World} {pw p g n : Nat} {R : Nat → Int} {B : Nat → List UInt8} {r : Int} {vU : Value} {k : Nat} {us : List Value} (hm : MemAt Wx p g n R B) (t d : Nat) (hw : WorkAt Wx pw p r t d 0 (.slice none 0 0) vU k us) (hgp : g < pw) (hpp : p < pw) (hk : k ≤ 1000) (tx dx : ByteArray) (hs1 : tx.size ≤ 1000) (hs2 : dx.size ≤ 1000) (ha : allocE n R = 0)
    (hok : (rootS n R B).ok n (allocN n R)) (hu : usedN n (rootS n R B).R + 2 * (t + d + 2) ≤ n) (ht : t + d ≤ 254) (bw bt bd : Nat) (c1 : Wx.cell? ⟨bw, 0, none⟩ = some (.pointer (some ⟨pw, 0, none⟩))) (c2 : Wx.cell? ⟨bt, 0, none⟩ = some (.string tx)) (c3 : Wx.cell? ⟨bd, 0, none⟩ = some (.string dx)) :
    Calls Try.prog 20 #[.pointer (some ⟨pw, 0, none⟩), .func (.func 21) #[] #[.pointer (some ⟨bw, 0, none⟩), .pointer (some ⟨bt, 0, none⟩), .pointer (some ⟨bd, 0, none⟩)]] Wx fun e w' =>
      e = .returned (.tuple #[.agg #[.int .i64 (allocN n R : Nat), .int .i64 t, .int .i64 d, .int .i64 0, .slice none 0 0], .int .i64 0]) ∧ (loadS n (allocN n R) (rootS n R B) t d tx.data.toList dx.data.toList).at w' p g n ∧ Wk g pw Wx w' := by
  have hpl := hm.p_lt; have hgl := hm.g_lt
  have hpwl := hw.lt
  have hW1 : Wk g pw Wx (((Wx.alloc (.cells #[.pointer (some ⟨pw, 0, none⟩)] 57)).alloc (.cells #[.int .i64 0, .int .i64 0, .int .i64 0, .int .i64 0, .slice none 0 0] 32)).alloc (.cells #[.int .i64 0] 25)) := (((Wk.refl g pw Wx).alloc (Nat.le_of_lt hpwl) _).alloc (Nat.le_of_lt hpwl) _).alloc (Nat.le_of_lt hpwl) _
  refine (whole_ok (r := (allocN n R : Nat)) (t := t) (d := d) (h := 0) (p := p) 21 _ (enters_of Try.func21 (by kernel_rfl) rfl) hpwl (fun W a len cap => ((loadS n (allocN n R) (rootS n R B) t d tx.data.toList dx.data.toList).at W p g n ∧ Wk g pw Wx W) ∧ a = none ∧ len = 0 ∧ cap = 0) ?_ ?_ ?_).mono ?_
  · refine (exec1_ok (((hm.alloc _).alloc _).alloc _) t d (((hw.alloc _).alloc _).alloc _) hgp hpp hk tx dx hs1 hs2 ha hok hu ht bw bt bd (cells_alloc3 _ _ _ c1) (cells_alloc3 _ _ _ c2) (cells_alloc3 _ _ _ c3)).mono ?_
    rintro e w' ⟨rfl, a1, ⟨vU', k', us', a2⟩, a3⟩
    refine ⟨rfl, ⟨none, 0, 0, ⟨vU', k', us', a2⟩, ⟨a1, hW1.trans a3⟩, rfl, rfl, rfl⟩, fun c h1 h2 => ?_⟩
    exact a3.block c (by simp; omega) (by omega) (by omega) (alloc3_no _ _ _ h1 h2 (by decide) (by decide) (by decide))
  · rintro W a len cap c o v ⟨⟨x1, x3⟩, x2⟩ hc
    exact ⟨⟨MemAt.setOther x1 _ _ _ (by omega) (by omega), x3.setNew (Nat.le_of_lt hpwl) _ _ (by omega)⟩, x2⟩
  · rintro W a len cap ⟨⟨x1, x3⟩, x2⟩
    exact ⟨⟨MemAt.drew x1, x3.drewR⟩, x2⟩
  · rintro e w' ⟨a, len, cap, rfl, ⟨a1, a3⟩, rfl, rfl, rfl⟩
    exact ⟨rfl, a1, a3⟩

/-- Exec, ahead of its work: what lies in the world. -/
structure ExF (w Wx : World) (pw bw bt bd p g n : Nat) (R : Nat → Int) (B : Nat → List UInt8) (t d : Nat) (x y : ByteArray) : Prop where
  mem : MemAt Wx p g n R B
  work : WorkAt Wx pw p 0 t d 0 (.slice none 0 0) (.slice none 0 0) 0 []
  cw : Wx.cell? ⟨bw, 0, none⟩ = some (.pointer (some ⟨pw, 0, none⟩))
  ct : Wx.cell? ⟨bt, 0, none⟩ = some (.string x)
  cd : Wx.cell? ⟨bd, 0, none⟩ = some (.string y)
  z : Wx.heap[w.heap.size]? = some (.cells #[.int .i64 0, .int .i64 0, .int .i64 0, .int .i64 0, .slice none 0 0] 32 (0, 0))
  gr : w.grownBy Wx (some g)
  lt : w.heap.size < pw
  gp : g < w.heap.size
  pp : p < w.heap.size

theorem exA {w W3 w5 : World} {bt bd p g n : Nat} {R : Nat → Int} {B : Nat → List UInt8} {t d : Nat} {x y : ByteArray} (hm : MemAt W3 p g n R B) (hw : WorkAt w5 (W3.heap.size + 1) p 0 t d 0 (.slice none 0 0) (.slice none 0 0) 0 []) (hb : Below W3.heap.size W3.drew w5)
    (u0 : w5.cell? ⟨bt, 0, none⟩ = some (.string x)) (u1 : w5.cell? ⟨bd, 0, none⟩ = some (.string y)) (hz : W3.heap[w.heap.size]? = some (.cells #[.int .i64 0, .int .i64 0, .int .i64 0, .int .i64 0, .slice none 0 0] 32 (0, 0))) (hg : w.grownBy W3 (some g)) (gp : g < w.heap.size) (pp : p < w.heap.size) :
    ExF w (w5.alloc (.cells #[.pointer (some ⟨W3.heap.size + 1, 0, none⟩)] 57)) (W3.heap.size + 1) w5.heap.size bt bd p g n R B t d x y := by
  have hzl : w.heap.size < W3.heap.size := (Array.getElem?_eq_some_iff.1 hz).1
  have hb' : Below W3.heap.size W3 w5 := drew_below hb
  exact ⟨(hm.below hb').alloc _, hw.alloc _, by simp, cell_allocL _ u0, cell_allocL _ u1, (Below.heap_alloc _ _ _ (by have := hb'.size; omega)).trans ((hb'.block _ hzl).trans hz), grown_trans hg (grown_trans (grown_of_below hb' _) (World.grownBy_alloc _ _ _)), by omega, gp, pp⟩

theorem exB {w W3 w5 : World} {bt bd p g n : Nat} {R : Nat → Int} {B : Nat → List UInt8} {t d : Nat} {x y : ByteArray} (hm : MemAt W3 p g n R B) (hw : WorkAt w5 (W3.heap.size + 1 + 1) p 0 t d 0 (.slice none 0 0) (.slice none 0 0) 0 []) (hb : Below (W3.heap.size + 1) (W3.alloc (.cells #[.pointer none] 57)).drew w5)
    (u0 : w5.cell? ⟨bt, 0, none⟩ = some (.string x)) (u1 : w5.cell? ⟨bd, 0, none⟩ = some (.string y)) (hbt : bt < W3.heap.size) (hbd : bd < W3.heap.size) (hz : W3.heap[w.heap.size]? = some (.cells #[.int .i64 0, .int .i64 0, .int .i64 0, .int .i64 0, .slice none 0 0] 32 (0, 0))) (hg : w.grownBy W3 (some g)) (gp : g < w.heap.size) (pp : p < w.heap.size) :
    ExF w (w5.setCell ⟨W3.heap.size, 0, none⟩ (.pointer (some ⟨W3.heap.size + 1 + 1, 0, none⟩))) (W3.heap.size + 1 + 1) W3.heap.size bt bd p g n R B t d x y := by
  have hzl : w.heap.size < W3.heap.size := (Array.getElem?_eq_some_iff.1 hz).1
  have hb' : Below (W3.heap.size + 1) (W3.alloc (.cells #[.pointer none] 57)) w5 := drew_below hb
  have hbW : Below W3.heap.size W3 w5 := ((Below.refl _ W3).alloc (Nat.le_refl _) _).trans (hb'.mono (Nat.le_succ _))
  have hbx : w5.heap[W3.heap.size]? = some (.cells #[.pointer none] 57 (0, 0)) := (hb'.block _ (Nat.lt_succ_self _)).trans (heap_alloc_new W3 _)
  have hbS : Below W3.heap.size W3 (w5.setCell ⟨W3.heap.size, 0, none⟩ (.pointer (some ⟨W3.heap.size + 1 + 1, 0, none⟩))) := hbW.setCell (p := ⟨W3.heap.size, 0, none⟩) (Nat.le_refl _) _
  exact ⟨hm.below hbS, hw.setOther _ _ (by omega) (by simp [Value.ownBlock]), World.cell?_setCell_same' _ _ _ (by simp [World.cell?, hbx]), cell_far u0 (by omega), cell_far u1 (by omega), (hbS.block _ hzl).trans hz, grown_trans hg (grown_of_below hbS _), by omega, gp, pp⟩

section
variable {w : World} {p g n : Nat} {R : Nat → Int} {B : Nat → List UInt8}

set_option maxRecDepth 100000 in
set_option maxHeartbeats 4000000 in
theorem exec_short (s : ByteArray) (hs : s.size < 3) (w : World) : Calls Try.prog 7 #[.pointer (some ⟨p, 0, none⟩), .string s] w fun e w' => e = .returned (.tuple #[.agg #[.int .i64 0, .int .i64 0, .int .i64 0, .int .i64 0, .slice none 0 0], .int .i64 40]) ∧ Below w.heap.size w w' := by
  have HS := Lib.hid hs; clear hs
  go_enter Try.func7, Try.ntmps7
  go_wp2_with fail
  refine (split_short s HS.out _).mono ?_
  rintro e w2 ⟨rfl, rfl⟩
  go_wp2
  refine bodyPost_ret (v := .tuple #[.agg #[.int .i64 0, .int .i64 0, .int .i64 0, .int .i64 0, .slice none 0 0], .int .i64 40]) (by simp [results, Try.results7, go_sem]) rfl ⟨rfl, ?_⟩
  have hb := ((Below.refl w.heap.size w).alloc (Nat.le_refl _) (.cells #[.int .i64 0, .int .i64 0, .int .i64 0, .int .i64 0, .slice none 0 0] 32))
  exact ((hb.alloc (by simp) _).alloc (by simp; omega) _)

set_option maxRecDepth 100000 in
set_option maxHeartbeats 8000000 in
theorem exec_ok (hm : MemAt w p g n R B) (im : ByteArray) (a b : Nat) (hs : im.size = 3 + a + b) (ha : a < 256) (hb : b < 256) (h0 : im.data.toList[0]? = some 88) (h1 : im.data.toList[1]? = some (UInt8.ofNat a)) (h2 : im.data.toList[2]? = some (UInt8.ofNat b))
    (hu : usedN n R + 1 + 2 * ((a + 63) / 64 + (b + 63) / 64 + 2) ≤ n) :
    Calls Try.prog 7 #[.pointer (some ⟨p, 0, none⟩), .string im] w fun e w' => e = .returned (.tuple #[.agg #[.int .i64 (allocN n R : Nat), .int .i64 ((a + 63) / 64 : Nat), .int .i64 ((b + 63) / 64 : Nat), .int .i64 0, .slice none 0 0], .int .i64 0]) ∧
      (loadS n (allocN n R) (rootS n R B) ((a + 63) / 64) ((b + 63) / 64) ((im.data.toList.drop 3).take a) (im.data.toList.drop (3 + a))).at w' p g n ∧ w.grownBy w' (some g) := by
  obtain ⟨x0, hx0⟩ := used_free (R := R) (n := n) (by omega)
  obtain ⟨t1, t2, _⟩ := allocF_inv hx0
  obtain ⟨eA, eN, eE⟩ := alloS_some (S := ⟨R, B, fun _ => (0, 0), fun _ => (0, 0)⟩) hx0
  have eR : rootS n R B = ⟨updR R x0 1, updB B x0 zeroPage, fun _ => (0, 0), fun _ => (0, 0)⟩ := eA
  have HOK : Hid ((rootS n R B).ok n (allocN n R)) := by
    unfold Hid
    rw [eR, show allocN n R = x0 from eN]
    exact fresh_ok t1 (fun k hk => (hm.hR k hk).1) hm.hB hm.hn
  have HU : Hid (usedN n (rootS n R B).R + 2 * ((a + 63) / 64 + (b + 63) / 64 + 2) ≤ n) := by
    unfold Hid
    rw [eR]
    have := used_upd1 R x0 1 n
    show usedN n (updR R x0 1) + _ ≤ n
    omega
  have HAE : Hid (allocE n R = 0) := eE
  have HSP := Lib.hid (fun W => split_ok im a b hs ha hb h0 h1 h2 W)
  have hl : im.data.toList.length = im.size := toList_length im
  have HN := Lib.hid (⟨hs, ha, hb, hm.g_lt, hm.p_lt⟩ : _ ∧ _ ∧ _ ∧ _ ∧ _)
  have HM0 : Hid (MemAt (w.alloc (.cells #[.int .i64 0, .int .i64 0, .int .i64 0, .int .i64 0, .slice none 0 0] 32)) p g n R B) := hm.alloc _
  clear hm hs ha hb h0 h1 h2 hu hx0 t1 t2 eA eN eE eR
  go_enter Try.func7, Try.ntmps7
  go_wp2_with fail
  refine (HSP.out _).mono ?_
  rintro e w2 ⟨⟨x, y, rfl, hx, hy⟩, hB2⟩
  have HX : Hid (x.data.toList = (im.data.toList.drop 3).take a ∧ y.data.toList = im.data.toList.drop (3 + a) ∧ x.size = a ∧ y.size = b) := by
    have lx := congrArg List.length hx
    have ly := congrArg List.length hy
    rw [toList_length, List.length_take, List.length_drop, hl] at lx
    rw [toList_length, List.length_drop, hl] at ly
    have := HN.out
    exact ⟨hx, hy, by omega, by omega⟩
  clear hx hy hl
  go_wp2_with fail
  have HW3 : Hid (MemAt ((w2.alloc (.cells #[.string x] 9)).alloc (.cells #[.string y] 9)) p g n R B) := ((MemAt.below2 HM0.out hB2).alloc _).alloc _
  have t0 : ((w2.alloc (.cells #[.string x] 9)).alloc (.cells #[.string y] 9)).cell? ⟨w2.heap.size, 0, none⟩ = some (.string x) := by simp
  have t1 : ((w2.alloc (.cells #[.string x] 9)).alloc (.cells #[.string y] 9)).cell? ⟨w2.heap.size + 1, 0, none⟩ = some (.string y) := by simp
  have hB3 : Below (w.heap.size + 1) (w.alloc (.cells #[.int .i64 0, .int .i64 0, .int .i64 0, .int .i64 0, .slice none 0 0] 32)) ((w2.alloc (.cells #[.string x] 9)).alloc (.cells #[.string y] 9)) := by
    have h1 : Below (w.heap.size + 1) (w.alloc (.cells #[.int .i64 0, .int .i64 0, .int .i64 0, .int .i64 0, .slice none 0 0] 32)) w2 := by have := hB2; simp only [World.size_alloc] at this; exact this
    have := h1.size
    simp only [World.size_alloc] at this
    exact (h1.alloc (by omega) _).alloc (by simp; omega) _
  have hsz3 : Hid (((w2.alloc (.cells #[.string x] 9)).alloc (.cells #[.string y] 9)).heap.size = w2.heap.size + 2 ∧ w.heap.size + 1 ≤ w2.heap.size) := ⟨by simp, by have := hB2.size; simp at this; omega⟩
  have HZ : Hid (((w2.alloc (.cells #[.string x] 9)).alloc (.cells #[.string y] 9)).heap[w.heap.size]? = some (.cells #[.int .i64 0, .int .i64 0, .int .i64 0, .int .i64 0, .slice none 0 0] 32 (0, 0))) := (hB3.block _ (Nat.lt_succ_self _)).trans (heap_alloc_new w _)
  have HG3 : Hid (w.grownBy ((w2.alloc (.cells #[.string x] 9)).alloc (.cells #[.string y] 9)) (some g)) := grown_trans (World.grownBy_alloc w _ _) ⟨hB3.os, hB3.tape, hB3.output, by have := hB3.size; simpa using this, fun k hk _ => hB3.block k (by simpa using hk)⟩
  clear hB2 hB3
  generalize (w2.alloc (.cells #[.string x] 9)).alloc (.cells #[.string y] 9) = W3 at *
  have hb0 : Hid (w2.heap.size + 1 < W3.heap.size) := by have := hsz3.out; unfold Hid; omega
  go_region_held3 (fun w' => w'.cell? ⟨w2.heap.size, 0, none⟩ = some (.string x) ∧ w'.cell? ⟨w2.heap.size + 1, 0, none⟩ = some (.string y)) (first | exact ⟨t0, t1⟩ | exact ⟨u0, u1⟩ | go_keep | exact ⟨cell_far u0 (by have := hb0.out; omega), cell_far u1 (by have := hb0.out; omega)⟩) (first
    | (go_at_call 19; refine (pagesOf_any _ (by have := HX.out; have := HN.out; omega) _).mono ?_; rintro e w' ⟨rfl, rfl⟩)
    | (go_at_call 18; refine (begin_nil p 0 (((x.size + 63) / 64 : Nat) : Int) (((y.size + 63) / 64 : Nat) : Int) 0 _).mono ?_; rintro e w5 ⟨rfl, hW5, hB5, hs5⟩; have u0 := (hB5.cell (p := ⟨w2.heap.size, 0, none⟩) (by have := hb0.out; simp; omega)).trans (by first | exact t0 | exact cell_allocL _ t0); have u1 := (hB5.cell (p := ⟨w2.heap.size + 1, 0, none⟩) (by have := hb0.out; simp; omega)).trans (by first | exact t1 | exact cell_allocL _ t1); (try (have u4 := (hB5.block W3.heap.size (by simp)).trans (heap_alloc_new W3 _); have u2 : w5.cell? ⟨W3.heap.size, 0, none⟩ = some (.pointer none) := (by simp [World.cell?, u4]); have u3 : w5.frozen? ⟨W3.heap.size, 0, none⟩ = false := (by simp [World.frozen?, u4]); have HU4 := Lib.hid u4; clear u4)); have H5 := Lib.hid (⟨hW5, hB5, hs5⟩ : _ ∧ _ ∧ _); clear hW5 hB5 hs5))
  · have F := Lib.hid (exA HW3.out H5.out.1 H5.out.2.1 u0 u1 HZ.out HG3.out HN.out.2.2.2.1 HN.out.2.2.2.2)
    generalize w5.alloc (.cells #[.pointer (some ⟨W3.heap.size + 1, 0, none⟩)] 57) = Wx at *
    clear u0 u1 t0 t1 H5
    have cw := F.out.cw
    go_wp2_with fail
    refine (exec_whole F.out.mem _ _ F.out.work (by have := F.out.lt; have := F.out.gp; omega) (by have := F.out.lt; have := F.out.pp; omega) (by omega) x y (by have := HX.out; have := HN.out; omega) (by have := HX.out; have := HN.out; omega) HAE.out HOK.out (by rw [HX.out.2.2.1, HX.out.2.2.2]; exact HU.out) (by have := HX.out; have := HN.out; omega) _ _ _ F.out.cw F.out.ct F.out.cd).mono ?_
    rintro e w9 ⟨rfl, hM9, hG9⟩
    have hZ9 := (hG9.low _ F.out.lt (by have := F.out.gp; omega)).trans F.out.z
    have HM9 := Lib.hid hM9
    have HG9 : Hid (w.grownBy w9 (some g)) := by
      have h1 := F.out.gr; have h2 := F.out.lt
      exact ⟨hG9.os.trans h1.os, hG9.tape.trans h1.tape, hG9.output.trans h1.output, Nat.le_trans h1.size hG9.size, fun k hk hne => (hG9.low k (by omega) (fun e => hne (by rw [e]))).trans (h1.block k hk hne)⟩
    have k0 : w9.cell? ⟨w.heap.size, 0, none⟩ = some (.int .i64 0) := by simp [World.cell?, hZ9]
    have k1 : w9.cell? ⟨w.heap.size, 1, none⟩ = some (.int .i64 0) := by simp [World.cell?, hZ9]
    have k2 : w9.cell? ⟨w.heap.size, 2, none⟩ = some (.int .i64 0) := by simp [World.cell?, hZ9]
    have k3 : w9.cell? ⟨w.heap.size, 3, none⟩ = some (.int .i64 0) := by simp [World.cell?, hZ9]
    have k4 : w9.cell? ⟨w.heap.size, 4, none⟩ = some (.slice none 0 0) := by simp [World.cell?, hZ9]
    have f0 : w9.frozen? ⟨w.heap.size, 0, none⟩ = false := by simp [World.frozen?, hZ9]
    have f1 : w9.frozen? ⟨w.heap.size, 1, none⟩ = false := by simp [World.frozen?, hZ9]
    have f2 : w9.frozen? ⟨w.heap.size, 2, none⟩ = false := by simp [World.frozen?, hZ9]
    have f3 : w9.frozen? ⟨w.heap.size, 3, none⟩ = false := by simp [World.frozen?, hZ9]
    have f4 : w9.frozen? ⟨w.heap.size, 4, none⟩ = false := by simp [World.frozen?, hZ9]
    have HZ9 := Lib.hid hZ9
    clear hM9 hG9 hZ9 cw
    go_wp2
    have ex : ((x.size : Int) + 63) / 64 = (((a + 63) / 64 : Nat) : Int) := by have := HX.out; omega
    have ey : ((y.size : Int) + 63) / 64 = (((b + 63) / 64 : Nat) : Int) := by have := HX.out; omega
    rw [ex, ey]
    clear ex ey k0 k1 k2 k3 k4 f0 f1 f2 f3 f4
    have hB10 : (((((w9.setCell ⟨w.heap.size, 0, none⟩ (.int .i64 (allocN n R : Nat))).setCell ⟨w.heap.size, 1, none⟩ (.int .i64 ((a + 63) / 64 : Nat))).setCell ⟨w.heap.size, 2, none⟩ (.int .i64 ((b + 63) / 64 : Nat))).setCell ⟨w.heap.size, 3, none⟩ (.int .i64 0)).setCell ⟨w.heap.size, 4, none⟩ (.slice none 0 0)).heap[w.heap.size]? = some (.cells #[.int .i64 (allocN n R : Nat), .int .i64 ((a + 63) / 64 : Nat), .int .i64 ((b + 63) / 64 : Nat), .int .i64 0, .slice none 0 0] 32 (0, 0)) :=
      heap_setCell_same _ _ _ _ _ _ (heap_setCell_same _ _ _ _ _ _ (heap_setCell_same _ _ _ _ _ _ (heap_setCell_same _ _ _ _ _ _ (heap_setCell_same _ _ _ _ _ _ HZ9.out))))
    have HM10 : Hid ((loadS n (allocN n R) (rootS n R B) ((a + 63) / 64) ((b + 63) / 64) ((im.data.toList.drop 3).take a) (im.data.toList.drop (3 + a))).at (((((w9.setCell ⟨w.heap.size, 0, none⟩ (.int .i64 (allocN n R : Nat))).setCell ⟨w.heap.size, 1, none⟩ (.int .i64 ((a + 63) / 64 : Nat))).setCell ⟨w.heap.size, 2, none⟩ (.int .i64 ((b + 63) / 64 : Nat))).setCell ⟨w.heap.size, 3, none⟩ (.int .i64 0)).setCell ⟨w.heap.size, 4, none⟩ (.slice none 0 0)) p g n) := by
      have h1 := HM9.out
      rw [HX.out.1, HX.out.2.1, HX.out.2.2.1, HX.out.2.2.2] at h1
      have hp : p ≠ w.heap.size := by have := HN.out; omega
      have hg : g ≠ w.heap.size := by have := HN.out; omega
      exact MemAt.setOther (MemAt.setOther (MemAt.setOther (MemAt.setOther (MemAt.setOther h1 _ _ _ hp hg) _ _ _ hp hg) _ _ _ hp hg) _ _ _ hp hg) _ _ _ hp hg
    have HG10 : Hid (w.grownBy (((((w9.setCell ⟨w.heap.size, 0, none⟩ (.int .i64 (allocN n R : Nat))).setCell ⟨w.heap.size, 1, none⟩ (.int .i64 ((a + 63) / 64 : Nat))).setCell ⟨w.heap.size, 2, none⟩ (.int .i64 ((b + 63) / 64 : Nat))).setCell ⟨w.heap.size, 3, none⟩ (.int .i64 0)).setCell ⟨w.heap.size, 4, none⟩ (.slice none 0 0)) (some g)) := grown_setNew (grown_setNew (grown_setNew (grown_setNew (grown_setNew HG9.out _ _ (Nat.le_refl _)) _ _ (Nat.le_refl _)) _ _ (Nat.le_refl _)) _ _ (Nat.le_refl _)) _ _ (Nat.le_refl _)
    generalize ((((w9.setCell ⟨w.heap.size, 0, none⟩ (.int .i64 (allocN n R : Nat))).setCell ⟨w.heap.size, 1, none⟩ (.int .i64 ((a + 63) / 64 : Nat))).setCell ⟨w.heap.size, 2, none⟩ (.int .i64 ((b + 63) / 64 : Nat))).setCell ⟨w.heap.size, 3, none⟩ (.int .i64 0)).setCell ⟨w.heap.size, 4, none⟩ (.slice none 0 0) = W10 at *
    have s0 : W10.cell? ⟨w.heap.size, 0, none⟩ = some (.int .i64 (allocN n R : Nat)) := by simp [World.cell?, hB10]
    have s1 : W10.cell? ⟨w.heap.size, 1, none⟩ = some (.int .i64 ((a + 63) / 64 : Nat)) := by simp [World.cell?, hB10]
    have s2 : W10.cell? ⟨w.heap.size, 2, none⟩ = some (.int .i64 ((b + 63) / 64 : Nat)) := by simp [World.cell?, hB10]
    have s3 : W10.cell? ⟨w.heap.size, 3, none⟩ = some (.int .i64 0) := by simp [World.cell?, hB10]
    have s4 : W10.cell? ⟨w.heap.size, 4, none⟩ = some (.slice none 0 0) := by simp [World.cell?, hB10]
    exact bodyPost_ret (v := .tuple #[.agg #[.int .i64 (allocN n R : Nat), .int .i64 ((a + 63) / 64 : Nat), .int .i64 ((b + 63) / 64 : Nat), .int .i64 0, .slice none 0 0], .int .i64 0]) (by simp [results, Try.results7, go_sem, s0, s1, s2, s3, s4]) rfl ⟨rfl, HM10.out, HG10.out⟩
  · have F := Lib.hid (exB HW3.out (show WorkAt w5 (W3.heap.size + 1 + 1) p 0 _ _ 0 _ _ 0 [] by have := H5.out.1; simp only [World.size_alloc, show ∀ W : World, W.drew.heap = W.heap from fun _ => rfl] at this; exact this) (by have := H5.out.2.1; simp only [World.size_alloc, show ∀ W : World, W.drew.heap = W.heap from fun _ => rfl] at this; exact this) u0 u1 (by have := hb0.out; omega) (by have := hb0.out; omega) HZ.out HG3.out HN.out.2.2.2.1 HN.out.2.2.2.2)
    generalize w5.setCell ⟨W3.heap.size, 0, none⟩ (.pointer (some ⟨W3.heap.size + 1 + 1, 0, none⟩)) = Wx at *
    clear u0 u1 t0 t1 H5
    have cw := F.out.cw
    go_wp2_with fail
    refine (exec_whole F.out.mem _ _ F.out.work (by have := F.out.lt; have := F.out.gp; omega) (by have := F.out.lt; have := F.out.pp; omega) (by omega) x y (by have := HX.out; have := HN.out; omega) (by have := HX.out; have := HN.out; omega) HAE.out HOK.out (by rw [HX.out.2.2.1, HX.out.2.2.2]; exact HU.out) (by have := HX.out; have := HN.out; omega) _ _ _ F.out.cw F.out.ct F.out.cd).mono ?_
    rintro e w9 ⟨rfl, hM9, hG9⟩
    have hZ9 := (hG9.low _ F.out.lt (by have := F.out.gp; omega)).trans F.out.z
    have HM9 := Lib.hid hM9
    have HG9 : Hid (w.grownBy w9 (some g)) := by
      have h1 := F.out.gr; have h2 := F.out.lt
      exact ⟨hG9.os.trans h1.os, hG9.tape.trans h1.tape, hG9.output.trans h1.output, Nat.le_trans h1.size hG9.size, fun k hk hne => (hG9.low k (by omega) (fun e => hne (by rw [e]))).trans (h1.block k hk hne)⟩
    have k0 : w9.cell? ⟨w.heap.size, 0, none⟩ = some (.int .i64 0) := by simp [World.cell?, hZ9]
    have k1 : w9.cell? ⟨w.heap.size, 1, none⟩ = some (.int .i64 0) := by simp [World.cell?, hZ9]
    have k2 : w9.cell? ⟨w.heap.size, 2, none⟩ = some (.int .i64 0) := by simp [World.cell?, hZ9]
    have k3 : w9.cell? ⟨w.heap.size, 3, none⟩ = some (.int .i64 0) := by simp [World.cell?, hZ9]
    have k4 : w9.cell? ⟨w.heap.size, 4, none⟩ = some (.slice none 0 0) := by simp [World.cell?, hZ9]
    have f0 : w9.frozen? ⟨w.heap.size, 0, none⟩ = false := by simp [World.frozen?, hZ9]
    have f1 : w9.frozen? ⟨w.heap.size, 1, none⟩ = false := by simp [World.frozen?, hZ9]
    have f2 : w9.frozen? ⟨w.heap.size, 2, none⟩ = false := by simp [World.frozen?, hZ9]
    have f3 : w9.frozen? ⟨w.heap.size, 3, none⟩ = false := by simp [World.frozen?, hZ9]
    have f4 : w9.frozen? ⟨w.heap.size, 4, none⟩ = false := by simp [World.frozen?, hZ9]
    have HZ9 := Lib.hid hZ9
    clear hM9 hG9 hZ9 cw
    go_wp2
    have ex : ((x.size : Int) + 63) / 64 = (((a + 63) / 64 : Nat) : Int) := by have := HX.out; omega
    have ey : ((y.size : Int) + 63) / 64 = (((b + 63) / 64 : Nat) : Int) := by have := HX.out; omega
    rw [ex, ey]
    clear ex ey k0 k1 k2 k3 k4 f0 f1 f2 f3 f4
    have hB10 : (((((w9.setCell ⟨w.heap.size, 0, none⟩ (.int .i64 (allocN n R : Nat))).setCell ⟨w.heap.size, 1, none⟩ (.int .i64 ((a + 63) / 64 : Nat))).setCell ⟨w.heap.size, 2, none⟩ (.int .i64 ((b + 63) / 64 : Nat))).setCell ⟨w.heap.size, 3, none⟩ (.int .i64 0)).setCell ⟨w.heap.size, 4, none⟩ (.slice none 0 0)).heap[w.heap.size]? = some (.cells #[.int .i64 (allocN n R : Nat), .int .i64 ((a + 63) / 64 : Nat), .int .i64 ((b + 63) / 64 : Nat), .int .i64 0, .slice none 0 0] 32 (0, 0)) :=
      heap_setCell_same _ _ _ _ _ _ (heap_setCell_same _ _ _ _ _ _ (heap_setCell_same _ _ _ _ _ _ (heap_setCell_same _ _ _ _ _ _ (heap_setCell_same _ _ _ _ _ _ HZ9.out))))
    have HM10 : Hid ((loadS n (allocN n R) (rootS n R B) ((a + 63) / 64) ((b + 63) / 64) ((im.data.toList.drop 3).take a) (im.data.toList.drop (3 + a))).at (((((w9.setCell ⟨w.heap.size, 0, none⟩ (.int .i64 (allocN n R : Nat))).setCell ⟨w.heap.size, 1, none⟩ (.int .i64 ((a + 63) / 64 : Nat))).setCell ⟨w.heap.size, 2, none⟩ (.int .i64 ((b + 63) / 64 : Nat))).setCell ⟨w.heap.size, 3, none⟩ (.int .i64 0)).setCell ⟨w.heap.size, 4, none⟩ (.slice none 0 0)) p g n) := by
      have h1 := HM9.out
      rw [HX.out.1, HX.out.2.1, HX.out.2.2.1, HX.out.2.2.2] at h1
      have hp : p ≠ w.heap.size := by have := HN.out; omega
      have hg : g ≠ w.heap.size := by have := HN.out; omega
      exact MemAt.setOther (MemAt.setOther (MemAt.setOther (MemAt.setOther (MemAt.setOther h1 _ _ _ hp hg) _ _ _ hp hg) _ _ _ hp hg) _ _ _ hp hg) _ _ _ hp hg
    have HG10 : Hid (w.grownBy (((((w9.setCell ⟨w.heap.size, 0, none⟩ (.int .i64 (allocN n R : Nat))).setCell ⟨w.heap.size, 1, none⟩ (.int .i64 ((a + 63) / 64 : Nat))).setCell ⟨w.heap.size, 2, none⟩ (.int .i64 ((b + 63) / 64 : Nat))).setCell ⟨w.heap.size, 3, none⟩ (.int .i64 0)).setCell ⟨w.heap.size, 4, none⟩ (.slice none 0 0)) (some g)) := grown_setNew (grown_setNew (grown_setNew (grown_setNew (grown_setNew HG9.out _ _ (Nat.le_refl _)) _ _ (Nat.le_refl _)) _ _ (Nat.le_refl _)) _ _ (Nat.le_refl _)) _ _ (Nat.le_refl _)
    generalize ((((w9.setCell ⟨w.heap.size, 0, none⟩ (.int .i64 (allocN n R : Nat))).setCell ⟨w.heap.size, 1, none⟩ (.int .i64 ((a + 63) / 64 : Nat))).setCell ⟨w.heap.size, 2, none⟩ (.int .i64 ((b + 63) / 64 : Nat))).setCell ⟨w.heap.size, 3, none⟩ (.int .i64 0)).setCell ⟨w.heap.size, 4, none⟩ (.slice none 0 0) = W10 at *
    have s0 : W10.cell? ⟨w.heap.size, 0, none⟩ = some (.int .i64 (allocN n R : Nat)) := by simp [World.cell?, hB10]
    have s1 : W10.cell? ⟨w.heap.size, 1, none⟩ = some (.int .i64 ((a + 63) / 64 : Nat)) := by simp [World.cell?, hB10]
    have s2 : W10.cell? ⟨w.heap.size, 2, none⟩ = some (.int .i64 ((b + 63) / 64 : Nat)) := by simp [World.cell?, hB10]
    have s3 : W10.cell? ⟨w.heap.size, 3, none⟩ = some (.int .i64 0) := by simp [World.cell?, hB10]
    have s4 : W10.cell? ⟨w.heap.size, 4, none⟩ = some (.slice none 0 0) := by simp [World.cell?, hB10]
    exact bodyPost_ret (v := .tuple #[.agg #[.int .i64 (allocN n R : Nat), .int .i64 ((a + 63) / 64 : Nat), .int .i64 ((b + 63) / 64 : Nat), .int .i64 0, .slice none 0 0], .int .i64 0]) (by simp [results, Try.results7, go_sem, s0, s1, s2, s3, s4]) rfl ⟨rfl, HM10.out, HG10.out⟩
  · have F := Lib.hid (exB HW3.out (show WorkAt w5 (W3.heap.size + 1 + 1) p 0 _ _ 0 _ _ 0 [] by have := H5.out.1; simp only [World.size_alloc, show ∀ W : World, W.drew.heap = W.heap from fun _ => rfl] at this; exact this) (by have := H5.out.2.1; simp only [World.size_alloc, show ∀ W : World, W.drew.heap = W.heap from fun _ => rfl] at this; exact this) u0 u1 (by have := hb0.out; omega) (by have := hb0.out; omega) HZ.out HG3.out HN.out.2.2.2.1 HN.out.2.2.2.2)
    generalize w5.setCell ⟨W3.heap.size, 0, none⟩ (.pointer (some ⟨W3.heap.size + 1 + 1, 0, none⟩)) = Wx at *
    clear u0 u1 t0 t1 H5
    have cw := F.out.cw
    go_wp2_with fail
    refine (exec_whole F.out.mem _ _ F.out.work (by have := F.out.lt; have := F.out.gp; omega) (by have := F.out.lt; have := F.out.pp; omega) (by omega) x y (by have := HX.out; have := HN.out; omega) (by have := HX.out; have := HN.out; omega) HAE.out HOK.out (by rw [HX.out.2.2.1, HX.out.2.2.2]; exact HU.out) (by have := HX.out; have := HN.out; omega) _ _ _ F.out.cw F.out.ct F.out.cd).mono ?_
    rintro e w9 ⟨rfl, hM9, hG9⟩
    have hZ9 := (hG9.low _ F.out.lt (by have := F.out.gp; omega)).trans F.out.z
    have HM9 := Lib.hid hM9
    have HG9 : Hid (w.grownBy w9 (some g)) := by
      have h1 := F.out.gr; have h2 := F.out.lt
      exact ⟨hG9.os.trans h1.os, hG9.tape.trans h1.tape, hG9.output.trans h1.output, Nat.le_trans h1.size hG9.size, fun k hk hne => (hG9.low k (by omega) (fun e => hne (by rw [e]))).trans (h1.block k hk hne)⟩
    have k0 : w9.cell? ⟨w.heap.size, 0, none⟩ = some (.int .i64 0) := by simp [World.cell?, hZ9]
    have k1 : w9.cell? ⟨w.heap.size, 1, none⟩ = some (.int .i64 0) := by simp [World.cell?, hZ9]
    have k2 : w9.cell? ⟨w.heap.size, 2, none⟩ = some (.int .i64 0) := by simp [World.cell?, hZ9]
    have k3 : w9.cell? ⟨w.heap.size, 3, none⟩ = some (.int .i64 0) := by simp [World.cell?, hZ9]
    have k4 : w9.cell? ⟨w.heap.size, 4, none⟩ = some (.slice none 0 0) := by simp [World.cell?, hZ9]
    have f0 : w9.frozen? ⟨w.heap.size, 0, none⟩ = false := by simp [World.frozen?, hZ9]
    have f1 : w9.frozen? ⟨w.heap.size, 1, none⟩ = false := by simp [World.frozen?, hZ9]
    have f2 : w9.frozen? ⟨w.heap.size, 2, none⟩ = false := by simp [World.frozen?, hZ9]
    have f3 : w9.frozen? ⟨w.heap.size, 3, none⟩ = false := by simp [World.frozen?, hZ9]
    have f4 : w9.frozen? ⟨w.heap.size, 4, none⟩ = false := by simp [World.frozen?, hZ9]
    have HZ9 := Lib.hid hZ9
    clear hM9 hG9 hZ9 cw
    go_wp2
    have ex : ((x.size : Int) + 63) / 64 = (((a + 63) / 64 : Nat) : Int) := by have := HX.out; omega
    have ey : ((y.size : Int) + 63) / 64 = (((b + 63) / 64 : Nat) : Int) := by have := HX.out; omega
    rw [ex, ey]
    clear ex ey k0 k1 k2 k3 k4 f0 f1 f2 f3 f4
    have hB10 : (((((w9.setCell ⟨w.heap.size, 0, none⟩ (.int .i64 (allocN n R : Nat))).setCell ⟨w.heap.size, 1, none⟩ (.int .i64 ((a + 63) / 64 : Nat))).setCell ⟨w.heap.size, 2, none⟩ (.int .i64 ((b + 63) / 64 : Nat))).setCell ⟨w.heap.size, 3, none⟩ (.int .i64 0)).setCell ⟨w.heap.size, 4, none⟩ (.slice none 0 0)).heap[w.heap.size]? = some (.cells #[.int .i64 (allocN n R : Nat), .int .i64 ((a + 63) / 64 : Nat), .int .i64 ((b + 63) / 64 : Nat), .int .i64 0, .slice none 0 0] 32 (0, 0)) :=
      heap_setCell_same _ _ _ _ _ _ (heap_setCell_same _ _ _ _ _ _ (heap_setCell_same _ _ _ _ _ _ (heap_setCell_same _ _ _ _ _ _ (heap_setCell_same _ _ _ _ _ _ HZ9.out))))
    have HM10 : Hid ((loadS n (allocN n R) (rootS n R B) ((a + 63) / 64) ((b + 63) / 64) ((im.data.toList.drop 3).take a) (im.data.toList.drop (3 + a))).at (((((w9.setCell ⟨w.heap.size, 0, none⟩ (.int .i64 (allocN n R : Nat))).setCell ⟨w.heap.size, 1, none⟩ (.int .i64 ((a + 63) / 64 : Nat))).setCell ⟨w.heap.size, 2, none⟩ (.int .i64 ((b + 63) / 64 : Nat))).setCell ⟨w.heap.size, 3, none⟩ (.int .i64 0)).setCell ⟨w.heap.size, 4, none⟩ (.slice none 0 0)) p g n) := by
      have h1 := HM9.out
      rw [HX.out.1, HX.out.2.1, HX.out.2.2.1, HX.out.2.2.2] at h1
      have hp : p ≠ w.heap.size := by have := HN.out; omega
      have hg : g ≠ w.heap.size := by have := HN.out; omega
      exact MemAt.setOther (MemAt.setOther (MemAt.setOther (MemAt.setOther (MemAt.setOther h1 _ _ _ hp hg) _ _ _ hp hg) _ _ _ hp hg) _ _ _ hp hg) _ _ _ hp hg
    have HG10 : Hid (w.grownBy (((((w9.setCell ⟨w.heap.size, 0, none⟩ (.int .i64 (allocN n R : Nat))).setCell ⟨w.heap.size, 1, none⟩ (.int .i64 ((a + 63) / 64 : Nat))).setCell ⟨w.heap.size, 2, none⟩ (.int .i64 ((b + 63) / 64 : Nat))).setCell ⟨w.heap.size, 3, none⟩ (.int .i64 0)).setCell ⟨w.heap.size, 4, none⟩ (.slice none 0 0)) (some g)) := grown_setNew (grown_setNew (grown_setNew (grown_setNew (grown_setNew HG9.out _ _ (Nat.le_refl _)) _ _ (Nat.le_refl _)) _ _ (Nat.le_refl _)) _ _ (Nat.le_refl _)) _ _ (Nat.le_refl _)
    generalize ((((w9.setCell ⟨w.heap.size, 0, none⟩ (.int .i64 (allocN n R : Nat))).setCell ⟨w.heap.size, 1, none⟩ (.int .i64 ((a + 63) / 64 : Nat))).setCell ⟨w.heap.size, 2, none⟩ (.int .i64 ((b + 63) / 64 : Nat))).setCell ⟨w.heap.size, 3, none⟩ (.int .i64 0)).setCell ⟨w.heap.size, 4, none⟩ (.slice none 0 0) = W10 at *
    have s0 : W10.cell? ⟨w.heap.size, 0, none⟩ = some (.int .i64 (allocN n R : Nat)) := by simp [World.cell?, hB10]
    have s1 : W10.cell? ⟨w.heap.size, 1, none⟩ = some (.int .i64 ((a + 63) / 64 : Nat)) := by simp [World.cell?, hB10]
    have s2 : W10.cell? ⟨w.heap.size, 2, none⟩ = some (.int .i64 ((b + 63) / 64 : Nat)) := by simp [World.cell?, hB10]
    have s3 : W10.cell? ⟨w.heap.size, 3, none⟩ = some (.int .i64 0) := by simp [World.cell?, hB10]
    have s4 : W10.cell? ⟨w.heap.size, 4, none⟩ = some (.slice none 0 0) := by simp [World.cell?, hB10]
    exact bodyPost_ret (v := .tuple #[.agg #[.int .i64 (allocN n R : Nat), .int .i64 ((a + 63) / 64 : Nat), .int .i64 ((b + 63) / 64 : Nat), .int .i64 0, .slice none 0 0], .int .i64 0]) (by simp [results, Try.results7, go_sem, s0, s1, s2, s3, s4]) rfl ⟨rfl, HM10.out, HG10.out⟩
  · have F := Lib.hid (exB HW3.out (show WorkAt w5 (W3.heap.size + 1 + 1) p 0 _ _ 0 _ _ 0 [] by have := H5.out.1; simp only [World.size_alloc, show ∀ W : World, W.drew.heap = W.heap from fun _ => rfl] at this; exact this) (by have := H5.out.2.1; simp only [World.size_alloc, show ∀ W : World, W.drew.heap = W.heap from fun _ => rfl] at this; exact this) u0 u1 (by have := hb0.out; omega) (by have := hb0.out; omega) HZ.out HG3.out HN.out.2.2.2.1 HN.out.2.2.2.2)
    generalize w5.setCell ⟨W3.heap.size, 0, none⟩ (.pointer (some ⟨W3.heap.size + 1 + 1, 0, none⟩)) = Wx at *
    clear u0 u1 t0 t1 H5
    have cw := F.out.cw
    go_wp2_with fail
    refine (exec_whole F.out.mem _ _ F.out.work (by have := F.out.lt; have := F.out.gp; omega) (by have := F.out.lt; have := F.out.pp; omega) (by omega) x y (by have := HX.out; have := HN.out; omega) (by have := HX.out; have := HN.out; omega) HAE.out HOK.out (by rw [HX.out.2.2.1, HX.out.2.2.2]; exact HU.out) (by have := HX.out; have := HN.out; omega) _ _ _ F.out.cw F.out.ct F.out.cd).mono ?_
    rintro e w9 ⟨rfl, hM9, hG9⟩
    have hZ9 := (hG9.low _ F.out.lt (by have := F.out.gp; omega)).trans F.out.z
    have HM9 := Lib.hid hM9
    have HG9 : Hid (w.grownBy w9 (some g)) := by
      have h1 := F.out.gr; have h2 := F.out.lt
      exact ⟨hG9.os.trans h1.os, hG9.tape.trans h1.tape, hG9.output.trans h1.output, Nat.le_trans h1.size hG9.size, fun k hk hne => (hG9.low k (by omega) (fun e => hne (by rw [e]))).trans (h1.block k hk hne)⟩
    have k0 : w9.cell? ⟨w.heap.size, 0, none⟩ = some (.int .i64 0) := by simp [World.cell?, hZ9]
    have k1 : w9.cell? ⟨w.heap.size, 1, none⟩ = some (.int .i64 0) := by simp [World.cell?, hZ9]
    have k2 : w9.cell? ⟨w.heap.size, 2, none⟩ = some (.int .i64 0) := by simp [World.cell?, hZ9]
    have k3 : w9.cell? ⟨w.heap.size, 3, none⟩ = some (.int .i64 0) := by simp [World.cell?, hZ9]
    have k4 : w9.cell? ⟨w.heap.size, 4, none⟩ = some (.slice none 0 0) := by simp [World.cell?, hZ9]
    have f0 : w9.frozen? ⟨w.heap.size, 0, none⟩ = false := by simp [World.frozen?, hZ9]
    have f1 : w9.frozen? ⟨w.heap.size, 1, none⟩ = false := by simp [World.frozen?, hZ9]
    have f2 : w9.frozen? ⟨w.heap.size, 2, none⟩ = false := by simp [World.frozen?, hZ9]
    have f3 : w9.frozen? ⟨w.heap.size, 3, none⟩ = false := by simp [World.frozen?, hZ9]
    have f4 : w9.frozen? ⟨w.heap.size, 4, none⟩ = false := by simp [World.frozen?, hZ9]
    have HZ9 := Lib.hid hZ9
    clear hM9 hG9 hZ9 cw
    go_wp2
    have ex : ((x.size : Int) + 63) / 64 = (((a + 63) / 64 : Nat) : Int) := by have := HX.out; omega
    have ey : ((y.size : Int) + 63) / 64 = (((b + 63) / 64 : Nat) : Int) := by have := HX.out; omega
    rw [ex, ey]
    clear ex ey k0 k1 k2 k3 k4 f0 f1 f2 f3 f4
    have hB10 : (((((w9.setCell ⟨w.heap.size, 0, none⟩ (.int .i64 (allocN n R : Nat))).setCell ⟨w.heap.size, 1, none⟩ (.int .i64 ((a + 63) / 64 : Nat))).setCell ⟨w.heap.size, 2, none⟩ (.int .i64 ((b + 63) / 64 : Nat))).setCell ⟨w.heap.size, 3, none⟩ (.int .i64 0)).setCell ⟨w.heap.size, 4, none⟩ (.slice none 0 0)).heap[w.heap.size]? = some (.cells #[.int .i64 (allocN n R : Nat), .int .i64 ((a + 63) / 64 : Nat), .int .i64 ((b + 63) / 64 : Nat), .int .i64 0, .slice none 0 0] 32 (0, 0)) :=
      heap_setCell_same _ _ _ _ _ _ (heap_setCell_same _ _ _ _ _ _ (heap_setCell_same _ _ _ _ _ _ (heap_setCell_same _ _ _ _ _ _ (heap_setCell_same _ _ _ _ _ _ HZ9.out))))
    have HM10 : Hid ((loadS n (allocN n R) (rootS n R B) ((a + 63) / 64) ((b + 63) / 64) ((im.data.toList.drop 3).take a) (im.data.toList.drop (3 + a))).at (((((w9.setCell ⟨w.heap.size, 0, none⟩ (.int .i64 (allocN n R : Nat))).setCell ⟨w.heap.size, 1, none⟩ (.int .i64 ((a + 63) / 64 : Nat))).setCell ⟨w.heap.size, 2, none⟩ (.int .i64 ((b + 63) / 64 : Nat))).setCell ⟨w.heap.size, 3, none⟩ (.int .i64 0)).setCell ⟨w.heap.size, 4, none⟩ (.slice none 0 0)) p g n) := by
      have h1 := HM9.out
      rw [HX.out.1, HX.out.2.1, HX.out.2.2.1, HX.out.2.2.2] at h1
      have hp : p ≠ w.heap.size := by have := HN.out; omega
      have hg : g ≠ w.heap.size := by have := HN.out; omega
      exact MemAt.setOther (MemAt.setOther (MemAt.setOther (MemAt.setOther (MemAt.setOther h1 _ _ _ hp hg) _ _ _ hp hg) _ _ _ hp hg) _ _ _ hp hg) _ _ _ hp hg
    have HG10 : Hid (w.grownBy (((((w9.setCell ⟨w.heap.size, 0, none⟩ (.int .i64 (allocN n R : Nat))).setCell ⟨w.heap.size, 1, none⟩ (.int .i64 ((a + 63) / 64 : Nat))).setCell ⟨w.heap.size, 2, none⟩ (.int .i64 ((b + 63) / 64 : Nat))).setCell ⟨w.heap.size, 3, none⟩ (.int .i64 0)).setCell ⟨w.heap.size, 4, none⟩ (.slice none 0 0)) (some g)) := grown_setNew (grown_setNew (grown_setNew (grown_setNew (grown_setNew HG9.out _ _ (Nat.le_refl _)) _ _ (Nat.le_refl _)) _ _ (Nat.le_refl _)) _ _ (Nat.le_refl _)) _ _ (Nat.le_refl _)
    generalize ((((w9.setCell ⟨w.heap.size, 0, none⟩ (.int .i64 (allocN n R : Nat))).setCell ⟨w.heap.size, 1, none⟩ (.int .i64 ((a + 63) / 64 : Nat))).setCell ⟨w.heap.size, 2, none⟩ (.int .i64 ((b + 63) / 64 : Nat))).setCell ⟨w.heap.size, 3, none⟩ (.int .i64 0)).setCell ⟨w.heap.size, 4, none⟩ (.slice none 0 0) = W10 at *
    have s0 : W10.cell? ⟨w.heap.size, 0, none⟩ = some (.int .i64 (allocN n R : Nat)) := by simp [World.cell?, hB10]
    have s1 : W10.cell? ⟨w.heap.size, 1, none⟩ = some (.int .i64 ((a + 63) / 64 : Nat)) := by simp [World.cell?, hB10]
    have s2 : W10.cell? ⟨w.heap.size, 2, none⟩ = some (.int .i64 ((b + 63) / 64 : Nat)) := by simp [World.cell?, hB10]
    have s3 : W10.cell? ⟨w.heap.size, 3, none⟩ = some (.int .i64 0) := by simp [World.cell?, hB10]
    have s4 : W10.cell? ⟨w.heap.size, 4, none⟩ = some (.slice none 0 0) := by simp [World.cell?, hB10]
    exact bodyPost_ret (v := .tuple #[.agg #[.int .i64 (allocN n R : Nat), .int .i64 ((a + 63) / 64 : Nat), .int .i64 ((b + 63) / 64 : Nat), .int .i64 0, .slice none 0 0], .int .i64 0]) (by simp [results, Try.results7, go_sem, s0, s1, s2, s3, s4]) rfl ⟨rfl, HM10.out, HG10.out⟩

end
end Go.Proofs.Ytdkaaoboipphcaa
