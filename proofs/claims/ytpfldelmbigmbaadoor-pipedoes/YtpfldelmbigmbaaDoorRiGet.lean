/- Package ring: Get, walked, where there is a ring and the number is not below 0. -/
import Derived.Test.YtpfldelmbigmbaaDoorRiPut
import Derived.Laws.IdiomStrings
import Derived.Laws.BytesArg
namespace Go.Proofs.YtpfldelmbigmbaaDoor
open Go.RowKit Go.Shelf Go.Lib

attribute [local go_sem] Oper.semAt_some

theorem Tryd.infoByte9 : (Tryd.prog.info? 5).map (fun i => (i.zero, i.size, i.bytes)) = some (some (.int .u8 0), 1, 1) := by kernel_rfl

theorem ownsRow_form {W : World} {base k size : Nat} {e : TypeId} {v : Value} {xs : List Value} (h : W.ownsRow base e size v k xs) : ∃ a cap, v = .slice a k cap := by
  rcases h.2 with ⟨rfl, rfl⟩ | ⟨g, cap, cur, rfl, _⟩
  · exact ⟨none, 0, rfl⟩
  · exact ⟨_, cap, rfl⟩

/-- 'string(got)'. -/
theorem conv_row {W : World} {base k : Nat} {v : Value} {l : List UInt8} (h : W.ownsRow base 5 1 v k (byteCells l)) (hk : k = l.length) : (convert 72 9 v).run Tryd.prog W = .ok (.string ⟨l.toArray⟩) W := by
  subst hk
  rcases h.2 with ⟨rfl, h0⟩ | ⟨g, cap, cur, rfl, r⟩
  · obtain rfl : l = [] := List.eq_nil_of_length_eq_zero h0
    exact run_convert_bytes_nil _ 72 5 Tryd.underlying72 Tryd.underlying5 0 0 _ Tryd.underlying9
  · refine run_convert_bytes_back W 72 9 5 ⟨g, 0, none⟩ cap l Tryd.underlying72 Tryd.underlying5 Tryd.underlying9 (fun j hj => ?_)
    refine h.cells (g := g) rfl j (.int .u8 (l[j].toNat : Int)) ?_
    unfold byteCells
    rw [List.getElem?_map, List.getElem?_eq_getElem hj]
    rfl

/-- getting, in memory. -/
structure GetM (w W : World) (q n fa : Nat) (fo : Bool) (la : Nat) (lo : Bool) (N : Nat) (s : PSt) : Prop where
  ring : RAt W q s.X n fa fo la lo
  num : Boxed W w.heap.size 3 (.int .i64 (N : Int))
  got : ∃ v, Boxed W (w.heap.size + 1) 72 v ∧ W.ownsRow (w.heap.size + 3) 5 1 v s.r.length (byteCells s.r)
  st : ∃ v, Boxed W (w.heap.size + 1 + 1) 73 v ∧ W.ownsRow (w.heap.size + 3) 3 1 v s.st.length (ints8 s.st)
  tur : Tur q w W
theorem GetM.mv {w W W' : World} {q n fa la B N : Nat} {fo lo : Bool} {s : PSt} (h : GetM w W q n fa fo la lo N s) (m : Mv 68 B W W') (hB : w.heap.size ≤ B) : GetM w W' q n fa fo la lo N s := by
  obtain ⟨u, hu, hg⟩ := h.got
  obtain ⟨v, hv, ho⟩ := h.st
  exact ⟨h.ring.mv m, boxed_mv h.num m (by decide), ⟨u, boxed_mv hu m (by decide), ownsRow_mv hg m (by decide)⟩, ⟨v, boxed_mv hv m (by decide), ownsRow_mv ho m (by decide)⟩, h.tur.mv m hB⟩

theorem GetM.rowed {w W : World} {q n fa la N : Nat} {fo lo : Bool} {s : PSt} {X' : List UInt8} (h : GetM w W q n fa fo la lo N s) (hq : q < w.heap.size) (cs : Array Value) (hR : RAt (W.setRow q cs) q X' n fa fo la lo) : GetM w (W.setRow q cs) q n fa fo la lo N ⟨X', s.r, s.st⟩ := by
  obtain ⟨u, hu, hg⟩ := h.got
  obtain ⟨v, hv, ho⟩ := h.st
  have far : ∀ k, k ≠ q → (W.setRow q cs).heap[k]? = W.heap[k]? := fun k hk => setRow_other W q k cs (fun e => hk e)
  exact ⟨hR, (far _ (by omega)).trans h.num, ⟨u, (far _ (by omega)).trans hu, ownsRow_keep hg fun k hk => far k (fun e => ownsRow_far hg h.ring.blk (by decide) (by rw [hk, e]))⟩,
    ⟨v, (far _ (by omega)).trans hv, ownsRow_keep ho fun k hk => far k (fun e => ownsRow_far ho h.ring.blk (by decide) (by rw [hk, e]))⟩, h.tur.row cs⟩

/-- within the statement that appends twice: the boxes hold the elder slices still, the new ones lie where they lie. -/
structure GetR (w W u : World) (q n fa : Nat) (fo : Bool) (la : Nat) (lo : Bool) (X : List UInt8) (N : Nat) (g0 s0 g : Value) (r : List UInt8) (s : Value) (st : List Nat) : Prop where
  ring : RAt u q X n fa fo la lo
  num : Boxed u w.heap.size 3 (.int .i64 (N : Int))
  bG : Boxed u (w.heap.size + 1) 72 g0
  bS : Boxed u (w.heap.size + 1 + 1) 73 s0
  oG : u.ownsRow (w.heap.size + 3) 5 1 g r.length (byteCells r)
  oS : u.ownsRow (w.heap.size + 3) 3 1 s st.length (ints8 st)
  ch : Ch W u
  tur : Tur q w u
section
variable {w W u u' : World} {q n fa la N : Nat} {fo lo : Bool} {X : List UInt8} {g0 s0 g s g' s' : Value} {r r' : List UInt8} {st st' : List Nat}
theorem GetR.drew (h : GetR w W u q n fa fo la lo X N g0 s0 g r s st) : GetR w W u.drew q n fa fo la lo X N g0 s0 g r s st :=
  ⟨h.ring.drew, h.num, h.bG, h.bS, ownsRow_keep h.oG (fun _ _ => rfl), ownsRow_keep h.oS (fun _ _ => rfl), h.ch.trans (Ch.drew u), h.tur.drewR⟩
theorem GetR.alloc (h : GetR w W u q n fa fo la lo X N g0 s0 g r s st) (o : Obj) : GetR w W (u.alloc o) q n fa fo la lo X N g0 s0 g r s st :=
  ⟨h.ring.alloc o, h.num.alloc o, h.bG.alloc o, h.bS.alloc o, ownsRow_keep h.oG (fun k hk => Below.heap_alloc u o k (h.oG.lt k hk).2), ownsRow_keep h.oS (fun k hk => Below.heap_alloc u o k (h.oS.lt k hk).2), h.ch.trans (Ch.alloc u o), h.tur.alloc o⟩
theorem GetR.growG (h : GetR w W u q n fa fo la lo X N g0 s0 g r s st) (ho : u'.ownsRow (w.heap.size + 3) 5 1 g' r'.length (byteCells r')) (hg : u.grownBy u' g.ownBlock) : GetR w W u' q n fa fo la lo X N g0 s0 g' r' s st :=
  ⟨h.ring.keep (hg.block q h.ring.lt (ownsRow_far h.oG h.ring.blk (by decide))), h.num.kept hg (ownsRow_far h.oG h.num (by decide)), h.bG.kept hg (ownsRow_far h.oG h.bG (by decide)), h.bS.kept hg (ownsRow_far h.oG h.bS (by decide)), ho,
    ownsRow_keep h.oS (fun k hk => by
      refine hg.block k (h.oS.lt k hk).2 ?_
      rcases h.oS.2 with ⟨rfl, _⟩ | ⟨b, cap, cur, rfl, _, hb, _⟩
      · cases hk
      · obtain rfl : b = k := by simpa [Value.ownBlock] using hk
        exact ownsRow_far h.oG hb (by decide)),
    h.ch.trans (Ch.grown h.oG (by decide) (by decide) hg), h.tur.grown h.oG (by omega) hg⟩
theorem GetR.growS (h : GetR w W u q n fa fo la lo X N g0 s0 g r s st) (ho : u'.ownsRow (w.heap.size + 3) 3 1 s' st'.length (ints8 st')) (hg : u.grownBy u' s.ownBlock) : GetR w W u' q n fa fo la lo X N g0 s0 g r s' st' :=
  ⟨h.ring.keep (hg.block q h.ring.lt (ownsRow_far h.oS h.ring.blk (by decide))), h.num.kept hg (fun e => by have := (h.oS.lt _ e.symm).1; omega), h.bG.kept hg (ownsRow_far h.oS h.bG (by decide)), h.bS.kept hg (ownsRow_far h.oS h.bS (by decide)),
    ownsRow_keep h.oG (fun k hk => by
      refine hg.block k (h.oG.lt k hk).2 ?_
      rcases h.oG.2 with ⟨rfl, _⟩ | ⟨b, cap, cur, rfl, _, hb, _⟩
      · cases hk
      · obtain rfl : b = k := by simpa [Value.ownBlock] using hk
        exact ownsRow_far h.oS hb (by decide)),
    ho, h.ch.trans (Ch.grown h.oS (by decide) (by decide) hg), h.tur.grown h.oS (by omega) hg⟩
/-- behind the two stores. -/
theorem GetR.stored (h : GetR w W u q n fa fo la lo X N g0 s0 g r s st) (hq : q < w.heap.size) :
    GetM w ((u.setCell ⟨w.heap.size + 1, 0, none⟩ g).setCell ⟨w.heap.size + 1 + 1, 0, none⟩ s) q n fa fo la lo N ⟨X, r, st⟩ ∧ Ch W ((u.setCell ⟨w.heap.size + 1, 0, none⟩ g).setCell ⟨w.heap.size + 1 + 1, 0, none⟩ s) := by
  have n1 : w.heap.size + 1 ≠ w.heap.size + 1 + 1 := by omega
  have bS1 := h.bS.other (B' := w.heap.size + 1) (by omega) g
  have keep : ∀ k, k ≠ w.heap.size + 1 → k ≠ w.heap.size + 1 + 1 → ((u.setCell ⟨w.heap.size + 1, 0, none⟩ g).setCell ⟨w.heap.size + 1 + 1, 0, none⟩ s).heap[k]? = u.heap[k]? := fun k h1 h2 => (Below.heap_setCell _ _ _ _ h2).trans (Below.heap_setCell _ _ _ _ h1)
  refine ⟨⟨(h.ring.setO g (by omega)).setO s (by omega), (h.num.other (by omega) g).other (by omega) s, ⟨g, (h.bG.set g).other n1 s, ownsRow_keep h.oG fun k hk => keep k (fun e => ?_) (fun e => ?_)⟩,
    ⟨s, bS1.set s, ownsRow_keep h.oS fun k hk => keep k (fun e => ?_) (fun e => ?_)⟩, (h.tur.setHi (by omega) 0 g).setHi (by omega) 0 s⟩, (h.ch.trans (Ch.set h.bG (by decide) (by decide) g)).trans (Ch.set bS1 (by decide) (by decide) s)⟩
  · exact ownsRow_far h.oG h.bG (by decide) (by rw [hk, e])
  · exact ownsRow_far h.oG h.bS (by decide) (by rw [hk, e])
  · exact ownsRow_far h.oS h.bG (by decide) (by rw [hk, e])
  · exact ownsRow_far h.oS h.bS (by decide) (by rw [hk, e])
end

theorem get_steps (N : Nat) : ∀ (ps : List (Nat × Nat)) (s : PSt), (ps.foldl (getP N) s).st.length = s.st.length + ps.length
  | [], s => rfl
  | p :: ps, s => by rw [List.foldl_cons, get_steps N ps, List.length_cons]; simp [getP]; omega
theorem get_small (N : Nat) : ∀ (ps : List (Nat × Nat)) (s : PSt), (∀ p ∈ ps, p.2 ≤ 64) → (∀ k ∈ s.st, k ≤ 64) → ∀ k ∈ (ps.foldl (getP N) s).st, k ≤ 64
  | [], _, _, h => h
  | p :: ps, s, h, h0 => get_small N ps (getP N s p) (fun x hx => h x (by simp [hx])) (fun k hk => by
    rcases List.mem_append.1 hk with hk | hk
    · exact h0 k hk
    · have := h p (by simp); simp at hk; omega)
theorem get_le (N : Nat) : ∀ (ps : List (Nat × Nat)) (s : PSt), s.r.length ≤ N → (ps.foldl (getP N) s).r.length ≤ N
  | [], _, h => h
  | p :: ps, s, h => get_le N ps (getP N s p) (by
    show (s.r ++ (s.X.drop p.1).take (min p.2 (N - s.r.length))).length ≤ N
    rw [List.length_append, List.length_take]; omega)
theorem get_long (N : Nat) : ∀ (ps : List (Nat × Nat)) (s : PSt), (∀ p ∈ ps, p.2 ≤ 64) → (ps.foldl (getP N) s).r.length ≤ s.r.length + 64 * ps.length
  | [], _, _ => by simp
  | p :: ps, s, h => by
    have h1 := get_long N ps (getP N s p) (fun x hx => h x (by simp [hx]))
    have h2 := h p (by simp)
    have h3 : (getP N s p).r.length ≤ s.r.length + 64 := by
      show (s.r ++ (s.X.drop p.1).take (min p.2 (N - s.r.length))).length ≤ _
      rw [List.length_append, List.length_take]; omega
    rw [List.foldl_cons, List.length_cons]
    omega

/-- what is read of a ring's bytes. -/
theorem news_ring {W : World} {q n fa la o k : Nat} {fo lo : Bool} {X : List UInt8} (h : RAt W q X n fa fo la lo) : ∀ j u, (byteCells ((X.drop o).take k))[j]? = some u → W.cell? ((⟨q, o, none⟩ : Addr).add j) = some u := by
  intro j u hu
  rw [Addr.add_mid]
  unfold byteCells at hu
  rw [List.getElem?_map] at hu
  obtain ⟨x, hx, rfl⟩ := Option.map_eq_some_iff.1 hu
  rw [List.getElem?_take] at hx
  split at hx
  · rw [List.getElem?_drop] at hx
    exact h.byte hx
  · cases hx

section
variable {w : World} {q n fa la : Nat} {fo lo : Bool} {X : List UInt8}

set_option maxRecDepth 100000 in
set_option maxHeartbeats 4000000 in
theorem get_in (h : RAt w q X n fa fo la lo) (hn : n ≤ 64) (hfa : fa < n) (k : Nat) (hk : k ≤ n) (hl : la = advA n fa k) (hlo : lo = advO n fa k fo) (N : Nat) (hN : N ≤ 9223372036854775807) :
    CallsIn Fence.wide 8 Tryd.prog 28 #[.pointer (some ⟨q, 0, none⟩), .int .i64 (N : Int)] w fun e w' => ∃ ini : List (Nat × Nat), ini <+: partsA n fa k ∧ (ini = partsA n fa k ∨ (ini.foldl (getP N) ⟨X, [], []⟩).r.length = N) ∧
      (e = .returned (.tuple #[.string ⟨(ini.foldl (getP N) ⟨X, [], []⟩).r.toArray⟩, .int .i64 0]) ∧
        RAt w' q (ini.foldl (getP N) ⟨X, [], []⟩).X n (onL n (ini.foldl (getP N) ⟨X, [], []⟩).st (fa, fo)).1 (onL n (ini.foldl (getP N) ⟨X, [], []⟩).st (fa, fo)).2 la lo ∧ Tur q w w') := by
  refine callsIn_of_wp_marks Tryd.func28 rfl trivial ?_ rfl
  simp only [Tryd.ntmps28, List.size_toArray, List.length_cons, List.length_nil, Nat.reduceAdd, Nat.reduceSub, Array.replicate_succ, Array.replicate_zero, List.push_toArray, List.append_toArray, List.nil_append, List.cons_append]
  have hqw := h.lt
  have H0 := ((h.alloc (.cells #[.int .i64 (N : Int)] 3)).alloc (.cells #[.slice none 0 0] 72)).alloc (.cells #[.slice none 0 0] 73)
  have bN := (((Boxed.new w 3 (.int .i64 (N : Int))).alloc (.cells #[.slice none 0 0] 72)).alloc (.cells #[.slice none 0 0] 73))
  have bG0 := (Boxed.new (w.alloc (.cells #[.int .i64 (N : Int)] 3)) 72 (.slice none 0 0)).alloc (.cells #[.slice none 0 0] 73)
  have bS0 := Boxed.new ((w.alloc (.cells #[.int .i64 (N : Int)] 3)).alloc (.cells #[.slice none 0 0] 72)) 73 (.slice none 0 0)
  simp only [World.size_alloc] at bG0 bS0
  have bG := Lib.hid bG0; have bS := Lib.hid bS0
  clear bG0 bS0
  have hB := Lib.hid ((((Below.refl w.heap.size w).alloc (Nat.le_refl _) (.cells #[.int .i64 (N : Int)] 3)).alloc (by simp) (.cells #[.slice none 0 0] 72)).alloc (by simp; omega) (.cells #[.slice none 0 0] 73))
  have hsW : (((w.alloc (.cells #[.int .i64 (N : Int)] 3)).alloc (.cells #[.slice none 0 0] 72)).alloc (.cells #[.slice none 0 0] 73)).heap.size = w.heap.size + 1 + 1 + 1 := by simp
  have HSW := Lib.hid hsW
  have HL := Lib.hid hl; have HLO := Lib.hid hlo; have HN := Lib.hid hN
  have HZ := Lib.hid H0; have HBN := Lib.hid bN
  have hN0 : ¬ ((N : Int) < 0) := by omega
  have cN := bN.cell
  have c5 := H0.c65; have c6 := H0.c66; have c7 := H0.c67; have c8 := H0.c68
  clear h hl hlo hN H0 bN hsW
  gi_wp2
  refine wpIn_scope' ?_
  gi_wp2
  refine wpIn_label ?_
  gi_wp2
  generalize hW : ((w.alloc (.cells #[.int .i64 (N : Int)] 3)).alloc (.cells #[.slice none 0 0] 72)).alloc (.cells #[.slice none 0 0] 73) = W at *
  refine wpIn_wide.2 ?_
  go_region_held3 (fun w' => w'.cell? ⟨q, 65, none⟩ = some (.int .i64 (fa : Int)) ∧ w'.cell? ⟨q, 66, none⟩ = some (.bool fo) ∧ w'.cell? ⟨q, 67, none⟩ = some (.int .i64 (la : Int)) ∧ w'.cell? ⟨q, 68, none⟩ = some (.bool lo)) (first | exact S2 | go_keep)
    ((go_at_call 37; refine (stretches_any _ _ _ _ _ ⟨_, rfl⟩ _).mono ?_; rintro e w2 ⟨rfl, rfl⟩; have HR2 := (((HZ.out.drew.alloc (.cells #[.pointer (some ⟨q, 0, none⟩)] 49)).alloc (.cells #[.int .i64 (fa : Int), .bool fo] 68)).alloc (.cells #[.int .i64 (la : Int), .bool lo] 68)); have S2 := And.intro HR2.c65 (And.intro HR2.c66 (And.intro HR2.c67 HR2.c68)); clear HR2))
  have bP : Boxed (((W.alloc (.cells #[.pointer (some ⟨q, 0, none⟩)] 49)).alloc (.cells #[.int .i64 (fa : Int), .bool fo] 68)).alloc (.cells #[.int .i64 (la : Int), .bool lo] 68)).drew W.heap.size 49 (.pointer (some ⟨q, 0, none⟩)) := ((Boxed.new W 49 (.pointer (some ⟨q, 0, none⟩))).alloc (.cells #[.int .i64 (fa : Int), .bool fo] 68)).alloc (.cells #[.int .i64 (la : Int), .bool lo] 68)
  have bF := (BoxA.new (W.alloc (.cells #[.pointer (some ⟨q, 0, none⟩)] 49)) 68 #[.int .i64 (fa : Int), .bool fo]).alloc (.cells #[.int .i64 (la : Int), .bool lo] 68)
  have bT := BoxA.new ((W.alloc (.cells #[.pointer (some ⟨q, 0, none⟩)] 49)).alloc (.cells #[.int .i64 (fa : Int), .bool fo] 68)) 68 #[.int .i64 (la : Int), .bool lo]
  have hB2 : Below W.heap.size W (((W.alloc (.cells #[.pointer (some ⟨q, 0, none⟩)] 49)).alloc (.cells #[.int .i64 (fa : Int), .bool fo] 68)).alloc (.cells #[.int .i64 (la : Int), .bool lo] 68)).drew := ((((Below.refl W.heap.size W).alloc (Nat.le_refl _) _).alloc (by simp) _).alloc (by simp; omega) _).drew
  simp only [World.size_alloc] at bF bT
  replace bF := BoxA.keep (w' := (((W.alloc (.cells #[.pointer (some ⟨q, 0, none⟩)] 49)).alloc (.cells #[.int .i64 (fa : Int), .bool fo] 68)).alloc (.cells #[.int .i64 (la : Int), .bool lo] 68)).drew) bF rfl
  replace bT := BoxA.keep (w' := (((W.alloc (.cells #[.pointer (some ⟨q, 0, none⟩)] 49)).alloc (.cells #[.int .i64 (fa : Int), .bool fo] 68)).alloc (.cells #[.int .i64 (la : Int), .bool lo] 68)).drew) bT rfl
  clear S2
  generalize (((W.alloc (.cells #[.pointer (some ⟨q, 0, none⟩)] 49)).alloc (.cells #[.int .i64 (fa : Int), .bool fo] 68)).alloc (.cells #[.int .i64 (la : Int), .bool lo] 68)).drew = W0 at *
  rw [HL.out, HLO.out] at bT
  have hW0 : GetM w W0 q n fa fo la lo N ⟨X, [], []⟩ :=
    ⟨HZ.out.below' hB2, (hB2.block _ HBN.out.lt).trans HBN.out, ⟨.slice none 0 0, (hB2.block _ bG.out.lt).trans bG.out, World.ownsRow_nil _ _ _ _⟩, ⟨.slice none 0 0, (hB2.block _ bS.out.lt).trans bS.out, World.ownsRow_nil _ _ _ _⟩, Tur.of_below (hB.out.trans (hB2.mono hB.out.size))⟩
  have hws : w.heap.size ≤ W0.heap.size := hW0.tur.size
  have HW0 := Lib.hid hW0; have HB0w := Lib.hid hws
  have hRx : ∃ X fa fo la lo, RAt W0 q X n fa fo la lo := ⟨_, _, _, _, _, hW0.ring⟩
  clear hW0 hB2
  gi_wp2
  refine range_ends 68 (gf := 45) (lb := #[.pointer (some ⟨W.heap.size + 1, 0, none⟩), .pointer (some ⟨W.heap.size + 1 + 1, 0, none⟩), .pointer (some ⟨W.heap.size, 0, none⟩)]) rfl (enters_of Tryd.func45 (by kernel_rfl) rfl)
    (stretch_stops 7 (by omega) q (W.heap.size + 1) (W.heap.size + 1 + 1) W.heap.size n fa k fo hn hfa hk W0 hRx bF bT bP) KpR.trans KpR.put (Below.refl _ _) (fun _ => rfl)
    (fun pre W => GetM w W q n fa fo la lo N ((pre.map Subtype.val).foldl (getP N) ⟨X, [], []⟩))
    (fun c pre W => c = .exit 1 ∧ ∃ (ini : List Prt) (last : Prt), pre = ini ++ [last] ∧ ((ini.map Subtype.val).foldl (getP N) ⟨X, [], []⟩).r.length = N ∧ GetM w W q n fa fo la lo N ((ini.map Subtype.val).foldl (getP N) ⟨X, [], []⟩))
    (fun s A A' hs m => hs.mv m hws) (fun c s A A' hs m => by obtain ⟨hc, ini, last, e, hr, hs⟩ := hs; exact ⟨hc, ini, last, e, hr, hs.mv m hws⟩) HW0.out
    (fun y => { tmps := #[.pointer (some ⟨q, 0, none⟩), .int .i64 (N : Int), undef, .pointer (some ⟨w.heap.size, 0, none⟩), .string ⟨#[]⟩, .int .i64 0, .pointer (some ⟨w.heap.size + 1, 0, none⟩), .pointer (some ⟨w.heap.size + 1 + 1, 0, none⟩), .int .i64 0, .slice (some ⟨q, y.1.1, none⟩) y.1.2 (64 - y.1.1), .bool false, .pointer (some ⟨q, 0, none⟩), .bool false, .bool false, .int .i64 (N : Int), .bool false, .pointer (some ⟨q, 0, none⟩), .pointer (some ⟨q, 0, none⟩), .pointer (some ⟨q, 0, none⟩), .pointer (some ⟨q, 65, none⟩), .agg #[.int .i64 (fa : Int), .bool fo], .pointer (some ⟨q, 0, none⟩), .pointer (some ⟨q, 0, none⟩), .pointer (some ⟨q, 67, none⟩), .agg #[.int .i64 (la : Int), .bool lo], .func (.func 45) #[] #[.pointer (some ⟨W.heap.size + 1, 0, none⟩), .pointer (some ⟨W.heap.size + 1 + 1, 0, none⟩), .pointer (some ⟨W.heap.size, 0, none⟩)], .slice (some ⟨q, y.1.1, none⟩) y.1.2 (64 - y.1.1), undef, undef, undef, undef, undef, undef, undef, undef, undef, undef, undef, undef, undef, undef, undef, undef, undef, undef, undef, undef, undef, undef, undef, undef, undef, undef, undef, undef, undef, undef, undef, undef, undef, undef, undef], defers := [] }) ?assign ?body ?done ?stop
  case assign =>
    intro l y W K hK
    unfold prtV
    gi_wp2
    exact hK
  case body =>
    rintro l pre y W hM hlen
    obtain ⟨s, hs⟩ : ∃ s, (pre.map Subtype.val).foldl (getP N) ⟨X, [], []⟩ = s := ⟨_, rfl⟩
    rw [hs] at hM
    have hsn : ((pre ++ [y]).map Subtype.val).foldl (getP N) ⟨X, [], []⟩ = getP N s y.1 := by rw [List.map_append, List.foldl_append, hs]; rfl
    have hlp : (pre.map Subtype.val).length ≤ 100 := by simp; omega
    have HLEN : Hid (s.st.length ≤ 100 ∧ s.r.length ≤ N ∧ s.r.length ≤ 6400) := by
      refine ⟨?_, ?_, ?_⟩
      · rw [← hs, get_steps]; simpa using hlp
      · rw [← hs]; exact get_le N _ _ (Nat.zero_le _)
      · have := get_long N (pre.map Subtype.val) ⟨X, [], []⟩ (fun p hp => by obtain ⟨y, _, rfl⟩ := List.mem_map.1 hp; have := y.2; omega)
        rw [hs] at this
        simp only [List.length_nil] at this
        omega
    have HS := Lib.hid hs; have HSN := Lib.hid hsn
    obtain ⟨vg, bg, og⟩ := hM.got
    obtain ⟨vs, bs, os⟩ := hM.st
    obtain ⟨ga, gcap, rfl⟩ := ownsRow_form og
    obtain ⟨g, hg⟩ : ∃ g, s.r.length = g := ⟨_, rfl⟩
    rw [hg] at og bg
    have HG := Lib.hid hg
    have hgN : g ≤ N := by have := HLEN.out; omega
    have c0 := hM.num.cell
    have c1 := bg.cell
    have HM := Lib.hid hM; have HBG := Lib.hid bg; have HBS := Lib.hid bs; have HOG := Lib.hid og; have HOS := Lib.hid os
    clear hs hsn hM bg bs og os hg hlp
    by_cases h0 : g = N
    · have h0' : (g : Int) = (N : Int) := by omega
      gi_wp2
      exact ⟨KeepsFrom.refl _ _, rfl, pre, y, rfl, by rw [HS.out, HG.out]; exact h0, by rw [HS.out]; exact HM.out⟩
    · have h0' : ¬ ((g : Int) = (N : Int)) := by omega
      obtain ⟨kk, hkk⟩ : ∃ kk, min y.1.2 (N - g) = kk := ⟨_, rfl⟩
      have hy1 := y.2.1
      have hy2 := y.2.2
      have hk0 : 0 < kk := by omega
      have hkle : y.1.1 + kk ≤ 64 := by omega
      have hw : IntKind.i64.wrap ((N : Int) - (g : Int)) = (N : Int) - (g : Int) := by have := HN.out; rw [IntKind.wrap_i64]; omega
      have hmin : (if (N : Int) - (g : Int) < (y.1.2 : Int) then (N : Int) - (g : Int) else (y.1.2 : Int)) = (kk : Int) := by split <;> omega
      have hcap : (kk : Int) ≤ ((64 - y.1.1 : Nat) : Int) := by omega
      have hKL : ((s.X.drop y.1.1).take kk).length = kk := by rw [List.length_take, List.length_drop, HM.out.ring.len]; omega
      have HKL := Lib.hid hKL; have HKK := Lib.hid hkk
      clear hKL hkk
      gi_wp2
      clear hw hmin hcap
      have R0 : Hid (GetR w W W.drew q n fa fo la lo s.X N (.slice ga g gcap) vs (.slice ga g gcap) s.r vs s.st) := GetR.drew ⟨HM.out.ring, HM.out.num, HBG.out, HBS.out, by rw [HG.out]; exact HOG.out, HOS.out, Ch.refl W, HM.out.tur⟩
      obtain ⟨i0, hi, hz0, hz1, hz2⟩ := info_parts Tryd.infoInt8
      have HI := Lib.hid hi; have HZ0 := Lib.hid hz0; have HZ1 := Lib.hid hz1; have HZ2 := Lib.hid hz2
      clear hi hz0 hz1 hz2
      obtain ⟨ig, hi, hz0, hz1, hz2⟩ := info_parts Tryd.infoByte9
      have GI := Lib.hid hi; have GZ0 := Lib.hid hz0; have GZ1 := Lib.hid hz1; have GZ2 := Lib.hid hz2
      clear hi hz0 hz1 hz2
      have d0 : W.drew.cell? ⟨w.heap.size + 1, 0, none⟩ = some (.slice ga g gcap) := HBG.out.cell
      have d1 : W.drew.cell? ⟨w.heap.size + 1 + 1, 0, none⟩ = some vs := HBS.out.cell
      clear c0 c1
      refine wpIn_round_stage 8 (S := fun w' => w'.cell? ⟨w.heap.size + 1, 0, none⟩ = some (.slice ga g gcap) ∧ w'.cell? ⟨w.heap.size + 1 + 1, 0, none⟩ = some vs) (by kernel_rfl) (by kernel_rfl) ⟨d0, d1⟩ (fun hHeld => ?_)
      refine takeZ 0 [2, 0] (.slice ga g gcap) (some 40) rfl (by kernel_rfl) (by kernel_rfl) (by kernel_rfl) (by kernel_rfl) (fun _ _ _ h => h) (fun oi h => by obtain rfl := Option.some.inj h; rfl) (fun oi h W hS => by obtain rfl := Option.some.inj h; obtain ⟨q1, q2⟩ := hS; go_simp) hHeld ?_
      simp only [Act.put, List.setIfInBounds_toArray, List.set_cons_zero, List.set_cons_succ]
      refine takeZ 1 [2, 1] (.slice (some ⟨q, y.1.1, none⟩) kk (64 - y.1.1)) (some 41) rfl (by kernel_rfl) (by kernel_rfl) (by kernel_rfl) (by kernel_rfl) (fun _ _ _ h => h) (fun oi h => by obtain rfl := Option.some.inj h; rfl) (fun oi h W hS => by obtain rfl := Option.some.inj h; obtain ⟨q1, q2⟩ := hS; go_simp) hHeld ?_
      simp only [Act.put, List.setIfInBounds_toArray, List.set_cons_zero, List.set_cons_succ]
      refine takeZ 3 [7, 3] (vs) (some 43) rfl (by kernel_rfl) (by kernel_rfl) (by kernel_rfl) (by kernel_rfl) (fun _ _ _ h => h) (fun oi h => by obtain rfl := Option.some.inj h; rfl) (fun oi h W hS => by obtain rfl := Option.some.inj h; obtain ⟨q1, q2⟩ := hS; go_simp) hHeld ?_
      simp only [Act.put, List.setIfInBounds_toArray, List.set_cons_zero, List.set_cons_succ]
      refine takeZ 4 [7, 6, 5, 4] (.slice (some ⟨q, y.1.1, none⟩) kk (64 - y.1.1)) (some 44) rfl (by kernel_rfl) (by kernel_rfl) (by kernel_rfl) (by kernel_rfl) (fun _ _ _ h => h) (fun oi h => by obtain rfl := Option.some.inj h; rfl) (fun oi h W hS => by obtain rfl := Option.some.inj h; obtain ⟨q1, q2⟩ := hS; go_simp) hHeld ?_
      simp only [Act.put, List.setIfInBounds_toArray, List.set_cons_zero, List.set_cons_succ]
      refine takeZ 5 [7, 6, 5] (.int .i64 (kk : Int)) (some 45) rfl (by kernel_rfl) (by kernel_rfl) (by kernel_rfl) (by kernel_rfl) (fun _ _ _ h => h) (fun oi h => by obtain rfl := Option.some.inj h; rfl) (fun oi h W hS => by obtain rfl := Option.some.inj h; obtain ⟨q1, q2⟩ := hS; go_simp) hHeld ?_
      simp only [Act.put, List.setIfInBounds_toArray, List.set_cons_zero, List.set_cons_succ]
      refine wpAnyZ_ready (rs := [2, 6]) (by kernel_rfl) (by simp) ?_
      refine ReadyZ.cons (i := 2) rfl (by decide) (fun K hK => ?_) (ReadyZ.cons (i := 6) rfl (by decide) (fun K hK => ?_) ReadyZ.nil)
      · refine step_append_lies _ (by rfl) _ _ _ (by rfl) (w.heap.size + 3) 5 ig _ 1 1 Tryd.underlying72 GI.out GZ0.out GZ1.out GZ2.out rfl (by omega) (.slice ga g gcap) g (byteCells s.r) (by rfl) (by have := R0.out.oG; rw [HG.out] at this; exact this) ⟨q, y.1.1, none⟩ kk (64 - y.1.1) (byteCells ((s.X.drop y.1.1).take kk)) (by rfl) (by rw [byteCells_length, HKL.out, Nat.mul_one]) (news_ring R0.out.ring) (byteCells_one _) (by omega) (by have := HLEN.out; have := HG.out; unfold maxLen; omega) (by have := HLEN.out; have := HG.out; omega) R0.out.bS.lt _ rfl ?_
        intro gg gc u2 hown hgrow _ _
        have ownu2 : World.ownsRow u2 (w.heap.size + 3) 5 1 (.slice (some ⟨gg, 0, none⟩) (g + kk) gc) (s.r ++ (s.X.drop y.1.1).take kk).length (byteCells (s.r ++ (s.X.drop y.1.1).take kk)) := by
          rw [show byteCells (s.r ++ (s.X.drop y.1.1).take kk) = byteCells s.r ++ byteCells ((s.X.drop y.1.1).take kk) by simp [byteCells], List.length_append, HG.out, HKL.out]
          exact hown
        have R2 := Lib.hid (R0.out.growG (by have := ownu2; exact this) hgrow)
        clear hown hgrow ownu2
        refine hK.out _ _ ⟨R2.out.bG.cell, R2.out.bS.cell⟩ (fun hHeld => ?_)
        clear hK K
        change wpAnyZ _ _ _ _ _ _ _ _ (Act.put _ (some 42) _) _
        try simp only [Act.put, List.setIfInBounds_toArray, List.set_cons_zero, List.set_cons_succ]
        refine wpAnyZ_ready (rs := [6]) (by kernel_rfl) (by simp) ?_
        refine ReadyZ.cons (i := 6) rfl (by decide) (fun K hK => ?_) ReadyZ.nil
        go_simp
        have R3 := Lib.hid (R2.out.alloc (.cells #[.int .i64 (kk : Int)] 3))
        have HNB := Lib.hid (heap_alloc_new u2 (.cells #[.int .i64 (kk : Int)] 3))
        skip
        refine hK.out _ _ ⟨R3.out.bG.cell, R3.out.bS.cell⟩ (fun hHeld => ?_)
        clear hK K
        try simp only [Act.put, List.setIfInBounds_toArray, List.set_cons_zero, List.set_cons_succ]
        refine wpAnyZ_ready (rs := [7]) (by kernel_rfl) (by simp) ?_
        refine ReadyZ.cons (i := 7) rfl (by decide) (fun K hK => ?_) ReadyZ.nil
        refine step_append_lies _ (by rfl) _ _ _ (by rfl) (w.heap.size + 3) 3 i0 _ 1 8 Tryd.underlying73 HI.out HZ0.out HZ1.out HZ2.out rfl (by omega) vs s.st.length (ints8 s.st) (by rfl) R3.out.oS ⟨u2.heap.size, 0, none⟩ 1 1 [.int .i64 (kk : Int)] (by rfl) (by rfl) (World.news_of_block (cs := #[.int .i64 (kk : Int)]) (t := 3) (fr := (0, 0)) HNB.out) (by simp [Value.oneCell']) (by omega) (by have := HLEN.out; have := HG.out; unfold maxLen; omega) (by have := HLEN.out; have := HG.out; omega) R3.out.bS.lt _ rfl ?_
        intro sg sc u4 hown hgrow _ _
        have ownu4 : World.ownsRow u4 (w.heap.size + 3) 3 1 (.slice (some ⟨sg, 0, none⟩) (s.st.length + 1) sc) (s.st ++ [kk]).length (ints8 (s.st ++ [kk])) := by
          rw [show ints8 (s.st ++ [kk]) = ints8 s.st ++ [.int .i64 (kk : Int)] by simp, List.length_append]
          exact hown
        have R4 := Lib.hid (R3.out.growS ownu4 hgrow)
        clear hown hgrow ownu4
        refine hK.out _ _ ⟨R4.out.bG.cell, R4.out.bS.cell⟩ (fun hHeld => ?_)
        clear hK K
        change wpAnyZ _ _ _ _ _ _ _ _ (Act.put _ (some 47) _) _
        try simp only [Act.put, List.setIfInBounds_toArray, List.set_cons_zero, List.set_cons_succ]
        have f1 := R4.out.bG.frozen; have e1 := R4.out.bG.cell
        have bs1 := R4.out.bS.other (B' := w.heap.size + 1) (by omega) (.slice (some ⟨gg, 0, none⟩) (g + kk) gc)
        have f2 := bs1.frozen; have e2 := bs1.cell
        clear bs1 d0 d1
        refine wpAnyZ_ready (rs := [8]) (by kernel_rfl) (by simp) ?_
        refine ReadyZ.last rfl (fun K hK => ?_)
        go_simp
        refine hK.out _ _ ?_
        clear hK K
        try simp only [Act.put, List.setIfInBounds_toArray, List.set_cons_zero, List.set_cons_succ]
        refine wpAny_ready (rs := [9]) (by kernel_rfl) (by simp) ?_
        refine AllReady.cons (i := 9) rfl (fun K hK => ?_) AllReady.nil
        go_simp
        refine hK _ _ ?_
        clear hK K f1 e1 f2 e2
        refine wpAny_done (by kernel_rfl) ?_ _
        refine Nrm.intro ?_
        obtain ⟨hM6, hC6⟩ := R4.out.stored hqw
        generalize (World.setCell (World.setCell _ ⟨w.heap.size + 1, 0, none⟩ _) ⟨w.heap.size + 1 + 1, 0, none⟩ _) = W6 at *
        obtain ⟨W7, hcl, hR7, hT7, cs, rfl⟩ := clear_ring (o := y.1.1) (k := kk) hM6.ring hkle (64 - y.1.1)
        have hC7 := hC6.trans (Ch.row hM6.ring cs)
        have hM7 : GetM w (W6.setRow q cs) q n fa fo la lo N ⟨splice s.X y.1.1 (List.replicate kk 0), s.r ++ (s.X.drop y.1.1).take kk, s.st ++ [kk]⟩ := hM6.rowed hqw cs hR7
        have HM7 := Lib.hid hM7; have HC7 := Lib.hid hC7
        clear hM6 hC6 hR7 hT7 hM7 hC7
        gi_wp2
        refine ⟨HC7.out.from _, HC7.out.kp HM.out.ring HM7.out.ring, ?_⟩
        show GetM w _ q n fa fo la lo N (((pre ++ [y]).map Subtype.val).foldl (getP N) ⟨X, [], []⟩)
        rw [HSN.out]
        unfold getP
        rw [HG.out, HKK.out]
        exact HM7.out
      · go_simp
        have R1 := Lib.hid (R0.out.alloc (.cells #[.int .i64 (kk : Int)] 3))
        have HNB := Lib.hid (heap_alloc_new W.drew (.cells #[.int .i64 (kk : Int)] 3))
        refine hK.out _ _ ⟨R1.out.bG.cell, R1.out.bS.cell⟩ (fun hHeld => ?_)
        clear hK K
        try simp only [Act.put, List.setIfInBounds_toArray, List.set_cons_zero, List.set_cons_succ]
        refine wpAnyZ_ready (rs := [2]) (by kernel_rfl) (by simp) ?_
        refine ReadyZ.cons (i := 2) rfl (by decide) (fun K hK => ?_) ReadyZ.nil
        refine step_append_lies _ (by rfl) _ _ _ (by rfl) (w.heap.size + 3) 5 ig _ 1 1 Tryd.underlying72 GI.out GZ0.out GZ1.out GZ2.out rfl (by omega) (.slice ga g gcap) g (byteCells s.r) (by rfl) (by have := R1.out.oG; rw [HG.out] at this; exact this) ⟨q, y.1.1, none⟩ kk (64 - y.1.1) (byteCells ((s.X.drop y.1.1).take kk)) (by rfl) (by rw [byteCells_length, HKL.out, Nat.mul_one]) (news_ring R1.out.ring) (byteCells_one _) (by omega) (by have := HLEN.out; have := HG.out; unfold maxLen; omega) (by have := HLEN.out; have := HG.out; omega) R1.out.bS.lt _ rfl ?_
        intro gg gc u2 hown hgrow _ _
        have ownu2 : World.ownsRow u2 (w.heap.size + 3) 5 1 (.slice (some ⟨gg, 0, none⟩) (g + kk) gc) (s.r ++ (s.X.drop y.1.1).take kk).length (byteCells (s.r ++ (s.X.drop y.1.1).take kk)) := by
          rw [show byteCells (s.r ++ (s.X.drop y.1.1).take kk) = byteCells s.r ++ byteCells ((s.X.drop y.1.1).take kk) by simp [byteCells], List.length_append, HG.out, HKL.out]
          exact hown
        have R2 := Lib.hid (R1.out.growG ownu2 hgrow)
        have HNB := Lib.hid ((hgrow.block _ (Array.getElem?_eq_some_iff.1 HNB.out).1 (ownsRow_far R1.out.oG HNB.out (by decide))).trans HNB.out)
        clear hown hgrow ownu2
        refine hK.out _ _ ⟨R2.out.bG.cell, R2.out.bS.cell⟩ (fun hHeld => ?_)
        clear hK K
        change wpAnyZ _ _ _ _ _ _ _ _ (Act.put _ (some 42) _) _
        try simp only [Act.put, List.setIfInBounds_toArray, List.set_cons_zero, List.set_cons_succ]
        refine wpAnyZ_ready (rs := [7]) (by kernel_rfl) (by simp) ?_
        refine ReadyZ.cons (i := 7) rfl (by decide) (fun K hK => ?_) ReadyZ.nil
        refine step_append_lies _ (by rfl) _ _ _ (by rfl) (w.heap.size + 3) 3 i0 _ 1 8 Tryd.underlying73 HI.out HZ0.out HZ1.out HZ2.out rfl (by omega) vs s.st.length (ints8 s.st) (by rfl) R2.out.oS ⟨W.drew.heap.size, 0, none⟩ 1 1 [.int .i64 (kk : Int)] (by rfl) (by rfl) (World.news_of_block (cs := #[.int .i64 (kk : Int)]) (t := 3) (fr := (0, 0)) HNB.out) (by simp [Value.oneCell']) (by omega) (by have := HLEN.out; have := HG.out; unfold maxLen; omega) (by have := HLEN.out; have := HG.out; omega) R2.out.bS.lt _ rfl ?_
        intro sg sc u4 hown hgrow _ _
        have ownu4 : World.ownsRow u4 (w.heap.size + 3) 3 1 (.slice (some ⟨sg, 0, none⟩) (s.st.length + 1) sc) (s.st ++ [kk]).length (ints8 (s.st ++ [kk])) := by
          rw [show ints8 (s.st ++ [kk]) = ints8 s.st ++ [.int .i64 (kk : Int)] by simp, List.length_append]
          exact hown
        have R4 := Lib.hid (R2.out.growS ownu4 hgrow)
        clear hown hgrow ownu4
        refine hK.out _ _ ⟨R4.out.bG.cell, R4.out.bS.cell⟩ (fun hHeld => ?_)
        clear hK K
        change wpAnyZ _ _ _ _ _ _ _ _ (Act.put _ (some 47) _) _
        try simp only [Act.put, List.setIfInBounds_toArray, List.set_cons_zero, List.set_cons_succ]
        have f1 := R4.out.bG.frozen; have e1 := R4.out.bG.cell
        have bs1 := R4.out.bS.other (B' := w.heap.size + 1) (by omega) (.slice (some ⟨gg, 0, none⟩) (g + kk) gc)
        have f2 := bs1.frozen; have e2 := bs1.cell
        clear bs1 d0 d1
        refine wpAnyZ_ready (rs := [8]) (by kernel_rfl) (by simp) ?_
        refine ReadyZ.last rfl (fun K hK => ?_)
        go_simp
        refine hK.out _ _ ?_
        clear hK K
        try simp only [Act.put, List.setIfInBounds_toArray, List.set_cons_zero, List.set_cons_succ]
        refine wpAny_ready (rs := [9]) (by kernel_rfl) (by simp) ?_
        refine AllReady.cons (i := 9) rfl (fun K hK => ?_) AllReady.nil
        go_simp
        refine hK _ _ ?_
        clear hK K f1 e1 f2 e2
        refine wpAny_done (by kernel_rfl) ?_ _
        refine Nrm.intro ?_
        obtain ⟨hM6, hC6⟩ := R4.out.stored hqw
        generalize (World.setCell (World.setCell _ ⟨w.heap.size + 1, 0, none⟩ _) ⟨w.heap.size + 1 + 1, 0, none⟩ _) = W6 at *
        obtain ⟨W7, hcl, hR7, hT7, cs, rfl⟩ := clear_ring (o := y.1.1) (k := kk) hM6.ring hkle (64 - y.1.1)
        have hC7 := hC6.trans (Ch.row hM6.ring cs)
        have hM7 : GetM w (W6.setRow q cs) q n fa fo la lo N ⟨splice s.X y.1.1 (List.replicate kk 0), s.r ++ (s.X.drop y.1.1).take kk, s.st ++ [kk]⟩ := hM6.rowed hqw cs hR7
        have HM7 := Lib.hid hM7; have HC7 := Lib.hid hC7
        clear hM6 hC6 hR7 hT7 hM7 hC7
        gi_wp2
        refine ⟨HC7.out.from _, HC7.out.kp HM.out.ring HM7.out.ring, ?_⟩
        show GetM w _ q n fa fo la lo N (((pre ++ [y]).map Subtype.val).foldl (getP N) ⟨X, [], []⟩)
        rw [HSN.out]
        unfold getP
        rw [HG.out, HKK.out]
        exact HM7.out
  case done =>
    rintro D ys W2 hD hys hM hK
    gi_wp2
    have hlen2 : (ys.map Subtype.val).length ≤ 2 := by
      have h1 : ∀ n a m, (partsA n a m).length ≤ 2 := fun n a m => by unfold partsA; split <;> (try split) <;> simp
      exact Nat.le_trans (by rw [hys]; exact Nat.le_refl _) (h1 n fa k)
    obtain ⟨s, hs⟩ : ∃ s, (ys.map Subtype.val).foldl (getP N) ⟨X, [], []⟩ = s := ⟨_, rfl⟩
    have hst1 : s.st.length ≤ 1000 := by rw [← hs, get_steps]; simp at hlen2 ⊢; omega
    have hst2 : ∀ k ∈ s.st, k ≤ 64 := by
      rw [← hs]
      exact get_small N _ _ (fun p hp => by obtain ⟨y, _, rfl⟩ := List.mem_map.1 hp; have := y.2; omega) (by simp)
    rw [hs] at hM
    obtain ⟨u, bg, og⟩ := hM.got
    obtain ⟨v, bv, hown⟩ := hM.st
    obtain ⟨aF, hF⟩ : ∃ x, (onL n s.st (fa, fo)).1 = x := ⟨_, rfl⟩
    obtain ⟨oF, hO⟩ : ∃ x, (onL n s.st (fa, fo)).2 = x := ⟨_, rfl⟩
    have hOn := on_any (sa := fa) (so := fo) hM.ring.drew (by omega) hn (StA.own (w := W2.drew) (base := w.heap.size + 3) (k := s.st.length) (ownsRow_keep hown fun _ _ => rfl)) hst2 hst1
    rw [hF, hO] at hOn
    have HM := Lib.hid hM; have HBG := Lib.hid bg; have HOG := Lib.hid og; have HBV := Lib.hid bv; have HS := Lib.hid hs; have HF := Lib.hid hF; have HO := Lib.hid hO; have HST := Lib.hid hst1; have HK := Lib.hid hK; have HON := Lib.hid hOn
    have c1 : W2.drew.cell? ⟨w.heap.size + 1 + 1, 0, none⟩ = some v := bv.cell
    have c5 := hM.ring.drew.c65
    have c6 := hM.ring.drew.c66
    clear hM bg og bv hs hF hO hst1 hst2 hown hK hOn
    refine wpIn_wide.2 ?_
    refine wp_region_stage 10 (S := fun w' => w'.cell? ⟨w.heap.size + 1 + 1, 0, none⟩ = some v ∧ w'.cell? ⟨q, 65, none⟩ = some (.int .i64 (fa : Int)) ∧ w'.cell? ⟨q, 66, none⟩ = some (.bool fo)) (by kernel_rfl) ⟨c1, c5, c6⟩ (fun hHeld => ?_)
    refine takeZ 0 [0] (.pointer (some ⟨q, 0, none⟩)) (some 49) rfl (by kernel_rfl) (by kernel_rfl) (by kernel_rfl) (by kernel_rfl) (fun _ _ _ h => h) (fun oi h => by obtain rfl := Option.some.inj h; rfl) (fun oi h W hS => by obtain rfl := Option.some.inj h; obtain ⟨q1, q2, q3⟩ := hS; go_simp) hHeld ?_
    simp only [Act.put, List.setIfInBounds_toArray, List.set_cons_zero, List.set_cons_succ]
    refine takeZ 1 [1] (.pointer (some ⟨q, 0, none⟩)) (some 50) rfl (by kernel_rfl) (by kernel_rfl) (by kernel_rfl) (by kernel_rfl) (fun _ _ _ h => h) (fun oi h => by obtain rfl := Option.some.inj h; rfl) (fun oi h W hS => by obtain rfl := Option.some.inj h; obtain ⟨q1, q2, q3⟩ := hS; go_simp) hHeld ?_
    simp only [Act.put, List.setIfInBounds_toArray, List.set_cons_zero, List.set_cons_succ]
    refine takeZ 2 [2] (.pointer (some ⟨q, 0, none⟩)) (some 51) rfl (by kernel_rfl) (by kernel_rfl) (by kernel_rfl) (by kernel_rfl) (fun _ _ _ h => h) (fun oi h => by obtain rfl := Option.some.inj h; rfl) (fun oi h W hS => by obtain rfl := Option.some.inj h; obtain ⟨q1, q2, q3⟩ := hS; go_simp) hHeld ?_
    simp only [Act.put, List.setIfInBounds_toArray, List.set_cons_zero, List.set_cons_succ]
    refine takeZ 3 [3] (.pointer (some ⟨q, 0, none⟩)) (some 52) rfl (by kernel_rfl) (by kernel_rfl) (by kernel_rfl) (by kernel_rfl) (fun _ _ _ h => h) (fun oi h => by obtain rfl := Option.some.inj h; rfl) (fun oi h W hS => by obtain rfl := Option.some.inj h; obtain ⟨q1, q2, q3⟩ := hS; go_simp) hHeld ?_
    simp only [Act.put, List.setIfInBounds_toArray, List.set_cons_zero, List.set_cons_succ]
    refine takeZ 4 [4] (.pointer (some ⟨q, 65, none⟩)) (some 53) rfl (by kernel_rfl) (by kernel_rfl) (by kernel_rfl) (by kernel_rfl) (fun _ _ _ h => h) (fun oi h => by obtain rfl := Option.some.inj h; rfl) (fun oi h W hS => by obtain rfl := Option.some.inj h; obtain ⟨q1, q2, q3⟩ := hS; go_simp) hHeld ?_
    simp only [Act.put, List.setIfInBounds_toArray, List.set_cons_zero, List.set_cons_succ]
    refine takeZ 5 [5] (endV fa fo) (some 54) rfl (by kernel_rfl) (by kernel_rfl) (by kernel_rfl) (by kernel_rfl) (fun _ _ _ h => h) (fun oi h => by obtain rfl := Option.some.inj h; rfl) (fun oi h W hS => by obtain rfl := Option.some.inj h; obtain ⟨q1, q2, q3⟩ := hS; go_simp) hHeld ?_
    simp only [Act.put, List.setIfInBounds_toArray, List.set_cons_zero, List.set_cons_succ]
    refine takeZ 6 [6] (v) (some 55) rfl (by kernel_rfl) (by kernel_rfl) (by kernel_rfl) (by kernel_rfl) (fun _ _ _ h => h) (fun oi h => by obtain rfl := Option.some.inj h; rfl) (fun oi h W hS => by obtain rfl := Option.some.inj h; obtain ⟨q1, q2, q3⟩ := hS; go_simp) hHeld ?_
    simp only [Act.put, List.setIfInBounds_toArray, List.set_cons_zero, List.set_cons_succ]
    refine wpAnyZ_ready (rs := [7]) (by kernel_rfl) (by simp) ?_
    refine ReadyZ.cons (i := 7) rfl (by decide) (fun K hK => ?_) ReadyZ.nil
    go_simp
    refine HON.out.mono ?_
    rintro e w4 ⟨rfl, hB4⟩
    have hB5 : Below W2.heap.size W2 w4 := drew_below' hB4
    have hR4 := HM.out.ring.below' hB5
    refine hK.out _ _ ⟨(hB5.cell (p := ⟨w.heap.size + 1 + 1, 0, none⟩) HBV.out.lt).trans HBV.out.cell, hR4.c65, hR4.c66⟩ (fun hHeld => ?_)
    clear hK K
    try simp only [Act.put, List.setIfInBounds_toArray, List.set_cons_zero, List.set_cons_succ]
    refine takeZ 8 [9, 8] (.pointer (some ⟨q, 0, none⟩)) (some 57) rfl (by kernel_rfl) (by kernel_rfl) (by kernel_rfl) (by kernel_rfl) (fun _ _ _ h => h) (fun oi h => by obtain rfl := Option.some.inj h; rfl) (fun oi h W hS => by obtain rfl := Option.some.inj h; obtain ⟨q1, q2, q3⟩ := hS; go_simp) hHeld ?_
    simp only [Act.put, List.setIfInBounds_toArray, List.set_cons_zero, List.set_cons_succ]
    refine takeZ 9 [9] (.pointer (some ⟨q, 65, none⟩)) (some 58) rfl (by kernel_rfl) (by kernel_rfl) (by kernel_rfl) (by kernel_rfl) (fun _ _ _ h => h) (fun oi h => by obtain rfl := Option.some.inj h; rfl) (fun oi h W hS => by obtain rfl := Option.some.inj h; obtain ⟨q1, q2, q3⟩ := hS; go_simp) hHeld ?_
    simp only [Act.put, List.setIfInBounds_toArray, List.set_cons_zero, List.set_cons_succ]
    have d7 := hR4.c65; have d8 := hR4.c66; have f7 := hR4.fr 65; have f8 := hR4.fr 66
    have HB5 := Lib.hid hB5; have HR4 := Lib.hid hR4
    clear hB4 hB5 hR4 c1 c5 c6
    refine wpAnyZ_ready (rs := [10]) (by kernel_rfl) (by simp) ?_
    refine ReadyZ.last rfl (fun K hK => ?_)
    go_simp
    refine hK.out _ _ ?_
    clear hK K d7 d8 f7 f8
    refine wpAny_done (by kernel_rfl) ?_ _
    refine Nrm.intro ?_
    have hR5 := HR4.out.setFirst aF oF
    have far : ∀ k, k ≠ q → ((w4.setCell ⟨q, 65, none⟩ (.int .i64 (aF : Int))).setCell ⟨q, 66, none⟩ (.bool oF)).heap[k]? = w4.heap[k]? := fun k hk => (Below.heap_setCell _ _ _ _ hk).trans (Below.heap_setCell _ _ _ _ hk)
    have hDlt : D < W2.heap.size := (Array.getElem?_eq_some_iff.1 HK.out).1
    have hqD : q ≠ D := fun e => by have := HM.out.ring.blk; rw [e, HK.out] at this; cases this
    have hK5 := (far D (Ne.symm hqD)).trans ((HB5.out.block D hDlt).trans HK.out)
    have hT5 := ((HM.out.tur.below_step HB5.out).set 65 (.int .i64 (aF : Int))).set 66 (.bool oF)
    have hG5 : Boxed ((w4.setCell ⟨q, 65, none⟩ (.int .i64 (aF : Int))).setCell ⟨q, 66, none⟩ (.bool oF)) (w.heap.size + 1) 72 u := (far _ (by omega)).trans ((HB5.out.block _ HBG.out.lt).trans HBG.out)
    have hO5 := ownsRow_keep (W' := (w4.setCell ⟨q, 65, none⟩ (.int .i64 (aF : Int))).setCell ⟨q, 66, none⟩ (.bool oF)) HOG.out (fun k hk => (far k (fun e => ownsRow_far HOG.out HM.out.ring.blk (by decide) (by rw [hk, e]))).trans (HB5.out.block k (HOG.out.lt k hk).2))
    clear far
    generalize (w4.setCell ⟨q, 65, none⟩ (.int .i64 (aF : Int))).setCell ⟨q, 66, none⟩ (.bool oF) = W5 at *
    have hcv := conv_row hO5 rfl
    have g5 := hG5.cell
    have HR5 := Lib.hid hR5; have HK5 := Lib.hid hK5; have HT5 := Lib.hid hT5
    clear hR5 hK5 hT5 hDlt hG5 hO5
    gi_wp2
    refine wpIn_label ?_
    gi_wp2
    rw [Exit.noGoto_ret]
    refine ⟨by simp, .inl ⟨_, _, rfl, run_takeDeferred (show W5.heap[D]? = _ from HK5.out), ?_⟩⟩
    refine ⟨_, results_tmp2 rfl _ _ _, ys.map Subtype.val, by rw [hys]; exact List.prefix_refl _, .inl hys, ?_⟩
    rw [HS.out, HF.out, HO.out]
    exact ⟨rfl, HR5.out.keep (World.putObj_heap_other hqD), HT5.out.put (by have := HB0w.out; omega)⟩
  case stop =>
    rintro D c pre W2 hD hpre ⟨rfl, ini, last, e1, hr, hM⟩ hK
    have hpi : ini.map Subtype.val <+: partsA n fa k := by
      rw [e1, List.map_append] at hpre
      exact (List.prefix_append _ _).trans hpre
    have HRr := Lib.hid hr
    clear hr e1 hpre
    gi_wp2
    have hlen2 : (ini.map Subtype.val).length ≤ 2 := by
      have h1 : ∀ n a m, (partsA n a m).length ≤ 2 := fun n a m => by unfold partsA; split <;> (try split) <;> simp
      exact Nat.le_trans hpi.length_le (h1 n fa k)
    obtain ⟨s, hs⟩ : ∃ s, (ini.map Subtype.val).foldl (getP N) ⟨X, [], []⟩ = s := ⟨_, rfl⟩
    have hst1 : s.st.length ≤ 1000 := by rw [← hs, get_steps]; simp at hlen2 ⊢; omega
    have hst2 : ∀ k ∈ s.st, k ≤ 64 := by
      rw [← hs]
      exact get_small N _ _ (fun p hp => by obtain ⟨y, _, rfl⟩ := List.mem_map.1 hp; have := y.2; omega) (by simp)
    rw [hs] at hM
    obtain ⟨u, bg, og⟩ := hM.got
    obtain ⟨v, bv, hown⟩ := hM.st
    obtain ⟨aF, hF⟩ : ∃ x, (onL n s.st (fa, fo)).1 = x := ⟨_, rfl⟩
    obtain ⟨oF, hO⟩ : ∃ x, (onL n s.st (fa, fo)).2 = x := ⟨_, rfl⟩
    have hOn := on_any (sa := fa) (so := fo) hM.ring.drew (by omega) hn (StA.own (w := W2.drew) (base := w.heap.size + 3) (k := s.st.length) (ownsRow_keep hown fun _ _ => rfl)) hst2 hst1
    rw [hF, hO] at hOn
    have HM := Lib.hid hM; have HBG := Lib.hid bg; have HOG := Lib.hid og; have HBV := Lib.hid bv; have HS := Lib.hid hs; have HF := Lib.hid hF; have HO := Lib.hid hO; have HST := Lib.hid hst1; have HK := Lib.hid hK; have HON := Lib.hid hOn
    have c1 : W2.drew.cell? ⟨w.heap.size + 1 + 1, 0, none⟩ = some v := bv.cell
    have c5 := hM.ring.drew.c65
    have c6 := hM.ring.drew.c66
    clear hM bg og bv hs hF hO hst1 hst2 hown hK hOn
    refine wpIn_wide.2 ?_
    refine wp_region_stage 10 (S := fun w' => w'.cell? ⟨w.heap.size + 1 + 1, 0, none⟩ = some v ∧ w'.cell? ⟨q, 65, none⟩ = some (.int .i64 (fa : Int)) ∧ w'.cell? ⟨q, 66, none⟩ = some (.bool fo)) (by kernel_rfl) ⟨c1, c5, c6⟩ (fun hHeld => ?_)
    refine takeZ 0 [0] (.pointer (some ⟨q, 0, none⟩)) (some 49) rfl (by kernel_rfl) (by kernel_rfl) (by kernel_rfl) (by kernel_rfl) (fun _ _ _ h => h) (fun oi h => by obtain rfl := Option.some.inj h; rfl) (fun oi h W hS => by obtain rfl := Option.some.inj h; obtain ⟨q1, q2, q3⟩ := hS; go_simp) hHeld ?_
    simp only [Act.put, List.setIfInBounds_toArray, List.set_cons_zero, List.set_cons_succ]
    refine takeZ 1 [1] (.pointer (some ⟨q, 0, none⟩)) (some 50) rfl (by kernel_rfl) (by kernel_rfl) (by kernel_rfl) (by kernel_rfl) (fun _ _ _ h => h) (fun oi h => by obtain rfl := Option.some.inj h; rfl) (fun oi h W hS => by obtain rfl := Option.some.inj h; obtain ⟨q1, q2, q3⟩ := hS; go_simp) hHeld ?_
    simp only [Act.put, List.setIfInBounds_toArray, List.set_cons_zero, List.set_cons_succ]
    refine takeZ 2 [2] (.pointer (some ⟨q, 0, none⟩)) (some 51) rfl (by kernel_rfl) (by kernel_rfl) (by kernel_rfl) (by kernel_rfl) (fun _ _ _ h => h) (fun oi h => by obtain rfl := Option.some.inj h; rfl) (fun oi h W hS => by obtain rfl := Option.some.inj h; obtain ⟨q1, q2, q3⟩ := hS; go_simp) hHeld ?_
    simp only [Act.put, List.setIfInBounds_toArray, List.set_cons_zero, List.set_cons_succ]
    refine takeZ 3 [3] (.pointer (some ⟨q, 0, none⟩)) (some 52) rfl (by kernel_rfl) (by kernel_rfl) (by kernel_rfl) (by kernel_rfl) (fun _ _ _ h => h) (fun oi h => by obtain rfl := Option.some.inj h; rfl) (fun oi h W hS => by obtain rfl := Option.some.inj h; obtain ⟨q1, q2, q3⟩ := hS; go_simp) hHeld ?_
    simp only [Act.put, List.setIfInBounds_toArray, List.set_cons_zero, List.set_cons_succ]
    refine takeZ 4 [4] (.pointer (some ⟨q, 65, none⟩)) (some 53) rfl (by kernel_rfl) (by kernel_rfl) (by kernel_rfl) (by kernel_rfl) (fun _ _ _ h => h) (fun oi h => by obtain rfl := Option.some.inj h; rfl) (fun oi h W hS => by obtain rfl := Option.some.inj h; obtain ⟨q1, q2, q3⟩ := hS; go_simp) hHeld ?_
    simp only [Act.put, List.setIfInBounds_toArray, List.set_cons_zero, List.set_cons_succ]
    refine takeZ 5 [5] (endV fa fo) (some 54) rfl (by kernel_rfl) (by kernel_rfl) (by kernel_rfl) (by kernel_rfl) (fun _ _ _ h => h) (fun oi h => by obtain rfl := Option.some.inj h; rfl) (fun oi h W hS => by obtain rfl := Option.some.inj h; obtain ⟨q1, q2, q3⟩ := hS; go_simp) hHeld ?_
    simp only [Act.put, List.setIfInBounds_toArray, List.set_cons_zero, List.set_cons_succ]
    refine takeZ 6 [6] (v) (some 55) rfl (by kernel_rfl) (by kernel_rfl) (by kernel_rfl) (by kernel_rfl) (fun _ _ _ h => h) (fun oi h => by obtain rfl := Option.some.inj h; rfl) (fun oi h W hS => by obtain rfl := Option.some.inj h; obtain ⟨q1, q2, q3⟩ := hS; go_simp) hHeld ?_
    simp only [Act.put, List.setIfInBounds_toArray, List.set_cons_zero, List.set_cons_succ]
    refine wpAnyZ_ready (rs := [7]) (by kernel_rfl) (by simp) ?_
    refine ReadyZ.cons (i := 7) rfl (by decide) (fun K hK => ?_) ReadyZ.nil
    go_simp
    refine HON.out.mono ?_
    rintro e w4 ⟨rfl, hB4⟩
    have hB5 : Below W2.heap.size W2 w4 := drew_below' hB4
    have hR4 := HM.out.ring.below' hB5
    refine hK.out _ _ ⟨(hB5.cell (p := ⟨w.heap.size + 1 + 1, 0, none⟩) HBV.out.lt).trans HBV.out.cell, hR4.c65, hR4.c66⟩ (fun hHeld => ?_)
    clear hK K
    try simp only [Act.put, List.setIfInBounds_toArray, List.set_cons_zero, List.set_cons_succ]
    refine takeZ 8 [9, 8] (.pointer (some ⟨q, 0, none⟩)) (some 57) rfl (by kernel_rfl) (by kernel_rfl) (by kernel_rfl) (by kernel_rfl) (fun _ _ _ h => h) (fun oi h => by obtain rfl := Option.some.inj h; rfl) (fun oi h W hS => by obtain rfl := Option.some.inj h; obtain ⟨q1, q2, q3⟩ := hS; go_simp) hHeld ?_
    simp only [Act.put, List.setIfInBounds_toArray, List.set_cons_zero, List.set_cons_succ]
    refine takeZ 9 [9] (.pointer (some ⟨q, 65, none⟩)) (some 58) rfl (by kernel_rfl) (by kernel_rfl) (by kernel_rfl) (by kernel_rfl) (fun _ _ _ h => h) (fun oi h => by obtain rfl := Option.some.inj h; rfl) (fun oi h W hS => by obtain rfl := Option.some.inj h; obtain ⟨q1, q2, q3⟩ := hS; go_simp) hHeld ?_
    simp only [Act.put, List.setIfInBounds_toArray, List.set_cons_zero, List.set_cons_succ]
    have d7 := hR4.c65; have d8 := hR4.c66; have f7 := hR4.fr 65; have f8 := hR4.fr 66
    have HB5 := Lib.hid hB5; have HR4 := Lib.hid hR4
    clear hB4 hB5 hR4 c1 c5 c6
    refine wpAnyZ_ready (rs := [10]) (by kernel_rfl) (by simp) ?_
    refine ReadyZ.last rfl (fun K hK => ?_)
    go_simp
    refine hK.out _ _ ?_
    clear hK K d7 d8 f7 f8
    refine wpAny_done (by kernel_rfl) ?_ _
    refine Nrm.intro ?_
    have hR5 := HR4.out.setFirst aF oF
    have far : ∀ k, k ≠ q → ((w4.setCell ⟨q, 65, none⟩ (.int .i64 (aF : Int))).setCell ⟨q, 66, none⟩ (.bool oF)).heap[k]? = w4.heap[k]? := fun k hk => (Below.heap_setCell _ _ _ _ hk).trans (Below.heap_setCell _ _ _ _ hk)
    have hDlt : D < W2.heap.size := (Array.getElem?_eq_some_iff.1 HK.out).1
    have hqD : q ≠ D := fun e => by have := HM.out.ring.blk; rw [e, HK.out] at this; cases this
    have hK5 := (far D (Ne.symm hqD)).trans ((HB5.out.block D hDlt).trans HK.out)
    have hT5 := ((HM.out.tur.below_step HB5.out).set 65 (.int .i64 (aF : Int))).set 66 (.bool oF)
    have hG5 : Boxed ((w4.setCell ⟨q, 65, none⟩ (.int .i64 (aF : Int))).setCell ⟨q, 66, none⟩ (.bool oF)) (w.heap.size + 1) 72 u := (far _ (by omega)).trans ((HB5.out.block _ HBG.out.lt).trans HBG.out)
    have hO5 := ownsRow_keep (W' := (w4.setCell ⟨q, 65, none⟩ (.int .i64 (aF : Int))).setCell ⟨q, 66, none⟩ (.bool oF)) HOG.out (fun k hk => (far k (fun e => ownsRow_far HOG.out HM.out.ring.blk (by decide) (by rw [hk, e]))).trans (HB5.out.block k (HOG.out.lt k hk).2))
    clear far
    generalize (w4.setCell ⟨q, 65, none⟩ (.int .i64 (aF : Int))).setCell ⟨q, 66, none⟩ (.bool oF) = W5 at *
    have hcv := conv_row hO5 rfl
    have g5 := hG5.cell
    have HR5 := Lib.hid hR5; have HK5 := Lib.hid hK5; have HT5 := Lib.hid hT5
    clear hR5 hK5 hT5 hDlt hG5 hO5
    gi_wp2
    refine wpIn_label ?_
    gi_wp2
    rw [Exit.noGoto_ret]
    refine ⟨by simp, .inl ⟨_, _, rfl, run_takeDeferred (show W5.heap[D]? = _ from HK5.out), ?_⟩⟩
    refine ⟨_, results_tmp2 rfl _ _ _, ini.map Subtype.val, hpi, .inr HRr.out, ?_⟩
    rw [HS.out, HF.out, HO.out]
    exact ⟨rfl, HR5.out.keep (World.putObj_heap_other hqD), HT5.out.put (by have := HB0w.out; omega)⟩
end
end Go.Proofs.YtpfldelmbigmbaaDoor
