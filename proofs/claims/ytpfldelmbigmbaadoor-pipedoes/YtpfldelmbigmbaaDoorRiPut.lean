/- Package ring: Put, walked. -/
import Derived.Test.YtpfldelmbigmbaaDoorRiKeep
import Derived.Test.YtpfldelmbigmbaaDoorRiStage
import Derived.Lib.AppendZeros
namespace Go.Proofs.YtpfldelmbigmbaaDoor
open Go.RowKit Go.Shelf Go.Lib

attribute [local go_sem] Oper.semAt_some

abbrev ints8 (st : List Nat) : List Value := st.map fun x : Nat => Value.int .i64 (x : Int)

theorem drop_extract (Y : ByteArray) (m : Nat) : (Y.extract m Y.size).data.toList = Y.data.toList.drop m := by
  rw [ByteArray.data_extract, Array.toList_extract, List.extract_eq_take_drop]
  exact List.take_of_length_le (by rw [List.length_drop, ← Lib.size_eq]; exact Nat.le_refl _)
theorem RAt.setO {w : World} {q n fa la b o : Nat} {fo lo : Bool} {X : List UInt8} (h : RAt w q X n fa fo la lo) (v : Value) (hne : q ≠ b) : RAt (w.setCell ⟨b, o, none⟩ v) q X n fa fo la lo := h.keep (Below.heap_setCell _ _ _ _ hne)

theorem Tryd.infoInt8 : (Tryd.prog.info? 3).map (fun i => (i.zero, i.size, i.bytes)) = some (some (.int .i64 0), 1, 8) := by kernel_rfl

theorem isEmpty_bytes (Y : ByteArray) : Y.toList.isEmpty = Y.data.toList.isEmpty := by
  have h := beq_toListBytes Y ⟨#[]⟩
  have e : (⟨#[]⟩ : ByteArray).toList = [] := by unfold ByteArray.toList ByteArray.toList.loop; rfl
  rw [e] at h
  by_cases c : Y = ⟨#[]⟩
  · subst c; rw [e]
  · have h1 : (Y == ⟨#[]⟩) = false := by simpa using c
    have h2 : Y.data.toList.isEmpty = false := by
      cases hd : Y.data.toList with
      | nil => exact absurd (ByteArray.ext (by simpa using hd)) c
      | cons x r => rfl
    rw [h2]
    rw [h1] at h
    cases hd : Y.toList with
    | nil => rw [hd] at h; cases h
    | cons x r => rfl

/-- putting, in memory: the ring, what is left, the steps. -/
structure PutM (w W : World) (q n fa : Nat) (fo : Bool) (la : Nat) (lo : Bool) (s : PSt) : Prop where
  ring : RAt W q s.X n fa fo la lo
  rest : ∃ Y : ByteArray, Y.data.toList = s.r ∧ Boxed W w.heap.size 9 (.string Y)
  st : ∃ v, Boxed W (w.heap.size + 1) 73 v ∧ W.ownsRow w.heap.size 3 1 v s.st.length (ints8 s.st)
  tur : Tur q w W
theorem PutM.mv {w W W' : World} {q n fa la B : Nat} {fo lo : Bool} {s : PSt} (h : PutM w W q n fa fo la lo s) (m : Mv 68 B W W') (hB : w.heap.size ≤ B) : PutM w W' q n fa fo la lo s := by
  obtain ⟨Y, hY, hb⟩ := h.rest
  obtain ⟨v, hv, ho⟩ := h.st
  exact ⟨h.ring.mv m, ⟨Y, hY, boxed_mv hb m (by decide)⟩, ⟨v, boxed_mv hv m (by decide), ownsRow_mv ho m (by decide)⟩, h.tur.mv m hB⟩

theorem put_rest : ∀ (ps : List (Nat × Nat)) (s : PSt), (ps.foldl putP s).r.length ≤ s.r.length
  | [], _ => Nat.le_refl _
  | p :: ps, s => Nat.le_trans (put_rest ps (putP s p)) (by show (s.r.drop p.2).length ≤ _; simp)
theorem RAt.setLast {w : World} {q n fa la : Nat} {fo lo : Bool} {X : List UInt8} (h : RAt w q X n fa fo la lo) (a : Nat) (o : Bool) : RAt ((w.setCell ⟨q, 67, none⟩ (.int .i64 (a : Int))).setCell ⟨q, 68, none⟩ (.bool o)) q X n fa fo a o := by
  have hb : (Lib.byteCells X).length = 64 := by rw [Lib.byteCells_length]; exact h.len
  refine ⟨(heap_setCell_same _ q 68 _ _ _ (heap_setCell_same w q 67 _ _ _ h.blk)).trans ?_, h.len⟩
  congr 2
  unfold ringCells
  apply Array.toList_inj.1
  simp only [Array.toList_setIfInBounds]
  rw [List.set_append_right _ _ (by omega), hb, List.set_append_right _ _ (by omega), hb]
  rfl
theorem RAt.setFirst {w : World} {q n fa la : Nat} {fo lo : Bool} {X : List UInt8} (h : RAt w q X n fa fo la lo) (a : Nat) (o : Bool) : RAt ((w.setCell ⟨q, 65, none⟩ (.int .i64 (a : Int))).setCell ⟨q, 66, none⟩ (.bool o)) q X n a o la lo := by
  have hb : (Lib.byteCells X).length = 64 := by rw [Lib.byteCells_length]; exact h.len
  refine ⟨(heap_setCell_same _ q 66 _ _ _ (heap_setCell_same w q 65 _ _ _ h.blk)).trans ?_, h.len⟩
  congr 2
  unfold ringCells
  apply Array.toList_inj.1
  simp only [Array.toList_setIfInBounds]
  rw [List.set_append_right _ _ (by omega), hb, List.set_append_right _ _ (by omega), hb]
  rfl
theorem Tur.below_step {q : Nat} {w W W' : World} (h : Tur q w W) (hb : Below W.heap.size W W') : Tur q w W' := h.trans (Tur.of_below hb)
theorem Tur.put {q D : Nat} {w W : World} {o : Obj} (h : Tur q w W) (hD : w.heap.size ≤ D) : Tur q w (W.putObj D o) :=
  ⟨h.os, h.tape, h.output, by rw [World.putObj_size]; exact h.size, fun k hk h1 => (World.putObj_heap_other (by omega)).trans (h.block k hk h1)⟩
theorem put_small : ∀ (ps : List (Nat × Nat)) (s : PSt), (∀ p ∈ ps, p.2 ≤ 64) → (∀ k ∈ s.st, k ≤ 64) → ∀ k ∈ (ps.foldl putP s).st, k ≤ 64
  | [], _, _, h => h
  | p :: ps, s, h, h0 => put_small ps (putP s p) (fun x hx => h x (by simp [hx])) (fun k hk => by
    rcases List.mem_append.1 hk with hk | hk
    · exact h0 k hk
    · have := h p (by simp); simp at hk; omega)
theorem put_steps : ∀ (ps : List (Nat × Nat)) (s : PSt), (ps.foldl putP s).st.length = s.st.length + ps.length
  | [], s => rfl
  | p :: ps, s => by rw [List.foldl_cons, put_steps ps, List.length_cons]; simp [putP]; omega

section
variable {w : World} {q n fa la : Nat} {fo lo : Bool} {X : List UInt8}

set_option maxRecDepth 100000 in
set_option maxHeartbeats 4000000 in
theorem put_in (h : RAt w q X n fa fo la lo) (hn : n ≤ 64) (hla : la < n) (k : Nat) (hk : k ≤ n) (hf : fa = advA n la k) (hfo : (!fo) = advO n la k lo) (S : ByteArray) (hS : S.size ≤ 140737488355328) :
    CallsIn Fence.wide 8 Tryd.prog 30 #[.pointer (some ⟨q, 0, none⟩), (.string S)] w fun e w' => ∃ ini : List (Nat × Nat), ini <+: partsA n la k ∧ (ini = partsA n la k ∨ (ini.foldl putP ⟨X, S.data.toList, []⟩).r = []) ∧
      (e = .returned (.tuple #[.int .i64 ((S.size : Int) - ((ini.foldl putP ⟨X, S.data.toList, []⟩).r.length : Int)), .int .i64 0]) ∧
        RAt w' q (ini.foldl putP ⟨X, S.data.toList, []⟩).X n fa fo (onL n (ini.foldl putP ⟨X, S.data.toList, []⟩).st (la, lo)).1 (onL n (ini.foldl putP ⟨X, S.data.toList, []⟩).st (la, lo)).2 ∧ Tur q w w') := by
  refine callsIn_of_wp_marks Tryd.func30 rfl trivial ?_ rfl
  simp only [Tryd.ntmps30, List.size_toArray, List.length_cons, List.length_nil, Nat.reduceAdd, Nat.reduceSub, Array.replicate_succ, Array.replicate_zero, List.push_toArray, List.append_toArray, List.nil_append, List.cons_append]
  have hqw := h.lt
  have c7 := (((h.alloc (.cells #[.string S] 9)).alloc (.cells #[.slice none 0 0] 73))).c67
  have c8 := (((h.alloc (.cells #[(.string S)] 9)).alloc (.cells #[.slice none 0 0] 73))).c68
  have H := Lib.hid ((h.alloc (.cells #[(.string S)] 9)).alloc (.cells #[.slice none 0 0] 73))
  have bR := Lib.hid ((Boxed.new w 9 ((.string S))).alloc (.cells #[.slice none 0 0] 73))
  have bS := Boxed.new (w.alloc (.cells #[(.string S)] 9)) 73 (.slice none 0 0)
  have hB := ((Below.refl w.heap.size w).alloc (Nat.le_refl _) (.cells #[(.string S)] 9)).alloc (by simp) (.cells #[.slice none 0 0] 73)
  simp only [World.size_alloc] at bS
  have BS := Lib.hid bS; have HB := Lib.hid hB
  have HF := Lib.hid hf; have HFO := Lib.hid hfo
  clear h bS hB hf hfo
  gi_wp2
  refine wpIn_scope' ?_
  gi_wp2
  refine wpIn_label ?_
  gi_wp2
  generalize hW : (w.alloc (.cells #[(.string S)] 9)).alloc (.cells #[.slice none 0 0] 73) = W at *
  refine wpIn_wide.2 ?_
  go_region_held3 (fun w' => w'.cell? ⟨q, 67, none⟩ = some (.int .i64 (la : Int)) ∧ w'.cell? ⟨q, 68, none⟩ = some (.bool lo)) (first | exact S2 | exact S1 | go_keep)
    (first
      | (go_at_call 40; refine (brim_any H.out.drew).mono ?_; rintro e w1 ⟨rfl, hB⟩; have H1 := H.out.drew.below' hB; have S1 := And.intro H1.c67 H1.c68; have HB1 := Lib.hid (drew_below' (show Below W.heap.size W.drew w1 from hB)); have HH1 := Lib.hid H1; clear hB H1)
      | (go_at_call 37; refine (stretches_any _ _ _ _ _ ⟨_, rfl⟩ _).mono ?_; rintro e w2 ⟨rfl, rfl⟩; have S2 := And.intro (((HH1.out.alloc (.cells #[.pointer (some ⟨q, 0, none⟩)] 49)).alloc (.cells #[.int .i64 (la : Int), .bool lo] 68)).alloc (.cells #[.int .i64 (fa : Int), .bool (!fo)] 68)).c67 (((HH1.out.alloc (.cells #[.pointer (some ⟨q, 0, none⟩)] 49)).alloc (.cells #[.int .i64 (la : Int), .bool lo] 68)).alloc (.cells #[.int .i64 (fa : Int), .bool (!fo)] 68)).c68))
  have bP := ((Boxed.new w1 49 (.pointer (some ⟨q, 0, none⟩))).alloc (.cells #[.int .i64 (la : Int), .bool lo] 68)).alloc (.cells #[.int .i64 (fa : Int), .bool (!fo)] 68)
  have bF := (BoxA.new (w1.alloc (.cells #[.pointer (some ⟨q, 0, none⟩)] 49)) 68 #[.int .i64 (la : Int), .bool lo]).alloc (.cells #[.int .i64 (fa : Int), .bool (!fo)] 68)
  have bT := BoxA.new ((w1.alloc (.cells #[.pointer (some ⟨q, 0, none⟩)] 49)).alloc (.cells #[.int .i64 (la : Int), .bool lo] 68)) 68 #[.int .i64 (fa : Int), .bool (!fo)]
  have hB2 : Below W.heap.size W (((w1.alloc (.cells #[.pointer (some ⟨q, 0, none⟩)] 49)).alloc (.cells #[.int .i64 (la : Int), .bool lo] 68)).alloc (.cells #[.int .i64 (fa : Int), .bool (!fo)] 68)) :=
    ((HB1.out.alloc HB1.out.size _).alloc (by have := HB1.out.size; simp; omega) _).alloc (by have := HB1.out.size; simp; omega) _
  simp only [World.size_alloc] at bF bT
  clear S2
  generalize (((w1.alloc (.cells #[.pointer (some ⟨q, 0, none⟩)] 49)).alloc (.cells #[.int .i64 (la : Int), .bool lo] 68)).alloc (.cells #[.int .i64 (fa : Int), .bool (!fo)] 68)) = W0 at *
  rw [HF.out, HFO.out] at bT
  have hW0 : PutM w W0 q n fa fo la lo ⟨X, S.data.toList, []⟩ :=
    ⟨H.out.below' hB2, ⟨S, rfl, (hB2.block _ bR.out.lt).trans bR.out⟩, ⟨.slice none 0 0, (hB2.block _ BS.out.lt).trans BS.out, World.ownsRow_nil _ _ _ _⟩, Tur.of_below (HB.out.trans (hB2.mono HB.out.size))⟩
  have hws : w.heap.size ≤ W0.heap.size := hW0.tur.size
  have HW0 := Lib.hid hW0; have HB0w := Lib.hid hws
  have hRx : ∃ X fa fo la lo, RAt W0 q X n fa fo la lo := ⟨_, _, _, _, _, hW0.ring⟩
  clear hW0 hB2
  gi_wp2
  refine range_ends 68 (gf := 45) (lb := #[.pointer (some ⟨w1.heap.size + 1, 0, none⟩), .pointer (some ⟨w1.heap.size + 1 + 1, 0, none⟩), .pointer (some ⟨w1.heap.size, 0, none⟩)]) rfl (enters_of Tryd.func45 (by kernel_rfl) rfl)
    (stretch_stops 7 (by omega) q (w1.heap.size + 1) (w1.heap.size + 1 + 1) w1.heap.size n la k lo hn hla hk W0 hRx bF bT bP) KpR.trans KpR.put (Below.refl _ _) (fun _ => rfl)
    (fun pre W => PutM w W q n fa fo la lo ((pre.map Subtype.val).foldl putP ⟨X, S.data.toList, []⟩))
    (fun c pre W => c = .exit 0 ∧ ∃ (ini : List Prt) (last : Prt), pre = ini ++ [last] ∧ ((ini.map Subtype.val).foldl putP ⟨X, S.data.toList, []⟩).r = [] ∧ PutM w W q n fa fo la lo ((ini.map Subtype.val).foldl putP ⟨X, S.data.toList, []⟩))
    (fun s A A' hs m => hs.mv m hws) (fun c s A A' hs m => by obtain ⟨hc, ini, last, e, hr, hs⟩ := hs; exact ⟨hc, ini, last, e, hr, hs.mv m hws⟩) HW0.out
    (fun y => { tmps := #[.pointer (some ⟨q, 0, none⟩), .string S, undef, undef, .int .i64 0, .int .i64 0, .pointer (some ⟨w.heap.size, 0, none⟩), .pointer (some ⟨w.heap.size + 1, 0, none⟩), .slice (some ⟨q, y.1.1, none⟩) y.1.2 (64 - y.1.1), undef, .pointer (some ⟨q, 0, none⟩), .bool false, .string S, .pointer (some ⟨q, 0, none⟩), .pointer (some ⟨q, 0, none⟩), .pointer (some ⟨q, 0, none⟩), .pointer (some ⟨q, 67, none⟩), .agg #[.int .i64 (la : Int), .bool lo], .pointer (some ⟨q, 0, none⟩), endV fa (!fo), .func (.func 45) #[] #[.pointer (some ⟨w1.heap.size + 1, 0, none⟩), .pointer (some ⟨w1.heap.size + 1 + 1, 0, none⟩), .pointer (some ⟨w1.heap.size, 0, none⟩)], .slice (some ⟨q, y.1.1, none⟩) y.1.2 (64 - y.1.1), undef, undef, undef, undef, undef, undef, undef, undef, undef, undef, undef, undef, undef, undef, undef, undef, undef, undef, undef, undef, undef, undef, undef, undef, undef, undef, undef], defers := [] }) ?assign ?body ?done ?stop
  case assign =>
    intro l y W K hK
    unfold prtV
    gi_wp2
    exact hK
  case body =>
    rintro l pre y W hM hlen
    obtain ⟨s, hs⟩ : ∃ s, (pre.map Subtype.val).foldl putP ⟨X, S.data.toList, []⟩ = s := ⟨_, rfl⟩
    rw [hs] at hM
    have hsn : ((pre ++ [y]).map Subtype.val).foldl putP ⟨X, S.data.toList, []⟩ = putP s y.1 := by rw [List.map_append, List.foldl_append, hs]; rfl
    have HS := Lib.hid hs; have HSN := Lib.hid hsn
    have HLEN : Hid (s.st.length ≤ 100) := by unfold Hid; rw [← hs, put_steps]; simp; omega
    obtain ⟨Y, hY, bY⟩ := hM.rest
    have HM := Lib.hid hM; have HY := Lib.hid hY; have HBY := Lib.hid bY
    have y1 := bY.cell
    clear hs hsn hM hY bY
    by_cases h0 : Y.toList.isEmpty = true
    · gi_wp2
      have hr : s.r = [] := by
        rw [isEmpty_bytes, HY.out] at h0
        simpa using h0
      exact ⟨KeepsFrom.refl _ _, rfl, pre, y, rfl, by rw [HS.out]; exact hr, by rw [HS.out]; exact HM.out⟩
    · have h0' : Y.toList.isEmpty = false := by simpa using h0
      clear h0
      obtain ⟨m, hm⟩ : ∃ m, min Y.size y.1.2 = m := ⟨_, rfl⟩
      have hmY : m ≤ Y.size := by omega
      have hsz : (Y.data.toList.take y.1.2).length = m := by rw [List.length_take, ← Lib.size_eq, Nat.min_comm]; exact hm
      have hcp := fun ty => copy_ring HM.out.ring (o := y.1.1) (dLen := y.1.2) y.2.1 (64 - y.1.1) Y ty
      have hR2 := HM.out.ring.row (cs := Y.data.toList.take y.1.2) (o := y.1.1) (by have := y.2; rw [hsz]; omega)
      have hT2 := HM.out.tur.row (ringRow s.X n fa fo la lo y.1.1 (Y.data.toList.take y.1.2))
      have hC2 := Ch.row HM.out.ring (ringRow s.X n fa fo la lo y.1.1 (Y.data.toList.take y.1.2))
      obtain ⟨v, bv, hown⟩ := HM.out.st
      have bY2 : Boxed (W.setRow q (ringRow s.X n fa fo la lo y.1.1 (Y.data.toList.take y.1.2))) w.heap.size 9 (.string Y) := (setRow_other W q _ _ (by omega)).trans HBY.out
      have bv2 : Boxed (W.setRow q (ringRow s.X n fa fo la lo y.1.1 (Y.data.toList.take y.1.2))) (w.heap.size + 1) 73 v := (setRow_other W q _ _ (by omega)).trans bv
      have ho2 : (W.setRow q (ringRow s.X n fa fo la lo y.1.1 (Y.data.toList.take y.1.2))).ownsRow w.heap.size 3 1 v s.st.length (ints8 s.st) :=
        ownsRow_keep hown fun g hg => setRow_other W q g _ (fun e => by subst e; exact ownsRow_far hown HM.out.ring.blk (by decide) hg.symm)
      have hlen3 : s.st.length ≤ 100 := HLEN.out
      simp only [hm] at hcp
      generalize W.setRow q (ringRow s.X n fa fo la lo y.1.1 (Y.data.toList.take y.1.2)) = W2 at *
      have HM2 := Lib.hid hm; have HSZ := Lib.hid hsz
      have HR2 := Lib.hid hR2; have HT2 := Lib.hid hT2; have HC2 := Lib.hid hC2; have BY2 := Lib.hid bY2; have BV2 := Lib.hid bv2; have HO2 := Lib.hid ho2
      clear hm hsz hR2 hT2 hC2 bY2 bv2 ho2 bv hown
      obtain ⟨i0, hi, hz0, hz1, hz2⟩ := info_parts Tryd.infoInt8
      have HI := Lib.hid hi; have HZ0 := Lib.hid hz0; have HZ1 := Lib.hid hz1; have HZ2 := Lib.hid hz2
      clear hi hz0 hz1 hz2
      gi_wp2
      clear hcp y1
      have hsW2 : w.heap.size + 2 ≤ W2.heap.size := by have := BV2.out.lt; omega
      have c1 : W2.drew.cell? ⟨w.heap.size, 0, none⟩ = some (.string Y) := BY2.out.cell
      have c2 : W2.drew.cell? ⟨w.heap.size + 1, 0, none⟩ = some v := BV2.out.cell
      have hmI : (m : Int) ≤ (Y.size : Int) := by omega
      refine wpIn_round_stage 7 (S := fun w' => w'.cell? ⟨w.heap.size, 0, none⟩ = some (.string Y) ∧ w'.cell? ⟨w.heap.size + 1, 0, none⟩ = some v) (by kernel_rfl) (by kernel_rfl) ⟨c1, c2⟩ (fun hHeld => ?_)
      refine takeZ 0 [0] (.string Y) (some 27) rfl (by kernel_rfl) (by kernel_rfl) (by kernel_rfl) (by kernel_rfl) (fun _ _ _ h => h) (fun oi h => by obtain rfl := Option.some.inj h; rfl) (fun oi h W hS => by obtain rfl := Option.some.inj h; obtain ⟨q1, q2⟩ := hS; go_simp) hHeld ?_
      simp only [Act.put, List.setIfInBounds_toArray, List.set_cons_zero, List.set_cons_succ]
      refine takeZ 1 [1] (.int .i64 (m : Int)) (some 28) rfl (by kernel_rfl) (by kernel_rfl) (by kernel_rfl) (by kernel_rfl) (fun _ _ _ h => h) (fun oi h => by obtain rfl := Option.some.inj h; rfl) (fun oi h W hS => by obtain rfl := Option.some.inj h; obtain ⟨q1, q2⟩ := hS; go_simp) hHeld ?_
      simp only [Act.put, List.setIfInBounds_toArray, List.set_cons_zero, List.set_cons_succ]
      refine takeZ 2 [2] (.string (Y.extract m Y.size)) (some 29) rfl (by kernel_rfl) (by kernel_rfl) (by kernel_rfl) (by kernel_rfl) (fun _ _ _ h => h) (fun oi h => by obtain rfl := Option.some.inj h; rfl) (fun oi h W hS => by obtain rfl := Option.some.inj h; obtain ⟨q1, q2⟩ := hS; go_simp) hHeld ?_
      simp only [Act.put, List.setIfInBounds_toArray, List.set_cons_zero, List.set_cons_succ]
      refine takeZ 3 [6, 3] (v) (some 30) rfl (by kernel_rfl) (by kernel_rfl) (by kernel_rfl) (by kernel_rfl) (fun _ _ _ h => h) (fun oi h => by obtain rfl := Option.some.inj h; rfl) (fun oi h W hS => by obtain rfl := Option.some.inj h; obtain ⟨q1, q2⟩ := hS; go_simp) hHeld ?_
      simp only [Act.put, List.setIfInBounds_toArray, List.set_cons_zero, List.set_cons_succ]
      refine takeZ 4 [6, 5, 4] (.int .i64 (m : Int)) (some 31) rfl (by kernel_rfl) (by kernel_rfl) (by kernel_rfl) (by kernel_rfl) (fun _ _ _ h => h) (fun oi h => by obtain rfl := Option.some.inj h; rfl) (fun oi h W hS => by obtain rfl := Option.some.inj h; obtain ⟨q1, q2⟩ := hS; go_simp) hHeld ?_
      simp only [Act.put, List.setIfInBounds_toArray, List.set_cons_zero, List.set_cons_succ]
      refine wpAnyZ_ready (rs := [5]) (by kernel_rfl) (by simp) ?_
      refine ReadyZ.cons (i := 5) rfl (by decide) (fun K hK => ?_) ReadyZ.nil
      go_simp
      have bYa : Boxed (W2.drew.alloc (.cells #[.int .i64 (m : Int)] 3)) w.heap.size 9 (.string Y) := Boxed.alloc BY2.out _
      have bva : Boxed (W2.drew.alloc (.cells #[.int .i64 (m : Int)] 3)) (w.heap.size + 1) 73 v := Boxed.alloc BV2.out _
      refine hK.out _ _ ⟨bYa.cell, bva.cell⟩ (fun hHeld => ?_)
      clear hK K
      try simp only [Act.put, List.setIfInBounds_toArray, List.set_cons_zero, List.set_cons_succ]
      refine wpAnyZ_ready (rs := [6]) (by kernel_rfl) (by simp) ?_
      refine ReadyZ.cons (i := 6) rfl (by decide) (fun K hK => ?_) ReadyZ.nil
      have hob : (W2.drew.alloc (.cells #[.int .i64 (m : Int)] 3)).ownsRow w.heap.size 3 1 v s.st.length (ints8 s.st) := ownsRow_keep HO2.out fun g hg => Below.heap_alloc W2.drew _ g ((HO2.out.lt g hg).2)
      refine step_append_lies _ (by rfl) _ _ _ (by rfl) w.heap.size 3 i0 _ 1 8 Tryd.underlying73 HI.out HZ0.out HZ1.out HZ2.out rfl (by omega) v s.st.length (ints8 s.st) (by rfl) hob ⟨W2.heap.size, 0, none⟩ 1 1 [.int .i64 (m : Int)] (by rfl) (by rfl) (World.news_of_block (cs := #[.int .i64 (m : Int)]) (t := 3) (fr := (0, 0)) (heap_alloc_new W2 _)) (by simp [Value.oneCell']) (by omega) (by unfold maxLen; omega) (by omega) (by simp; omega) (W2.heap.size + 1) (by simp) ?_
      intro gg cap w3 hown3 hgrow hat hlt3
      have bY3 : Boxed w3 w.heap.size 9 (.string Y) := bYa.kept hgrow (ownsRow_far hob bYa (by decide))
      have bv3 : Boxed w3 (w.heap.size + 1) 73 v := bva.kept hgrow (ownsRow_far hob bva (by decide))
      have hRa : RAt (W2.drew.alloc (.cells #[.int .i64 (m : Int)] 3)) q (splice s.X y.1.1 (Y.data.toList.take y.1.2)) n fa fo la lo := HR2.out.drew.alloc _
      have HR3 := Lib.hid (hRa.keep (hgrow.block q hRa.lt (ownsRow_far hob hRa.blk (by decide))))
      have HC3 := Lib.hid (((HC2.out.trans (Ch.drew W2)).trans (Ch.alloc _ _)).trans (Ch.grown hob (by decide) (by decide) hgrow))
      have HT3 := Lib.hid (((HT2.out.drewR).alloc _).grown hob (Nat.le_refl _) hgrow)
      refine hK.out _ _ ⟨bY3.cell, bv3.cell⟩ (fun hHeld => ?_)
      clear hK K
      change wpAnyZ _ _ _ _ _ _ _ _ (Act.put _ (some 33) _) _
      simp only [Act.put, List.setIfInBounds_toArray, List.set_cons_zero, List.set_cons_succ]
      have f3 := bY3.frozen
      have y3 := bY3.cell
      have HBY3 := Lib.hid bY3; have HBV3 := Lib.hid bv3; have HOWN3 := Lib.hid hown3
      clear hob hown3 hgrow hat hlt3 hRa bYa bva bY3 bv3
      refine wpAnyZ_ready (rs := [7]) (by kernel_rfl) (by simp) ?_
      refine ReadyZ.last rfl (fun K hK => ?_)
      go_simp
      refine hK.out _ _ ?_
      clear hK K f3 y3
      try simp only [Act.put, List.setIfInBounds_toArray, List.set_cons_zero, List.set_cons_succ]
      have bY4 := HBY3.out.set (.string (Y.extract m Y.size))
      have bv4 : Boxed (w3.setCell ⟨w.heap.size, 0, none⟩ (.string (Y.extract m Y.size))) (w.heap.size + 1) 73 v := HBV3.out.other (by omega) _
      have f4 := bv4.frozen
      have y4 := bv4.cell
      have HBY4 := Lib.hid bY4; have HBV4 := Lib.hid bv4
      clear bY4 bv4
      refine wpAny_ready (rs := [8]) (by kernel_rfl) (by simp) ?_
      refine AllReady.cons (i := 8) rfl (fun K hK => ?_) AllReady.nil
      go_simp
      refine hK _ _ ?_
      clear hK K f4 y4
      refine wpAny_done (by kernel_rfl) ?_ _
      have hb5 : w.heap.size ≠ w.heap.size + 1 := by omega
      have hR5 := (HR3.out.setO (b := w.heap.size) (o := 0) (.string (Y.extract m Y.size)) (by omega)).setO (b := w.heap.size + 1) (o := 0) (.slice (some ⟨gg, 0, none⟩) (s.st.length + 1) cap) (by omega)
      have hC5 := (HC3.out.trans (Ch.set (o := 0) HBY3.out (by decide) (by decide) (.string (Y.extract m Y.size)))).trans (Ch.set (o := 0) HBV4.out (by decide) (by decide) (.slice (some ⟨gg, 0, none⟩) (s.st.length + 1) cap))
      have hlenY : s.r.length = Y.size := by rw [← HY.out, ← Lib.size_eq]
      have hput : putP s y.1 = ⟨splice s.X y.1.1 (Y.data.toList.take y.1.2), Y.data.toList.drop y.1.2, s.st ++ [m]⟩ := by
        unfold putP
        rw [hlenY, HM2.out, ← HY.out]
      refine ⟨hC5.from _, hC5.kp HM.out.ring hR5, ?_⟩
      show PutM w _ q n fa fo la lo (((pre ++ [y]).map Subtype.val).foldl putP ⟨X, S.data.toList, []⟩)
      rw [HSN.out, hput]
      refine ⟨hR5, ⟨Y.extract m Y.size, ?_, (HBY4.out.other hb5 _)⟩, ⟨_, HBV4.out.set _, ?_⟩, (HT3.out.setHi (Nat.le_refl _) 0 _).setHi (by omega) 0 _⟩
      · rw [drop_extract]
        show Y.data.toList.drop m = Y.data.toList.drop y.1.2
        by_cases c : y.1.2 ≤ Y.size
        · rw [show m = y.1.2 by have := HM2.out; omega]
        · rw [List.drop_eq_nil_of_le (by rw [← Lib.size_eq]; have := HM2.out; omega), List.drop_eq_nil_of_le (by rw [← Lib.size_eq]; omega)]
      · have ho := HOWN3.out
        rw [show (s.st ++ [m]).length = s.st.length + 1 by simp, show ints8 (s.st ++ [m]) = ints8 s.st ++ [.int .i64 (m : Int)] by simp]
        refine ownsRow_keep ho fun g hg => ?_
        have h1 := ownsRow_far ho HBY3.out (by decide)
        have h2 := ownsRow_far ho HBV3.out (by decide)
        rw [hg] at h1 h2
        exact (Below.heap_setCell _ _ _ _ (fun e => h2 (by rw [e]))).trans (Below.heap_setCell _ _ _ _ (fun e => h1 (by rw [e])))
  case done =>
    rintro D ys W hD hys hM hK
    gi_wp2
    have hlen2 : (ys.map Subtype.val).length ≤ 2 := by
      have h1 : ∀ n a m, (partsA n a m).length ≤ 2 := fun n a m => by unfold partsA; split <;> (try split) <;> simp
      exact Nat.le_trans (by rw [hys]; exact Nat.le_refl _) (h1 n la k)
    obtain ⟨s, hs⟩ : ∃ s, (ys.map Subtype.val).foldl putP ⟨X, S.data.toList, []⟩ = s := ⟨_, rfl⟩
    have hst1 : s.st.length ≤ 1000 := by rw [← hs, put_steps]; simp at hlen2 ⊢; omega
    have hst2 : ∀ k ∈ s.st, k ≤ 64 := by
      rw [← hs]
      exact put_small _ _ (fun p hp => by obtain ⟨y, _, rfl⟩ := List.mem_map.1 hp; have := y.2; omega) (by simp)
    rw [hs] at hM
    obtain ⟨Y, hY, bY⟩ := hM.rest
    obtain ⟨v, bv, hown⟩ := hM.st
    obtain ⟨aL, hL⟩ : ∃ x, (onL n s.st (la, lo)).1 = x := ⟨_, rfl⟩
    obtain ⟨oL, hO⟩ : ∃ x, (onL n s.st (la, lo)).2 = x := ⟨_, rfl⟩
    have hOn := on_any (sa := la) (so := lo) hM.ring.drew (by omega) hn (StA.own (w := W.drew) (base := w.heap.size) (k := s.st.length) (ownsRow_keep hown fun _ _ => rfl)) hst2 hst1
    rw [hL, hO] at hOn
    have HM := Lib.hid hM; have HY := Lib.hid hY; have HBY := Lib.hid bY; have HBV := Lib.hid bv; have HS := Lib.hid hs; have HL := Lib.hid hL; have HO := Lib.hid hO; have HST := Lib.hid hst1; have HK := Lib.hid hK; have HON := Lib.hid hOn
    have c1 : W.drew.cell? ⟨w.heap.size + 1, 0, none⟩ = some v := bv.cell
    have c7 := hM.ring.drew.c67
    have c8 := hM.ring.drew.c68
    have HCUR := Lib.hid (show ∃ W', W' = W from ⟨_, rfl⟩)
    clear hM hY bY bv hs hL hO hst1 hst2 hown hK hOn HCUR
    refine wpIn_wide.2 ?_
    refine wp_region_stage 10 (S := fun w' => w'.cell? ⟨w.heap.size + 1, 0, none⟩ = some v ∧ w'.cell? ⟨q, 67, none⟩ = some (.int .i64 (la : Int)) ∧ w'.cell? ⟨q, 68, none⟩ = some (.bool lo)) (by kernel_rfl) ⟨c1, c7, c8⟩ (fun hHeld => ?_)
    refine takeZ 0 [0] (.pointer (some ⟨q, 0, none⟩)) (some 34) rfl (by kernel_rfl) (by kernel_rfl) (by kernel_rfl) (by kernel_rfl) (fun _ _ _ h => h) (fun oi h => by obtain rfl := Option.some.inj h; rfl) (fun oi h W hS => by obtain rfl := Option.some.inj h; obtain ⟨q1, q2, q3⟩ := hS; go_simp) hHeld ?_
    simp only [Act.put, List.setIfInBounds_toArray, List.set_cons_zero, List.set_cons_succ]
    refine takeZ 1 [1] (.pointer (some ⟨q, 0, none⟩)) (some 35) rfl (by kernel_rfl) (by kernel_rfl) (by kernel_rfl) (by kernel_rfl) (fun _ _ _ h => h) (fun oi h => by obtain rfl := Option.some.inj h; rfl) (fun oi h W hS => by obtain rfl := Option.some.inj h; obtain ⟨q1, q2, q3⟩ := hS; go_simp) hHeld ?_
    simp only [Act.put, List.setIfInBounds_toArray, List.set_cons_zero, List.set_cons_succ]
    refine takeZ 2 [2] (.pointer (some ⟨q, 0, none⟩)) (some 36) rfl (by kernel_rfl) (by kernel_rfl) (by kernel_rfl) (by kernel_rfl) (fun _ _ _ h => h) (fun oi h => by obtain rfl := Option.some.inj h; rfl) (fun oi h W hS => by obtain rfl := Option.some.inj h; obtain ⟨q1, q2, q3⟩ := hS; go_simp) hHeld ?_
    simp only [Act.put, List.setIfInBounds_toArray, List.set_cons_zero, List.set_cons_succ]
    refine takeZ 3 [3] (.pointer (some ⟨q, 0, none⟩)) (some 37) rfl (by kernel_rfl) (by kernel_rfl) (by kernel_rfl) (by kernel_rfl) (fun _ _ _ h => h) (fun oi h => by obtain rfl := Option.some.inj h; rfl) (fun oi h W hS => by obtain rfl := Option.some.inj h; obtain ⟨q1, q2, q3⟩ := hS; go_simp) hHeld ?_
    simp only [Act.put, List.setIfInBounds_toArray, List.set_cons_zero, List.set_cons_succ]
    refine takeZ 4 [4] (.pointer (some ⟨q, 67, none⟩)) (some 38) rfl (by kernel_rfl) (by kernel_rfl) (by kernel_rfl) (by kernel_rfl) (fun _ _ _ h => h) (fun oi h => by obtain rfl := Option.some.inj h; rfl) (fun oi h W hS => by obtain rfl := Option.some.inj h; obtain ⟨q1, q2, q3⟩ := hS; go_simp) hHeld ?_
    simp only [Act.put, List.setIfInBounds_toArray, List.set_cons_zero, List.set_cons_succ]
    refine takeZ 5 [5] (endV la lo) (some 39) rfl (by kernel_rfl) (by kernel_rfl) (by kernel_rfl) (by kernel_rfl) (fun _ _ _ h => h) (fun oi h => by obtain rfl := Option.some.inj h; rfl) (fun oi h W hS => by obtain rfl := Option.some.inj h; obtain ⟨q1, q2, q3⟩ := hS; go_simp) hHeld ?_
    simp only [Act.put, List.setIfInBounds_toArray, List.set_cons_zero, List.set_cons_succ]
    refine takeZ 6 [6] (v) (some 40) rfl (by kernel_rfl) (by kernel_rfl) (by kernel_rfl) (by kernel_rfl) (fun _ _ _ h => h) (fun oi h => by obtain rfl := Option.some.inj h; rfl) (fun oi h W hS => by obtain rfl := Option.some.inj h; obtain ⟨q1, q2, q3⟩ := hS; go_simp) hHeld ?_
    simp only [Act.put, List.setIfInBounds_toArray, List.set_cons_zero, List.set_cons_succ]
    refine wpAnyZ_ready (rs := [7]) (by kernel_rfl) (by simp) ?_
    refine ReadyZ.cons (i := 7) rfl (by decide) (fun K hK => ?_) ReadyZ.nil
    go_simp
    refine HON.out.mono ?_
    rintro e w4 ⟨rfl, hB4⟩
    have hB5 : Below W.heap.size W w4 := drew_below' hB4
    have hR4 := HM.out.ring.below' hB5
    refine hK.out _ _ ⟨(hB5.cell (p := ⟨w.heap.size + 1, 0, none⟩) HBV.out.lt).trans HBV.out.cell, hR4.c67, hR4.c68⟩ (fun hHeld => ?_)
    clear hK K
    try simp only [Act.put, List.setIfInBounds_toArray, List.set_cons_zero, List.set_cons_succ]
    refine takeZ 8 [9, 8] (.pointer (some ⟨q, 0, none⟩)) (some 42) rfl (by kernel_rfl) (by kernel_rfl) (by kernel_rfl) (by kernel_rfl) (fun _ _ _ h => h) (fun oi h => by obtain rfl := Option.some.inj h; rfl) (fun oi h W hS => by obtain rfl := Option.some.inj h; obtain ⟨q1, q2, q3⟩ := hS; go_simp) hHeld ?_
    simp only [Act.put, List.setIfInBounds_toArray, List.set_cons_zero, List.set_cons_succ]
    refine takeZ 9 [9] (.pointer (some ⟨q, 67, none⟩)) (some 43) rfl (by kernel_rfl) (by kernel_rfl) (by kernel_rfl) (by kernel_rfl) (fun _ _ _ h => h) (fun oi h => by obtain rfl := Option.some.inj h; rfl) (fun oi h W hS => by obtain rfl := Option.some.inj h; obtain ⟨q1, q2, q3⟩ := hS; go_simp) hHeld ?_
    simp only [Act.put, List.setIfInBounds_toArray, List.set_cons_zero, List.set_cons_succ]
    have d7 := hR4.c67; have d8 := hR4.c68; have f7 := hR4.fr 67; have f8 := hR4.fr 68
    have HB5 := Lib.hid hB5; have HR4 := Lib.hid hR4
    clear hB4 hB5 hR4 c1 c7 c8
    refine wpAnyZ_ready (rs := [10]) (by kernel_rfl) (by simp) ?_
    refine ReadyZ.last rfl (fun K hK => ?_)
    go_simp
    refine hK.out _ _ ?_
    clear hK K d7 d8 f7 f8
    refine wpAny_done (by kernel_rfl) ?_ _
    refine Nrm.intro ?_
    have hR5 := HR4.out.setLast aL oL
    have hc5 : ((w4.setCell ⟨q, 67, none⟩ (.int .i64 (aL : Int))).setCell ⟨q, 68, none⟩ (.bool oL)).cell? ⟨w.heap.size, 0, none⟩ = some (.string Y) :=
      ((World.cell?_setCell_far _ ⟨q, 68, none⟩ ⟨w.heap.size, 0, none⟩ (.bool oL) (show q ≠ w.heap.size by omega)).trans (World.cell?_setCell_far w4 ⟨q, 67, none⟩ ⟨w.heap.size, 0, none⟩ (.int .i64 (aL : Int)) (show q ≠ w.heap.size by omega))).trans ((HB5.out.cell (p := ⟨w.heap.size, 0, none⟩) HBY.out.lt).trans HBY.out.cell)
    have hDlt : D < W.heap.size := (Array.getElem?_eq_some_iff.1 HK.out).1
    have hqD : q ≠ D := fun e => by have := HM.out.ring.blk; rw [e, HK.out] at this; cases this
    have hK5 : ((w4.setCell ⟨q, 67, none⟩ (.int .i64 (aL : Int))).setCell ⟨q, 68, none⟩ (.bool oL)).heap[D]? = some (.deferred (some [])) :=
      ((Below.heap_setCell _ _ _ _ (Ne.symm hqD)).trans (Below.heap_setCell _ _ _ _ (Ne.symm hqD))).trans ((HB5.out.block D hDlt).trans HK.out)
    have hT5 := ((HM.out.tur.below_step HB5.out).set 67 (.int .i64 (aL : Int))).set 68 (.bool oL)
    have hYS : Y.size ≤ S.size := by
      have := put_rest (ys.map Subtype.val) ⟨X, S.data.toList, []⟩
      rw [HS.out, ← HY.out] at this
      rw [Lib.size_eq Y, Lib.size_eq S]
      exact this
    have hYI : (Y.size : Int) ≤ (S.size : Int) := by omega
    generalize (w4.setCell ⟨q, 67, none⟩ (.int .i64 (aL : Int))).setCell ⟨q, 68, none⟩ (.bool oL) = W5 at *
    have HR5 := Lib.hid hR5; have HK5 := Lib.hid hK5; have HT5 := Lib.hid hT5
    clear hR5 hK5 hT5 hYS hDlt
    gi_wp2
    rw [Exit.noGoto_ret]
    refine ⟨by simp, .inl ⟨_, _, rfl, run_takeDeferred (show W5.heap[D]? = _ from HK5.out), ?_⟩⟩
    refine ⟨_, results_tmp2 rfl _ _ _, ys.map Subtype.val, by rw [hys]; exact List.prefix_refl _, .inl hys, ?_⟩
    rw [HS.out, HL.out, HO.out, ← HY.out, ← Lib.size_eq]
    exact ⟨rfl, HR5.out.keep (World.putObj_heap_other hqD), HT5.out.put (by have := HB0w.out; omega)⟩
  case stop =>
    rintro D c pre W hD hpre ⟨rfl, ini, last, e1, hr, hM⟩ hK
    have hpi : ini.map Subtype.val <+: partsA n la k := by
      rw [e1, List.map_append] at hpre
      exact (List.prefix_append _ _).trans hpre
    have HRr := Lib.hid hr
    clear hr e1 hpre
    gi_wp2
    have hlen2 : (ini.map Subtype.val).length ≤ 2 := by
      have h1 : ∀ n a m, (partsA n a m).length ≤ 2 := fun n a m => by unfold partsA; split <;> (try split) <;> simp
      exact Nat.le_trans hpi.length_le (h1 n la k)
    obtain ⟨s, hs⟩ : ∃ s, (ini.map Subtype.val).foldl putP ⟨X, S.data.toList, []⟩ = s := ⟨_, rfl⟩
    have hst1 : s.st.length ≤ 1000 := by rw [← hs, put_steps]; simp at hlen2 ⊢; omega
    have hst2 : ∀ k ∈ s.st, k ≤ 64 := by
      rw [← hs]
      exact put_small _ _ (fun p hp => by obtain ⟨y, _, rfl⟩ := List.mem_map.1 hp; have := y.2; omega) (by simp)
    rw [hs] at hM
    obtain ⟨Y, hY, bY⟩ := hM.rest
    obtain ⟨v, bv, hown⟩ := hM.st
    obtain ⟨aL, hL⟩ : ∃ x, (onL n s.st (la, lo)).1 = x := ⟨_, rfl⟩
    obtain ⟨oL, hO⟩ : ∃ x, (onL n s.st (la, lo)).2 = x := ⟨_, rfl⟩
    have hOn := on_any (sa := la) (so := lo) hM.ring.drew (by omega) hn (StA.own (w := W.drew) (base := w.heap.size) (k := s.st.length) (ownsRow_keep hown fun _ _ => rfl)) hst2 hst1
    rw [hL, hO] at hOn
    have HM := Lib.hid hM; have HY := Lib.hid hY; have HBY := Lib.hid bY; have HBV := Lib.hid bv; have HS := Lib.hid hs; have HL := Lib.hid hL; have HO := Lib.hid hO; have HST := Lib.hid hst1; have HK := Lib.hid hK; have HON := Lib.hid hOn
    have c1 : W.drew.cell? ⟨w.heap.size + 1, 0, none⟩ = some v := bv.cell
    have c7 := hM.ring.drew.c67
    have c8 := hM.ring.drew.c68
    have HCUR := Lib.hid (show ∃ W', W' = W from ⟨_, rfl⟩)
    clear hM hY bY bv hs hL hO hst1 hst2 hown hK hOn HCUR
    refine wpIn_wide.2 ?_
    refine wp_region_stage 10 (S := fun w' => w'.cell? ⟨w.heap.size + 1, 0, none⟩ = some v ∧ w'.cell? ⟨q, 67, none⟩ = some (.int .i64 (la : Int)) ∧ w'.cell? ⟨q, 68, none⟩ = some (.bool lo)) (by kernel_rfl) ⟨c1, c7, c8⟩ (fun hHeld => ?_)
    refine takeZ 0 [0] (.pointer (some ⟨q, 0, none⟩)) (some 34) rfl (by kernel_rfl) (by kernel_rfl) (by kernel_rfl) (by kernel_rfl) (fun _ _ _ h => h) (fun oi h => by obtain rfl := Option.some.inj h; rfl) (fun oi h W hS => by obtain rfl := Option.some.inj h; obtain ⟨q1, q2, q3⟩ := hS; go_simp) hHeld ?_
    simp only [Act.put, List.setIfInBounds_toArray, List.set_cons_zero, List.set_cons_succ]
    refine takeZ 1 [1] (.pointer (some ⟨q, 0, none⟩)) (some 35) rfl (by kernel_rfl) (by kernel_rfl) (by kernel_rfl) (by kernel_rfl) (fun _ _ _ h => h) (fun oi h => by obtain rfl := Option.some.inj h; rfl) (fun oi h W hS => by obtain rfl := Option.some.inj h; obtain ⟨q1, q2, q3⟩ := hS; go_simp) hHeld ?_
    simp only [Act.put, List.setIfInBounds_toArray, List.set_cons_zero, List.set_cons_succ]
    refine takeZ 2 [2] (.pointer (some ⟨q, 0, none⟩)) (some 36) rfl (by kernel_rfl) (by kernel_rfl) (by kernel_rfl) (by kernel_rfl) (fun _ _ _ h => h) (fun oi h => by obtain rfl := Option.some.inj h; rfl) (fun oi h W hS => by obtain rfl := Option.some.inj h; obtain ⟨q1, q2, q3⟩ := hS; go_simp) hHeld ?_
    simp only [Act.put, List.setIfInBounds_toArray, List.set_cons_zero, List.set_cons_succ]
    refine takeZ 3 [3] (.pointer (some ⟨q, 0, none⟩)) (some 37) rfl (by kernel_rfl) (by kernel_rfl) (by kernel_rfl) (by kernel_rfl) (fun _ _ _ h => h) (fun oi h => by obtain rfl := Option.some.inj h; rfl) (fun oi h W hS => by obtain rfl := Option.some.inj h; obtain ⟨q1, q2, q3⟩ := hS; go_simp) hHeld ?_
    simp only [Act.put, List.setIfInBounds_toArray, List.set_cons_zero, List.set_cons_succ]
    refine takeZ 4 [4] (.pointer (some ⟨q, 67, none⟩)) (some 38) rfl (by kernel_rfl) (by kernel_rfl) (by kernel_rfl) (by kernel_rfl) (fun _ _ _ h => h) (fun oi h => by obtain rfl := Option.some.inj h; rfl) (fun oi h W hS => by obtain rfl := Option.some.inj h; obtain ⟨q1, q2, q3⟩ := hS; go_simp) hHeld ?_
    simp only [Act.put, List.setIfInBounds_toArray, List.set_cons_zero, List.set_cons_succ]
    refine takeZ 5 [5] (endV la lo) (some 39) rfl (by kernel_rfl) (by kernel_rfl) (by kernel_rfl) (by kernel_rfl) (fun _ _ _ h => h) (fun oi h => by obtain rfl := Option.some.inj h; rfl) (fun oi h W hS => by obtain rfl := Option.some.inj h; obtain ⟨q1, q2, q3⟩ := hS; go_simp) hHeld ?_
    simp only [Act.put, List.setIfInBounds_toArray, List.set_cons_zero, List.set_cons_succ]
    refine takeZ 6 [6] (v) (some 40) rfl (by kernel_rfl) (by kernel_rfl) (by kernel_rfl) (by kernel_rfl) (fun _ _ _ h => h) (fun oi h => by obtain rfl := Option.some.inj h; rfl) (fun oi h W hS => by obtain rfl := Option.some.inj h; obtain ⟨q1, q2, q3⟩ := hS; go_simp) hHeld ?_
    simp only [Act.put, List.setIfInBounds_toArray, List.set_cons_zero, List.set_cons_succ]
    refine wpAnyZ_ready (rs := [7]) (by kernel_rfl) (by simp) ?_
    refine ReadyZ.cons (i := 7) rfl (by decide) (fun K hK => ?_) ReadyZ.nil
    go_simp
    refine HON.out.mono ?_
    rintro e w4 ⟨rfl, hB4⟩
    have hB5 : Below W.heap.size W w4 := drew_below' hB4
    have hR4 := HM.out.ring.below' hB5
    refine hK.out _ _ ⟨(hB5.cell (p := ⟨w.heap.size + 1, 0, none⟩) HBV.out.lt).trans HBV.out.cell, hR4.c67, hR4.c68⟩ (fun hHeld => ?_)
    clear hK K
    try simp only [Act.put, List.setIfInBounds_toArray, List.set_cons_zero, List.set_cons_succ]
    refine takeZ 8 [9, 8] (.pointer (some ⟨q, 0, none⟩)) (some 42) rfl (by kernel_rfl) (by kernel_rfl) (by kernel_rfl) (by kernel_rfl) (fun _ _ _ h => h) (fun oi h => by obtain rfl := Option.some.inj h; rfl) (fun oi h W hS => by obtain rfl := Option.some.inj h; obtain ⟨q1, q2, q3⟩ := hS; go_simp) hHeld ?_
    simp only [Act.put, List.setIfInBounds_toArray, List.set_cons_zero, List.set_cons_succ]
    refine takeZ 9 [9] (.pointer (some ⟨q, 67, none⟩)) (some 43) rfl (by kernel_rfl) (by kernel_rfl) (by kernel_rfl) (by kernel_rfl) (fun _ _ _ h => h) (fun oi h => by obtain rfl := Option.some.inj h; rfl) (fun oi h W hS => by obtain rfl := Option.some.inj h; obtain ⟨q1, q2, q3⟩ := hS; go_simp) hHeld ?_
    simp only [Act.put, List.setIfInBounds_toArray, List.set_cons_zero, List.set_cons_succ]
    have d7 := hR4.c67; have d8 := hR4.c68; have f7 := hR4.fr 67; have f8 := hR4.fr 68
    have HB5 := Lib.hid hB5; have HR4 := Lib.hid hR4
    clear hB4 hB5 hR4 c1 c7 c8
    refine wpAnyZ_ready (rs := [10]) (by kernel_rfl) (by simp) ?_
    refine ReadyZ.last rfl (fun K hK => ?_)
    go_simp
    refine hK.out _ _ ?_
    clear hK K d7 d8 f7 f8
    refine wpAny_done (by kernel_rfl) ?_ _
    refine Nrm.intro ?_
    have hR5 := HR4.out.setLast aL oL
    have hc5 : ((w4.setCell ⟨q, 67, none⟩ (.int .i64 (aL : Int))).setCell ⟨q, 68, none⟩ (.bool oL)).cell? ⟨w.heap.size, 0, none⟩ = some (.string Y) :=
      ((World.cell?_setCell_far _ ⟨q, 68, none⟩ ⟨w.heap.size, 0, none⟩ (.bool oL) (show q ≠ w.heap.size by omega)).trans (World.cell?_setCell_far w4 ⟨q, 67, none⟩ ⟨w.heap.size, 0, none⟩ (.int .i64 (aL : Int)) (show q ≠ w.heap.size by omega))).trans ((HB5.out.cell (p := ⟨w.heap.size, 0, none⟩) HBY.out.lt).trans HBY.out.cell)
    have hDlt : D < W.heap.size := (Array.getElem?_eq_some_iff.1 HK.out).1
    have hqD : q ≠ D := fun e => by have := HM.out.ring.blk; rw [e, HK.out] at this; cases this
    have hK5 : ((w4.setCell ⟨q, 67, none⟩ (.int .i64 (aL : Int))).setCell ⟨q, 68, none⟩ (.bool oL)).heap[D]? = some (.deferred (some [])) :=
      ((Below.heap_setCell _ _ _ _ (Ne.symm hqD)).trans (Below.heap_setCell _ _ _ _ (Ne.symm hqD))).trans ((HB5.out.block D hDlt).trans HK.out)
    have hT5 := ((HM.out.tur.below_step HB5.out).set 67 (.int .i64 (aL : Int))).set 68 (.bool oL)
    have hYS : Y.size ≤ S.size := by
      have := put_rest (ini.map Subtype.val) ⟨X, S.data.toList, []⟩
      rw [HS.out, ← HY.out] at this
      rw [Lib.size_eq Y, Lib.size_eq S]
      exact this
    have hYI : (Y.size : Int) ≤ (S.size : Int) := by omega
    generalize (w4.setCell ⟨q, 67, none⟩ (.int .i64 (aL : Int))).setCell ⟨q, 68, none⟩ (.bool oL) = W5 at *
    have HR5 := Lib.hid hR5; have HK5 := Lib.hid hK5; have HT5 := Lib.hid hT5
    clear hR5 hK5 hT5 hYS hDlt
    gi_wp2
    rw [Exit.noGoto_ret]
    refine ⟨by simp, .inl ⟨_, _, rfl, run_takeDeferred (show W5.heap[D]? = _ from HK5.out), ?_⟩⟩
    refine ⟨_, results_tmp2 rfl _ _ _, ini.map Subtype.val, hpi, .inr HRr.out, ?_⟩
    rw [HS.out, HL.out, HO.out, ← HY.out, ← Lib.size_eq]
    exact ⟨rfl, HR5.out.keep (World.putObj_heap_other hqD), HT5.out.put (by have := HB0w.out; omega)⟩
end
end Go.Proofs.YtpfldelmbigmbaaDoor
