/- Package cred: Bits, walked. -/
import Derived.Test.YtpankbmlidnoaaaCredPlace
import Derived.Test.YtpankbmlidnoaaaCredDigits
namespace Go.Proofs.Ytpankbmlidnoaaa
open Go.RowKit Go.Shelf

attribute [local go_sem] Oper.semAt_some

theorem put_below {m D : Nat} {w w1 : World} {o : Obj} (h : Below m w w1) (hD : m ≤ D) : Below m w (w1.putObj D o) :=
  ⟨h.os, h.tape, h.output, by rw [World.putObj_size]; exact h.size, fun k hk => (World.putObj_heap_other (by omega)).trans (h.block k hk)⟩

set_option maxRecDepth 100000 in
set_option maxHeartbeats 1000000 in
theorem bits_in (u g a b c d m : Int) (w : World) : CallsIn Fence.wide 6 Try.prog 19 #[.agg #[.int .i64 u, .int .i64 g], .agg #[.int .i64 a, .int .i64 b, .int .i64 c, .int .i64 d, .int .i64 m]] w fun e w' =>
    e = .returned (.int .i64 (bitsN u g a b c d m)) ∧ Below w.heap.size w w' := by
  have bC := (BoxA.new w 23 (cr u g)).alloc (.cells (pm a b c d m) 25)
  have bP := BoxA.new (w.alloc (.cells (cr u g) 23)) 25 (pm a b c d m)
  rw [World.size_alloc] at bP
  have HB0 := Lib.hid (((Below.refl w.heap.size w).alloc (Nat.le_refl _) (.cells (cr u g) 23)).alloc (by simp) (.cells (pm a b c d m) 25))
  refine callsIn_of_wp_marks Try.func19 rfl trivial ?_ rfl
  simp only [Try.ntmps19, List.size_toArray, List.length_cons, List.length_nil, Nat.reduceAdd, Nat.reduceSub, Array.replicate_succ, Array.replicate_zero, List.push_toArray, List.append_toArray, List.nil_append, List.cons_append]
  by_cases hr : rightB u g = true
  · by_cases hp : permB a b c d m = true
    · have HN : Hid (bitsN u g a b c d m = digN (placeN u g a b c d) m) := by unfold Hid bitsN; rw [hr, hp]; rfl
      have hm : modB m = true := by simp only [permB, Bool.and_eq_true] at hp; exact hp.2
      have HM := Lib.hid hm; clear hm
      have HR := Lib.hid hr; have HP := Lib.hid hp; clear hr hp
      have HPL := Lib.hid (place_pos u g a b c d)
      have PL := Lib.hid (place_any u g a b c d m)
      have HD : Hid (∀ x : Nat, x < 4 → (x : Int) + 1 = placeN u g a b c d → atN m x = bitsN u g a b c d m) := fun x hx e => by rw [at_dig HM.out hx, e, HN.out]
      generalize placeN u g a b c d = q at *
      generalize bitsN u g a b c d m = z at *
      clear HN
      gi_wp2
      refine wpIn_scope' ?_
      gi_wp2_with fail
      refine ⟨trivial, callsIn_wide.2 ((right_any u g _).mono ?_)⟩
      rintro e w1 ⟨rfl, hB⟩
      rw [HR.out]
      have bC1 := bC.below' hB; have bP1 := bP.below' hB
      have HB1 := Lib.hid (HB0.out.trans (hB.mono HB0.out.size))
      clear hB bC bP
      have p0 := bP1.at 0 rfl; have p1 := bP1.at 1 rfl; have p2 := bP1.at 2 rfl; have p3 := bP1.at 3 rfl; have p4 := bP1.at 4 rfl
      have BC1 := Lib.hid bC1; have BP1 := Lib.hid bP1; clear bC1 bP1
      gi_wp2_with fail
      refine ⟨trivial, callsIn_wide.2 ((perm_any a b c d m _).mono ?_)⟩
      rintro e w2 ⟨rfl, hB⟩
      rw [HP.out]
      clear p0 p1 p2 p3 p4
      have bC2 := BC1.out.below' hB; have bP2 := BP1.out.below' hB
      have HB2 := Lib.hid (HB1.out.trans (hB.mono HB1.out.size))
      clear hB BC1 BP1
      have p0 := bP2.at 0 rfl; have p1 := bP2.at 1 rfl; have p2 := bP2.at 2 rfl; have p3 := bP2.at 3 rfl; have p4 := bP2.at 4 rfl
      have c0 := bC2.at 0 rfl; have c1 := bC2.at 1 rfl
      have BC2 := Lib.hid bC2; have BP2 := Lib.hid bP2; clear bC2 bP2
      gi_wp2_with fail
      refine ⟨trivial, callsIn_wide.2 ((PL.out _).mono ?_)⟩
      rintro e w3 ⟨rfl, hB⟩
      have bP3 := BP2.out.below' hB
      have HB3 := Lib.hid (HB2.out.trans (hB.mono HB2.out.size))
      clear p0 p1 p2 p3 p4 c0 c1 hB BC2 BP2
      have hlt := bP3.lt
      have p4 := bP3.at 4 rfl
      have BP3 := Lib.hid bP3; clear bP3
      gi_wp2
      have bB := (BoxA.new w3 3 #[.int .i64 0]).alloc (.cells #[.int .i64 q] 3)
      have bQ := BoxA.new (w3.alloc (.cells #[.int .i64 0] 3)) 3 #[.int .i64 q]
      rw [World.size_alloc] at bQ
      have bP4 := (BP3.out.alloc (.cells #[.int .i64 0] 3)).alloc (.cells #[.int .i64 q] 3)
      have hs4 : ((w3.alloc (.cells #[.int .i64 0] 3)).alloc (.cells #[.int .i64 q] 3)).heap.size = w3.heap.size + 1 + 1 := by simp
      have HB4 := Lib.hid ((HB3.out.alloc (by omega) (.cells #[.int .i64 0] 3)).alloc (by simp; omega) (.cells #[.int .i64 q] 3))
      generalize (w3.alloc (.cells #[.int .i64 0] 3)).alloc (.cells #[.int .i64 q] 3) = W4 at *
      clear p4
      have p4 := bP4.at 4 rfl
      have BB := Lib.hid bB; have BQ := Lib.hid bQ; clear bB bQ bP4 BP3
      refine wpIn_label ?_
      gi_wp2_with fail
      refine ⟨trivial, (digits_in _ m _).mono ?_⟩
      rintro e w5 ⟨rfl, rfl⟩
      have bB := BB.out.alloc (.cells #[.int .i64 m] 3)
      have bQ := BQ.out.alloc (.cells #[.int .i64 m] 3)
      have bM := BoxA.new W4 3 #[.int .i64 m]
      have hs5 : (W4.alloc (.cells #[.int .i64 m] 3)).heap.size = w3.heap.size + 1 + 1 + 1 := by simp [hs4]
      have hB5 := HB4.out.alloc (by omega) (.cells #[.int .i64 m] 3)
      rw [hs4] at bM ⊢
      clear p4 BB BQ HB4
      generalize W4.alloc (.cells #[.int .i64 m] 3) = W5 at *
      clear hs4
      gi_wp2
      refine wpIn_rangeFunc_ownG (F := Fence.wide) (n := 6) rfl (by omega) (gf := 30) (lb := #[.pointer (some ⟨w3.heap.size + 1 + 1, 0, none⟩)]) rfl trivial (enters_of Try.func30 (by kernel_rfl) rfl)
        (digits_stops 5 (by omega) (w3.heap.size + 1 + 1) m HM.out W5 (bM.at 0 rfl)) KpD.trans (KpD.put (by omega)) (Below.refl _ _) (fun _ => rfl)
        (fun pre W => ((∀ x ∈ pre, (x : Int) + 1 ≠ q) ∧ BoxA W w3.heap.size 3 #[.int .i64 0] ∧ BoxA W (w3.heap.size + 1) 3 #[.int .i64 q]) ∧ Below w.heap.size w W)
        (fun c _ W => (c = .exit 0 ∧ BoxA W w3.heap.size 3 #[.int .i64 z]) ∧ Below w.heap.size w W)
        (OwnFrom.and (Own.from (fun s X Y row hs hg hr => ⟨hs.1, hs.2.1.kept hg hr, hs.2.2.kept hg hr⟩) _) (ownFrom_below (Nat.le_refl _) (by omega)))
        (fun c => OwnFrom.and (Own.from (fun s X Y row hs hg hr => ⟨hs.1, hs.2.kept hg hr⟩) _) (ownFrom_below (Nat.le_refl _) (by omega)))
        ⟨⟨by simp, bB, bQ⟩, hB5⟩
        (fun x => { tmps := #[.agg #[.int .i64 u, .int .i64 g], .agg #[.int .i64 a, .int .i64 b, .int .i64 c, .int .i64 d, .int .i64 m], .pointer (some ⟨w.heap.size, 0, none⟩), .pointer (some ⟨w.heap.size + 1, 0, none⟩), .int .i64 0, .pointer (some ⟨w3.heap.size, 0, none⟩), .pointer (some ⟨w3.heap.size + 1, 0, none⟩), .int .i64 (x + 1), .int .i64 (atN m x), .agg #[.int .i64 u, .int .i64 g], .bool true, .bool false, .bool false, .agg #[.int .i64 a, .int .i64 b, .int .i64 c, .int .i64 d, .int .i64 m], .bool true, .bool false, .bool false, .agg #[.int .i64 u, .int .i64 g], .agg #[.int .i64 a, .int .i64 b, .int .i64 c, .int .i64 d, .int .i64 m], .int .i64 q, .pointer (some ⟨w.heap.size + 1, 4, none⟩), .int .i64 m, .func (.func 30) #[] #[.pointer (some ⟨w3.heap.size + 1 + 1, 0, none⟩)], .int .i64 (x + 1), .int .i64 (atN m x), undef, undef, undef, undef, undef], defers := [] })
        ?assign ?body ?done ?stop
      case assign =>
        intro l x W K hK
        unfold digVals
        gi_wp2
        simpa using hK
      case body =>
        rintro l pre x W ⟨⟨hx, bB1, bQ1⟩, hB1⟩ _
        have HX := Lib.hid hx
        have q0 := bQ1.at 0 rfl
        have f0 := bB1.f 0
        have b0 := bB1.at 0 rfl
        have BB := Lib.hid bB1; have BQ := Lib.hid bQ1; have HB1 := Lib.hid hB1
        clear hx bB1 bQ1 hB1
        by_cases hq : (x : Int) + 1 = q
        · have hb : ((x : Int) + 1 == q) = true := by simpa using hq
          have hz : atN m x = z := HD.out x (by have := HPL.out; omega) hq
          have HZ := Lib.hid hz; clear hz hq
          gi_wp2
          refine ⟨(KeepsOthers.setCell _ _ _).from _, ⟨rfl, ?_⟩, HB1.out.setCell (p := ⟨w3.heap.size, 0, none⟩) (by simp; omega) _⟩
          rw [HZ.out]
          exact BB.out.set 0 _
        · have hb : ((x : Int) + 1 == q) = false := by simpa using hq
          have HQ := Lib.hid hq; clear hq
          gi_wp2
          exact ⟨KeepsFrom.refl _ _, KpD.refl _ _, ⟨fun y hy => (List.mem_append.1 hy).elim (HX.out y) (fun e => by simp at e; subst e; exact HQ.out), BB.out, BQ.out⟩, HB1.out⟩
      case done =>
        rintro D zs W hD rfl ⟨⟨hx, bB1, bQ1⟩, hB1⟩ hK
        exfalso
        have h0 := hx 0 (by simp); have h1 := hx 1 (by simp); have h2 := hx 2 (by simp); have h3 := hx 3 (by simp)
        have := HPL.out
        simp at h0 h1 h2 h3
        omega
      case stop =>
        rintro D c pre W hD _ ⟨⟨rfl, bB1⟩, hB1⟩ hK
        have b0 := bB1.at 0 rfl
        have BB := Lib.hid bB1
        clear bB1
        gi_wp2
        rw [Exit.noGoto_ret]
        refine ⟨by simp, .inl ⟨_, _, rfl, run_takeDeferred hK, ?_⟩⟩
        refine ⟨.int .i64 z, by simp [results, Try.results19, go_sem], rfl, ?_⟩
        exact put_below hB1 (by omega)
    · have HN : Hid (bitsN u g a b c d m = 0) := by unfold Hid bitsN; rw [Bool.eq_false_iff.2 hp]; simp
      have HR := Lib.hid hr; have HP := Lib.hid (Bool.eq_false_iff.2 hp); clear hr hp
      gi_wp2
      refine wpIn_scope' ?_
      gi_wp2_with fail
      refine ⟨trivial, callsIn_wide.2 ((right_any u g _).mono ?_)⟩
      rintro e w1 ⟨rfl, hB⟩
      rw [HR.out]
      have bP1 := bP.below' hB
      have HB1 := Lib.hid (HB0.out.trans (hB.mono HB0.out.size))
      clear hB bC bP
      have p0 := bP1.at 0 rfl; have p1 := bP1.at 1 rfl; have p2 := bP1.at 2 rfl; have p3 := bP1.at 3 rfl; have p4 := bP1.at 4 rfl
      clear bP1
      gi_wp2_with fail
      refine ⟨trivial, callsIn_wide.2 ((perm_any a b c d m _).mono ?_)⟩
      rintro e w2 ⟨rfl, hB⟩
      rw [HP.out]
      have HB2 := Lib.hid (HB1.out.trans (hB.mono HB1.out.size))
      clear hB
      gi_wp2
      rw [Exit.noGoto_ret]
      exact ⟨.int .i64 0, by simp [results, Try.results19, go_sem], ret_i HN.out.symm, HB2.out⟩
  · have HN : Hid (bitsN u g a b c d m = 0) := by unfold Hid bitsN; rw [Bool.eq_false_iff.2 hr]; simp
    have HR := Lib.hid (Bool.eq_false_iff.2 hr); clear hr
    gi_wp2
    refine wpIn_scope' ?_
    gi_wp2_with fail
    refine ⟨trivial, callsIn_wide.2 ((right_any u g _).mono ?_)⟩
    rintro e w1 ⟨rfl, hB⟩
    rw [HR.out]
    have HB1 := Lib.hid (HB0.out.trans (hB.mono HB0.out.size))
    clear hB bC bP
    gi_wp2
    refine ⟨trivial, ?_⟩
    gi_wp2
    rw [Exit.noGoto_ret]
    exact ⟨.int .i64 0, by simp [results, Try.results19, go_sem], ret_i HN.out.symm, HB1.out⟩

theorem bits_any (u g a b c d m : Int) (w : World) : Calls Try.prog 19 #[.agg #[.int .i64 u, .int .i64 g], .agg #[.int .i64 a, .int .i64 b, .int .i64 c, .int .i64 d, .int .i64 m]] w fun e w' =>
    e = .returned (.int .i64 (bitsN u g a b c d m)) ∧ Below w.heap.size w w' := callsIn_wide.1 (bits_in u g a b c d m w)

end Go.Proofs.Ytpankbmlidnoaaa
