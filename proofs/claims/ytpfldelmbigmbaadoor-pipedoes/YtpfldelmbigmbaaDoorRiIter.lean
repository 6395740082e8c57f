/- Package ring: the iterator stretches and its closure, walked, for every loop body that keeps ends, pointers to rings and a ring's size. -/
import Derived.Test.YtpfldelmbigmbaaDoorRiLens
import Derived.Test.YtpfldelmbigmbaaDoorRiRange
import Derived.Shelf.RegionOpen
import Derived.BigRegionIn
namespace Go.Proofs.YtpfldelmbigmbaaDoor
open Go.RowKit Go.Shelf

attribute [local go_sem] Oper.semAt_some

structure KpR (q : Nat) (W W' : World) : Prop where
  size : W.heap.size ≤ W'.heap.size
  ends : ∀ (k : Nat) xs, W.heap[k]? = some (Obj.cells xs 68 (0, 0)) → W'.heap[k]? = W.heap[k]?
  ptrs : ∀ (k : Nat) xs, W.heap[k]? = some (Obj.cells xs 49 (0, 0)) → W'.heap[k]? = W.heap[k]?
  ring : ∀ X n fa fo la lo, RAt W q X n fa fo la lo → ∃ X', RAt W' q X' n fa fo la lo
section
variable {q : Nat}
theorem KpR.refl (W : World) : KpR q W W := ⟨Nat.le_refl _, fun _ _ _ => rfl, fun _ _ _ => rfl, fun X _ _ _ _ _ h => ⟨X, h⟩⟩
theorem KpR.trans {A B C : World} (h : KpR q A B) (k : KpR q B C) : KpR q A C :=
  ⟨Nat.le_trans h.size k.size, fun j xs hj => (k.ends j xs ((h.ends j xs hj).trans hj)).trans (h.ends j xs hj), fun j xs hj => (k.ptrs j xs ((h.ptrs j xs hj).trans hj)).trans (h.ptrs j xs hj),
    fun X n fa fo la lo hr => by obtain ⟨X', h'⟩ := h.ring X n fa fo la lo hr; exact k.ring _ _ _ _ _ _ h'⟩
theorem KpR.put (W : World) (l : Nat) (o o' : Obj) (h : W.heap[l]? = some o) (h1 : o.isCells = false) : KpR q W (W.putObj l o') := by
  have hk : ∀ (k : Nat) (xs : Array Value) t, W.heap[k]? = some (Obj.cells xs t (0, 0)) → (W.putObj l o').heap[k]? = W.heap[k]? := fun k xs t hk => World.putObj_heap_other (by rintro rfl; rw [h] at hk; cases hk; cases h1)
  exact ⟨by rw [World.putObj_size]; exact Nat.le_refl _, fun k xs hx => hk k xs _ hx, fun k xs hx => hk k xs _ hx, fun X n fa fo la lo hr => ⟨X, hr.keep (hk _ _ _ hr.blk)⟩⟩
end

/-- a stretch as it is handed on. -/
def prtV (q : Nat) (x : Prt) : Array Value := #[.slice (some ⟨q, x.1.1, none⟩) x.1.2 (64 - x.1.1)]

/-- how far one that has come to a place has to go. -/
def muR (n la : Nat) (lo : Bool) (hp : Value) (w : World) : Nat := match hp with
  | .pointer (some ⟨b, _, _⟩) => (match w.cell? ⟨b, 0, none⟩, w.cell? ⟨b, 1, none⟩ with
    | some (.int _ a), some (.bool o) => (apartI n a.toNat o la lo).toNat
    | _, _ => 0)
  | _ => 0
theorem muR_at {w : World} {b n la a : Nat} {lo o : Bool} (h : BoxA w b 68 #[.int .i64 (a : Int), .bool o]) : muR n la lo (.pointer (some ⟨b, 0, none⟩)) w = (apartI n a o la lo).toNat := by
  unfold muR
  simp only [h.at 0 (v := .int .i64 (a : Int)) rfl, h.at 1 (v := .bool o) rfl]
  rfl

theorem adv_ne {n a j k : Nat} {o : Bool} (hj : j < k) : (((advA n a j : Nat) : Int) == ((advA n a k : Nat) : Int) && advO n a j o == advO n a k o) = false := by
  unfold advA advO
  by_cases c : a + j < n
  · by_cases d : a + k < n
    · rw [if_pos c, if_pos d, if_pos c, if_pos d, show (((a + j : Nat) : Int) == ((a + k : Nat) : Int)) = false by simp; omega]; rfl
    · rw [if_pos c, if_neg d, if_pos c, if_neg d]; simp
  · rw [if_neg c, if_neg (by omega), if_neg c, if_neg (by omega), show (((a + j - n : Nat) : Int) == ((a + k - n : Nat) : Int)) = false by simp; omega]; rfl

theorem apart_from {n a j k : Nat} {o : Bool} (ha : a < n) (hj : j ≤ k) (hk : k ≤ n) : apartI n (advA n a j) (advO n a j o) (advA n a k) (advO n a k o) = ((k - j : Nat) : Int) := by
  have h1 := advA_add (n := n) (a := a) (j := j) (k := k - j) ha (by omega)
  have h2 := advO_add (n := n) (a := a) (j := j) (k := k - j) (o := o) ha (by omega)
  have h3 := apart_adv (n := n) (a := advA n a j) (k := k - j) (o := advO n a j o)
  rw [h1, h2, show j + (k - j) = k by omega] at h3
  exact h3

/-- the next stretch, and those behind it. -/
theorem partsA_next {n a r : Nat} (ha : a < n) (hr : 0 < r) (hn : r ≤ n) : partsA n a r = (a, min r (n - a)) :: partsA n (advA n a (min r (n - a))) (r - min r (n - a)) := by
  unfold partsA
  rw [if_neg (by omega)]
  by_cases c : r ≤ n - a
  · rw [if_pos c, Nat.min_eq_left c, if_pos (by omega)]
  · rw [if_neg c, Nat.min_eq_right (by omega), if_neg (by omega), show advA n a (n - a) = 0 by unfold advA; rw [if_neg (by omega)]; omega, if_pos (by omega)]

section
variable {w : World} {q n fa la : Nat} {fo lo : Bool} {X : List UInt8}

set_option maxHeartbeats 400000 in
theorem stretches_any (r : Value) (a b : Nat) (o p : Bool) (hr : ∃ x, r = .pointer x) (w : World) :
    Calls Tryd.prog 37 #[r, endV a o, endV b p] w fun e w' => e = .returned (.func (.func 45) #[] #[.pointer (some ⟨w.heap.size + 1, 0, none⟩), .pointer (some ⟨w.heap.size + 1 + 1, 0, none⟩), .pointer (some ⟨w.heap.size, 0, none⟩)]) ∧
      w' = ((w.alloc (.cells #[r] 49)).alloc (.cells #[.int .i64 (a : Int), .bool o] 68)).alloc (.cells #[.int .i64 (b : Int), .bool p] 68) := by
  obtain ⟨x, rfl⟩ := hr
  go_enter Tryd.func37, Tryd.ntmps37
  go_wp2
  go_ret
  exact ⟨rfl, rfl⟩

set_option maxRecDepth 100000 in
set_option maxHeartbeats 4000000 in
theorem stretch_in (m : Nat) (hm : 1 ≤ m) (l q Bf Bt Br n a k : Nat) (o : Bool) (hn : n ≤ 64) (ha : a < n) (hk : k ≤ n) (J Jx : List Prt → World → Prop) (W : World) (hJ : ∀ s A A', J s A → MvE 68 W.heap.size A A' → J s A')
    (hY : ∀ pre (x : Prt) W, J pre W → pre.length < 100 → YieldAt Fence.wide (m - 1) Tryd.prog l (prtV q x) W fun e W' =>
      (e = .returned (.bool true) ∧ J (pre ++ [x]) W' ∧ KpR q W W') ∨ (e = .returned (.bool false) ∧ Jx (pre ++ [x]) W'))
    (hR : ∃ X fa fo la lo, RAt W q X n fa fo la lo) (bF : BoxA W Bf 68 #[.int .i64 (a : Int), .bool o]) (bT : BoxA W Bt 68 #[.int .i64 (advA n a k : Int), .bool (advO n a k o)]) (bR : Boxed W Br 49 (.pointer (some ⟨q, 0, none⟩))) (h0 : J [] W) :
    CallsIn Fence.wide m Tryd.prog 45 #[.func (.yield l) #[] #[], .pointer (some ⟨Bf, 0, none⟩), .pointer (some ⟨Bt, 0, none⟩), .pointer (some ⟨Br, 0, none⟩)] W fun e W' => (∃ v, e = .returned v) ∧
      ((∃ ys : List Prt, ys.map Subtype.val = partsA n a k ∧ J ys W') ∨ (∃ pre : List Prt, pre.map Subtype.val <+: partsA n a k ∧ Jx pre W')) := by
  refine callsIn_of_wp Tryd.func45 rfl trivial ?_ rfl
  simp only [Tryd.ntmps45, List.size_toArray, List.length_cons, List.length_nil, Nat.reduceAdd, Nat.reduceSub, Array.replicate_succ, Array.replicate_zero, List.push_toArray, List.append_toArray, List.nil_append, List.cons_append]
  have HJ := Lib.hid hJ
  have hmix : Tryd.prog.follows .mixedOrders = true := by kernel_rfl
  obtain ⟨lA, hlA⟩ : ∃ x, advA n a k = x := ⟨_, rfl⟩
  obtain ⟨lO, hlO⟩ : ∃ x, advO n a k o = x := ⟨_, rfl⟩
  have HLA := Lib.hid hlA; have HLO := Lib.hid hlO
  rw [hlA, hlO] at bT
  clear hlA hlO
  have hea := neq_end
  have f0 := bF.at 0 (v := .int .i64 (a : Int)) rfl; have f1 := bF.at 1 (v := .bool o) rfl
  have hB := (Below.refl W.heap.size W).alloc (Nat.le_refl _) (.cells #[.int .i64 (a : Int), .bool o] 68)
  have HJ0 := Lib.hid (HJ.out _ _ _ h0 (MvE.of_below hB _))
  have HR0 : Hid (∃ X fa fo la lo, RAt (W.alloc (.cells #[.int .i64 (a : Int), .bool o] 68)) q X n fa fo la lo) := by obtain ⟨X, fa, fo, la, lo, h⟩ := hR; exact ⟨X, fa, fo, la, lo, h.alloc _⟩
  have bT0 := Lib.hid (bT.alloc (.cells #[.int .i64 (a : Int), .bool o] 68)); have bR0 := Lib.hid (bR.alloc (.cells #[.int .i64 (a : Int), .bool o] 68))
  have bH0 := Lib.hid (BoxA.new W 68 #[.int .i64 (a : Int), .bool o])
  have HB0 := Lib.hid hB
  have hBt := bT.lt
  have hBr := bR.lt
  have hqW : q < W.heap.size := by obtain ⟨X, fa, fo, la, lo, h⟩ := hR; exact h.lt
  clear h0 hR bT bR bF hB hJ
  gi_wp2
  gi_loopw [5] (fun hp wr => ∃ (j : Nat) (pre : List Prt) (hb : Nat), hp = .pointer (some ⟨hb, 0, none⟩) ∧ BoxA wr hb 68 #[.int .i64 (advA n a j : Int), .bool (advO n a j o)] ∧ j ≤ k ∧ (pre.map Subtype.val ++ partsA n (advA n a j) (k - j) = partsA n a k ∧ pre.length ≤ j) ∧ J pre wr ∧
      (∃ X fa fo la lo, RAt wr q X n fa fo la lo) ∧ BoxA wr Bt 68 #[.int .i64 (lA : Int), .bool lO] ∧ Boxed wr Br 49 (.pointer (some ⟨q, 0, none⟩)) ∧ W.heap.size ≤ wr.heap.size ∧ W.heap.size ≤ hb)
    (fun hp wr => muR n lA lO hp wr)
  case atStart => exact ⟨0, [], W.heap.size, rfl, by
      have e1 : advA n a 0 = a := by unfold advA; rw [if_pos (by omega)]; rfl
      have e2 : advO n a 0 o = o := by unfold advO; rw [if_pos (by omega)]
      rw [e1, e2]; exact bH0.out, Nat.zero_le _, ⟨by
      have e1 : advA n a 0 = a := by unfold advA; rw [if_pos (by omega)]; rfl
      rw [e1]; rfl, Nat.le_refl _⟩, HJ0.out, HR0.out, bT0.out, bR0.out, HB0.out.size, Nat.le_refl _⟩
  case round =>
    obtain ⟨j, pre, hb, rfl, bH, hj, hpre, hJs, ⟨X, fa, fo, la, lo, hR⟩, bT, bR, hsz, hhb⟩ := hrel
    have HP := Lib.hid hpre; have HJs := Lib.hid hJs; have HR := Lib.hid hR; have HBH := Lib.hid bH
    obtain ⟨A, hA⟩ : ∃ x, advA n a j = x := ⟨_, rfl⟩
    obtain ⟨O, hO⟩ : ∃ x, advO n a j o = x := ⟨_, rfl⟩
    have HA := Lib.hid hA; have HO := Lib.hid hO
    have hmu := muR_at (n := n) (la := lA) (lo := lO) bH
    rw [hA, hO] at bH
    have HMU := Lib.hid hmu
    clear hpre hJs hR hA hO hmu
    have h1 := bH.at 0 (v := .int .i64 (A : Int)) rfl; have h2 := bH.at 1 (v := .bool O) rfl
    have t1 := bT.at 0 (v := .int .i64 (lA : Int)) rfl; have t2 := bT.at 1 (v := .bool lO) rfl
    have r1 := bR.cell
    have HH := Lib.hid bH; have HT := Lib.hid bT; have HBR := Lib.hid bR
    clear bH bT bR
    by_cases hlt : j < k
    · have ht : (!((A : Int) == (lA : Int) && O == lO)) = true := by
        have := adv_ne (n := n) (a := a) (o := o) hlt
        rw [HA.out, HO.out, HLA.out, HLO.out] at this
        rw [this]; rfl
      obtain ⟨r, hr⟩ : ∃ r, k - j = r := ⟨_, rfl⟩
      have hap : apartI n A O lA lO = (r : Int) := by
        have := apart_from (o := o) ha hj hk
        rw [HA.out, HO.out, HLA.out, HLO.out, hr] at this
        exact this
      have hA : A < n := by rw [← HA.out]; exact advA_lt ha (by omega)
      have hlA : lA ≤ 64 := by have := advA_lt ha hk; rw [HLA.out] at this; omega
      have HRr := Lib.hid hr
      have hr0 : 0 < r := by omega
      have HAP := Lib.hid hap
      have hA64 : (A : Int) ≤ (n : Int) := by omega
      clear hr hap
      have c64 := HR.out.c64
      gi_wp2
      refine wpIn_wide.2 ?_
      go_region_held3 (fun w' => w'.cell? ⟨Br, 0, none⟩ = some (.pointer (some ⟨q, 0, none⟩)) ∧ w'.cell? ⟨hb, 0, none⟩ = some (.int .i64 (A : Int)) ∧ w'.cell? ⟨hb, 1, none⟩ = some (.bool O) ∧ w'.cell? ⟨Bt, 0, none⟩ = some (.int .i64 (lA : Int)) ∧ w'.cell? ⟨Bt, 1, none⟩ = some (.bool lO) ∧ w'.cell? ⟨q, 64, none⟩ = some (.int .i64 (n : Int))) (first | exact S1 | go_keep)
        ((go_at_call 42; refine (apart_any (so := O) (to := lO) HR.out.drew hn (by omega) hlA).mono ?_; rintro e w1 ⟨rfl, hB1⟩; rw [HAP.out]; have hB2 : Below wr.heap.size wr w1 := drew_below' hB1; have S1 := And.intro ((hB2.cell (p := ⟨Br, 0, none⟩) HBR.out.lt).trans r1) (And.intro ((hB2.cell (p := ⟨hb, 0, none⟩) HH.out.lt).trans h1) (And.intro ((hB2.cell (p := ⟨hb, 1, none⟩) HH.out.lt).trans h2) (And.intro ((hB2.cell (p := ⟨Bt, 0, none⟩) HT.out.lt).trans t1) (And.intro ((hB2.cell (p := ⟨Bt, 1, none⟩) HT.out.lt).trans t2) ((hB2.cell (p := ⟨q, 64, none⟩) HR.out.lt).trans c64))))); have HB2 := Lib.hid hB2; clear hB1 hB2))
      obtain ⟨s, hs⟩ : ∃ s, min r (n - A) = s := ⟨_, rfl⟩
      have hw : IntKind.i64.wrap ((n : Int) - (A : Int)) = (n : Int) - (A : Int) := by rw [IntKind.wrap_i64]; omega
      have hm : (if (n : Int) - (A : Int) < (r : Int) then (n : Int) - (A : Int) else (r : Int)) = (s : Int) := by split <;> omega
      rw [hw, hm]
      have HS := Lib.hid hs
      have hAs : A + s ≤ n := by omega
      have hAs64 : (A, s).1 + (A, s).2 ≤ 64 ∧ 0 < (A, s).2 := by show A + s ≤ 64 ∧ 0 < s; omega
      have hw2 : IntKind.i64.wrap ((A : Int) + (s : Int)) = (A : Int) + (s : Int) := by rw [IntKind.wrap_i64]; omega
      have e3 : ((A : Int) + (s : Int)).toNat - A = s := by omega
      have i1 : (A : Int) + (s : Int) ≤ 64 := by omega
      have i2 : (A : Int) ≤ (A : Int) + (s : Int) := by omega
      clear hw hm hs h1 h2 t1 t2 r1 c64 HAP ht
      obtain ⟨s1, s2, s3, s4, s5, s6⟩ := S1
      have HBH1 := Lib.hid (HH.out.keep (HB2.out.block hb HH.out.lt))
      have HT1 := Lib.hid (HT.out.keep (HB2.out.block Bt HT.out.lt))
      have HBR1 : Hid (Boxed w1 Br 49 (.pointer (some ⟨q, 0, none⟩))) := (HB2.out.block Br HBR.out.lt).trans HBR.out
      have HR1 := Lib.hid (HR.out.below' HB2.out)
      have HJ1 := Lib.hid (HJ.out _ _ _ HJs.out (MvE.of_below HB2.out W.heap.size))
      have hsz1 : W.heap.size ≤ w1.heap.size := Nat.le_trans hsz HB2.out.size
      clear s4 s5
      obtain ⟨fn, tmps, assign, body, hy, hRn⟩ := hY pre ⟨(A, s), hAs64⟩ w1.drew (HJ.out _ _ _ HJ1.out (MvE.drew _ _)) (by have := HP.out.2; omega)
      have hRn2 := hRn.mono (R' := fun e W' => ∃ b, e = .returned (.bool b) ∧ ((b = true ∧ J (pre ++ [⟨(A, s), hAs64⟩]) W' ∧ KpR q w1.drew W') ∨ (b = false ∧ Jx (pre ++ [⟨(A, s), hAs64⟩]) W'))) (by
        rintro e W' (⟨rfl, h1, h2⟩ | ⟨rfl, h1⟩)
        · exact ⟨true, rfl, .inl ⟨rfl, h1, h2⟩⟩
        · exact ⟨false, rfl, .inr ⟨rfl, h1⟩⟩)
      have HRn := Lib.hid hRn2
      unfold prtV at hy
      dsimp only at hy
      clear hRn hRn2 hY
      gi_wp2
      gi_region_with_o ((refine HRn.out.mono ?_; rintro e W3 ⟨b, rfl, hb3⟩; have HB3 := Lib.hid hb3; clear hb3))
      all_goals
        rcases HB3.out with ⟨rfl, hJ3, hk3⟩ | ⟨rfl, hJx3⟩
        · have bH3 := HBH1.out.keep (hk3.ends hb _ HBH1.out.blk)
          have HT3 := Lib.hid (HT1.out.keep (hk3.ends Bt _ HT1.out.blk))
          have HBR3 : Hid (Boxed W3 Br 49 (.pointer (some ⟨q, 0, none⟩))) := (hk3.ptrs Br _ HBR1.out).trans HBR1.out
          obtain ⟨X3, hR3⟩ := hk3.ring _ _ _ _ _ _ HR1.out.drew
          have HR3 := Lib.hid hR3
          have hsz3 : W.heap.size ≤ W3.heap.size := Nat.le_trans hsz1 hk3.size
          have HJ3 := Lib.hid hJ3
          have h1 := bH3.at 0 (v := .int .i64 (A : Int)) rfl; have h2 := bH3.at 1 (v := .bool O) rfl
          have g1 := bH3.f 0; have g2 := bH3.f 1
          have r1 := HBR3.out.cell
          have HH3 := Lib.hid bH3
          clear hJ3 hk3 hR3 bH3 HB3 HRn hy
          have hon : onL n [s] (A, O) = (advA n a (j + s), advO n a (j + s) o) := by
            show on1 n (A, O) s = _
            have := on1_adv (n := n) (a := a) (t := j) (k := s) (o := o) ha (by have := HRr.out; have := HS.out; omega) (by rw [HA.out]; exact hAs)
            rw [HA.out, HO.out] at this
            exact this
          obtain ⟨A2, hA2⟩ : ∃ x, advA n a (j + s) = x := ⟨_, rfl⟩
          obtain ⟨O2, hO2⟩ : ∃ x, advO n a (j + s) o = x := ⟨_, rfl⟩
          rw [hA2, hO2] at hon
          have HON := Lib.hid hon; have HA2 := Lib.hid hA2; have HO2 := Lib.hid hO2
          clear hon hA2 hO2
          gi_wp2_with (refine ⟨trivial, ?_⟩; gi_at_call 38; refine (callsIn_wide.2 (on_any (sa := A) (so := O) (HR3.out.alloc (.cells #[.int .i64 (s : Int)] 3)) (by omega) hn (StA.one s 1) (by simp; omega) (by simp))).mono ?_; rintro e W4 ⟨rfl, hB4⟩; rw [HON.out]; have hB5 : Below W3.heap.size W3 W4 := ((Below.refl _ W3).alloc (Nat.le_refl _) _).trans (hB4.mono (by simp)); have HB5 := Lib.hid hB5; have bH4 := HH3.out.keep (hB5.block hb HH3.out.lt); have k1 := bH4.at 0 (v := .int .i64 (A : Int)) rfl; have k2 := bH4.at 1 (v := .bool O) rfl; have k3 := bH4.f 0; have k4 := bH4.f 1; have HH4 := Lib.hid bH4; clear hB4 hB5 bH4 h1 h2 g1 g2)
          have hs5 : W3.heap.size ≤ W4.heap.size := HB5.out.size
          have hsz5 : ((W4.setCell ⟨hb, 0, none⟩ (.int .i64 (A2 : Int))).setCell ⟨hb, 1, none⟩ (.bool O2)).heap.size = W4.heap.size := by simp
          have bN := BoxA.new ((W4.setCell ⟨hb, 0, none⟩ (.int .i64 (A2 : Int))).setCell ⟨hb, 1, none⟩ (.bool O2)) 68 #[.int .i64 (A2 : Int), .bool O2]
          rw [hsz5] at bN
          have mv : MvE 68 W.heap.size W3 (((W4.setCell ⟨hb, 0, none⟩ (.int .i64 (A2 : Int))).setCell ⟨hb, 1, none⟩ (.bool O2)).alloc (.cells #[.int .i64 (A2 : Int), .bool O2] 68)) :=
            (((MvE.of_below HB5.out _).trans (MvE.set hhb HH4.out.blk _)).trans (MvE.set hhb (HH4.out.set 0 (.int .i64 (A2 : Int))).blk _)).trans (MvE.alloc _ _ _)
          have hmu2 := muR_at (n := n) (la := lA) (lo := lO) bN
          have hj2 : j + s ≤ k := by have := HRr.out; have := HS.out; omega
          have hs0 : 0 < s := by have := HS.out; omega
          refine ⟨⟨j + s, pre ++ [⟨(A, s), hAs64⟩], W4.heap.size, rfl, by rw [HA2.out, HO2.out]; exact bN, hj2, ⟨?_, by rw [List.length_append, List.length_singleton]; have := HP.out.2; omega⟩, HJ.out _ _ _ HJ3.out mv,
            ⟨X3, fa, fo, la, lo, HR3.out.keep (mv.low q hqW HR3.out.lt)⟩, HT3.out.keep (mv.low Bt hBt HT3.out.lt), (mv.low Br hBr HBR3.out.lt).trans HBR3.out, by simp; omega, by omega⟩, ?_⟩
          · have h1 := HP.out.1
            rw [HA.out, HRr.out, partsA_next hA hr0 (by have := HRr.out; omega), HS.out] at h1
            have h2 := advA_add (n := n) (a := a) (j := j) (k := s) ha (by omega)
            rw [HA.out] at h2
            rw [← h1, List.map_append, List.append_assoc, List.map_singleton, List.singleton_append, h2, show k - (j + s) = r - s by have := HRr.out; omega]
          · rw [hmu2, HMU.out, ← HA2.out, ← HO2.out, ← HLA.out, ← HLO.out, apart_from ha hj2 hk, apart_from ha hj hk]
            omega
        · gi_wp2
          refine bodyPost_ret (results_none rfl _ _ _) rfl ?_
          refine ⟨⟨_, rfl⟩, .inr ⟨_, ?_, hJx3⟩⟩
          have h1 := HP.out.1
          rw [HA.out, HRr.out, partsA_next hA hr0 (by have := HRr.out; omega), HS.out] at h1
          exact ⟨_, by rw [← h1, List.map_append, List.append_assoc, List.map_singleton, List.singleton_append]⟩
    · obtain rfl : j = k := by omega
      obtain rfl : A = lA := HA.out.symm.trans HLA.out
      obtain rfl : O = lO := HO.out.symm.trans HLO.out
      have ht : (!((A : Int) == (A : Int) && O == O)) = false := by simp
      gi_wp2
      go_end0
      refine ⟨⟨_, rfl⟩, .inl ⟨pre, ?_, HJs.out⟩⟩
      have := HP.out.1
      rw [Nat.sub_self] at this
      simpa [partsA] using this

theorem stretch_stops (m : Nat) (hm : 1 ≤ m) (q Bf Bt Br n a k : Nat) (o : Bool) (hn : n ≤ 64) (ha : a < n) (hk : k ≤ n) (w : World) (hR : ∃ X fa fo la lo, RAt w q X n fa fo la lo) (bF : BoxA w Bf 68 #[.int .i64 (a : Int), .bool o])
    (bT : BoxA w Bt 68 #[.int .i64 (advA n a k : Int), .bool (advO n a k o)]) (bR : Boxed w Br 49 (.pointer (some ⟨q, 0, none⟩))) :
    SeqE 68 m Tryd.prog 45 #[.pointer (some ⟨Bf, 0, none⟩), .pointer (some ⟨Bt, 0, none⟩), .pointer (some ⟨Br, 0, none⟩)] (prtV q) (KpR q)
      (fun ys => ys.map Subtype.val = partsA n a k) (fun pre => pre.map Subtype.val <+: partsA n a k) 100 w := fun l J Jx W hb hJ _ hY h0 =>
  stretch_in m hm l q Bf Bt Br n a k o hn ha hk J Jx W hJ hY (by obtain ⟨X, fa, fo, la, lo, h⟩ := hR; exact ⟨X, fa, fo, la, lo, h.below' hb⟩) (bF.below' hb) (bT.below' hb) ((hb.block Br bR.lt).trans bR) h0
end
end Go.Proofs.YtpfldelmbigmbaaDoor
