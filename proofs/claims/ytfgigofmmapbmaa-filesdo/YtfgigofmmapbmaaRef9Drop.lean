/- The document's own descriptors of layer 9: Drop, walked. -/
import Derived.Test.YtfgigofmmapbmaaRef9Fork
namespace Go.Proofs.Ytfgigofmmapbmaa
open Go.RowKit Go.Lib

/-! ### what was opened, in a row -/
def flatO : List (Int × Int) → List Value
  | [] => []
  | x :: A => .int .i64 x.1 :: .int .i64 x.2 :: flatO A
theorem flatO_append : ∀ (A B : List (Int × Int)), flatO (A ++ B) = flatO A ++ flatO B
  | [], _ => rfl
  | x :: A, B => by simp [flatO, flatO_append A B]
theorem flatO_len : ∀ A : List (Int × Int), (flatO A).length = A.length * 2
  | [] => rfl
  | x :: A => by simp only [flatO, List.length_cons, flatO_len A]; omega
theorem flatO_at : ∀ (A : List (Int × Int)) (k : Nat) (x : Int × Int), A[k]? = some x → (flatO A)[k * 2]? = some (.int .i64 x.1) ∧ (flatO A)[k * 2 + 1]? = some (.int .i64 x.2)
  | [], k, x, h => by simp at h
  | y :: A, 0, x, h => by simp at h; subst h; simp [flatO]
  | y :: A, k + 1, x, h => by
    simp at h
    have := flatO_at A k x h
    simp only [flatO]
    rw [show (k + 1) * 2 = (k * 2 + 1) + 1 by omega, List.getElem?_cons_succ, List.getElem?_cons_succ, show k * 2 + 1 + 1 + 1 = (k * 2 + 1 + 1) + 1 by omega, List.getElem?_cons_succ, List.getElem?_cons_succ]
    exact this
/-- a row of what was opened, of a call's own. -/
def OsAt (w : World) (base : Nat) (v : Value) (A : List (Int × Int)) : Prop := w.ownsRow base 32 2 v A.length (flatO A)
/-- a list of what was opened, wherever it lies, from lo on. -/
def OsIn (w : World) (lo : Nat) (v : Value) (A : List (Int × Int)) : Prop := ∃ a cap, v = .slice a A.length cap ∧ (0 < A.length → ∃ r o, a = some ⟨r, o, none⟩ ∧ lo ≤ r ∧ r < w.heap.size ∧ ∀ k x, A[k]? = some x → w.cell? ⟨r, o + k * 2, none⟩ = some (.int .i64 x.1) ∧ w.cell? ⟨r, o + k * 2 + 1, none⟩ = some (.int .i64 x.2))
section
variable {w w' : World} {base lo : Nat} {v : Value} {A : List (Int × Int)}
theorem OsAt.nil (w : World) (base : Nat) : OsAt w base (.slice none 0 0) [] := World.ownsRow_nil _ _ _ _
theorem OsAt.lt (h : OsAt w base v A) : ∀ k, v.ownBlock = some k → base ≤ k ∧ k < w.heap.size := World.ownsRow.lt h
theorem OsAt.keep (h : OsAt w base v A) (e : ∀ k, v.ownBlock = some k → w'.heap[k]? = w.heap[k]?) : OsAt w' base v A := by
  refine ⟨h.1, ?_⟩
  rcases h.2 with hn | ⟨g, cap, cur, rfl, hb, hgg, rest⟩
  · exact .inl hn
  · exact .inr ⟨g, cap, cur, rfl, hb, (e g rfl).trans hgg, rest⟩
theorem OsAt.below (h : OsAt w base v A) (hb : Below w.heap.size w w') : OsAt w' base v A := h.keep (fun k e => hb.block k (h.lt k e).2)
theorem OsAt.in (h : OsAt w base v A) : OsIn w base v A := by
  rcases h.2 with ⟨rfl, hn⟩ | ⟨g, cap, cur, rfl, hb, hgg, h1, _⟩
  · exact ⟨none, 0, by rw [hn], by omega⟩
  · refine ⟨_, cap, rfl, fun _ => ⟨g, 0, rfl, hb, (Array.getElem?_eq_some_iff.1 hgg).1, fun k x hk => ?_⟩⟩
    have hf := flatO_at A k x hk
    have e1 := World.ownsRow.cells h rfl _ _ hf.1
    have e2 := World.ownsRow.cells h rfl _ _ hf.2
    rw [add_zero9] at e1 e2
    rw [Nat.zero_add]
    exact ⟨e1, e2⟩
theorem OsIn.mono {lo' : Nat} (h : OsIn w lo v A) (hl : lo' ≤ lo) : OsIn w lo' v A := by
  obtain ⟨a, cap, e, hc⟩ := h
  refine ⟨a, cap, e, fun h0 => ?_⟩
  obtain ⟨r, o, e, h1, h2⟩ := hc h0
  exact ⟨r, o, e, Nat.le_trans hl h1, h2⟩
theorem OsIn.below (h : OsIn w lo v A) (hb : Below w.heap.size w w') : OsIn w' lo v A := by
  obtain ⟨a, cap, e, hc⟩ := h
  refine ⟨a, cap, e, fun h0 => ?_⟩
  obtain ⟨r, o, e, h1, h2, h3⟩ := hc h0
  exact ⟨r, o, e, h1, Nat.lt_of_lt_of_le h2 hb.size, fun k x hk => ⟨(hb.cell h2).trans (h3 k x hk).1, (hb.cell h2).trans (h3 k x hk).2⟩⟩
/-- a row of another type is another block. -/
theorem OsAt.apart {b base' : Nat} {u : Value} {L : List FV} (h : OsAt w base v A) (hf : FsAt w base' u L) (e : v.ownBlock = some b) : u.ownBlock ≠ some b := by
  intro e'
  rcases h.2 with ⟨rfl, _⟩ | ⟨g, cap, cur, rfl, _, hgg, _⟩
  · cases e
  · rcases hf.2 with ⟨rfl, _⟩ | ⟨g', cap', cur', rfl, _, hgg', _⟩
    · cases e'
    · simp [Value.ownBlock] at e e'
      subst e; subst e'
      rw [hgg] at hgg'
      cases hgg'
end

theorem Try.infoOpened : (Try.prog.info? 32).map (fun i => (i.zero, i.size, i.bytes)) = some (some (Value.agg #[.int .i64 0, .int .i64 0]), 2, 16) := by kernel_rfl

theorem two_new (w : World) (x y : Int) : ∀ j u, [Value.int .i64 x, .int .i64 y][j]? = some u → (w.alloc (.cells #[.int .i64 x, .int .i64 y] 32)).cell? ((⟨w.heap.size, 0, none⟩ : Addr).add j) = some u := by
  intro j u h
  have := (BoxA.new w 32 #[.int .i64 x, .int .i64 y]).at j (v := u) (by simpa using h)
  rw [add_zero9]
  exact this

/-! ### Close, at one -/
theorem getX_no {L : List FV} {p d : Int} (h : getE L p d ≠ 0) : getX L p d = FV.zero := by unfold getX; rw [if_neg h]
theorem getX_yes {L : List FV} {p d : Int} (h : getE L p d = 0) : getX L p d = fdX L p d := by unfold getX; rw [if_pos h]
theorem rmL_len (L : List FV) (p d : Int) : (rmL L p d).length ≤ L.length := by
  unfold rmL
  split
  · simp; omega
  · exact Nat.le_refl _
theorem clsL_len (L : List FV) (p d : Int) : (clsL L p d).length ≤ L.length := by
  unfold clsL
  split
  · exact rmL_len L p d
  · exact Nat.le_refl _
/-- those that are left, and what was gone, behind the first n. -/
def drL (L : List FV) (p : Int) : Nat → List FV
  | 0 => L
  | n + 1 => clsL (drL L p n) p n
def drO (L : List FV) (p : Int) : Nat → List (Int × Int)
  | 0 => []
  | n + 1 => drO L p n ++ (if clsB (drL L p n) p n then [((getX (drL L p n) p n).kind, (getX (drL L p n) p n).thing)] else [])
theorem drL_len (L : List FV) (p : Int) : ∀ n, (drL L p n).length ≤ L.length
  | 0 => Nat.le_refl _
  | n + 1 => Nat.le_trans (clsL_len _ _ _) (drL_len L p n)
theorem drO_len (L : List FV) (p : Int) : ∀ n, (drO L p n).length ≤ n
  | 0 => Nat.le_refl _
  | n + 1 => by
    have := drO_len L p n
    unfold drO
    rw [List.length_append]
    split <;> simp <;> omega

section
variable {w : World} {base q : Nat} {v : Value} {L : List FV} {g : Int}
theorem close9 (h : R9 w base q v L g) (hn : L.length ≤ 90000) (p d : Int) : Calls Try.prog 25 #[.pointer (some ⟨q, 0, none⟩), .int .i64 p, .int .i64 d] w fun e w' =>
    e = .returned (.tuple #[.agg #[.int .i64 (getX L p d).kind, .int .i64 (getX L p d).thing], .bool (clsB L p d), .int .i64 (getE L p d)]) ∧ ∃ v', R9 w' base q v' (clsL L p d) g ∧ Mv9 q v v' w w' := by
  by_cases hE : getE L p d = 0
  · have hB : clsB L p d = ((refsN (rmL L p d) (fdX L p d).file : Int) == 0) := by
      unfold clsB
      rw [hE]
      generalize refsN (rmL L p d) (fdX L p d).file = k
      cases k <;> simp <;> omega
    rw [getX_yes hE, hB, hE]
    unfold clsL
    rw [if_pos hE]
    exact close9_yes h hn p d hE
  · have hB : clsB L p d = false := by
      unfold clsB
      rw [show (getE L p d == 0) = false by simpa using hE]
      rfl
    rw [getX_no hE, hB]
    unfold clsL
    rw [if_neg hE]
    refine (close9_no h hn p d hE).mono ?_
    rintro e w' ⟨rfl, hb⟩
    exact ⟨rfl, v, h.below hb, Mv9.of_below hb⟩

set_option maxRecDepth 100000 in
set_option maxHeartbeats 4000000 in
theorem drop9 (h : R9 w base q v L g) (hn : L.length ≤ 90000) (p : Int) : Calls Try.prog 28 #[.pointer (some ⟨q, 0, none⟩), .int .i64 p] w fun e w' =>
    ∃ u, e = .returned u ∧ OsAt w' w.heap.size u (drO L p 8) ∧ ∃ v', R9 w' base q v' (drL L p 8) g ∧ Mv9 q v v' w w' := by
  obtain ⟨i0, hi0, hz0, hz1, hz2⟩ := info_parts Try.infoOpened
  have HI0 := Lib.hid hi0; have HZ0 := Lib.hid hz0; have HZ1 := Lib.hid hz1; have HZ2 := Lib.hid hz2
  have HR := Lib.hid h
  have hqlt := h.lt
  clear h hi0 hz0 hz1 hz2
  go_enter Try.func28, Try.ntmps28
  go_wp2
  go_loopw [5, 6] (fun u t wr => ∃ j : Nat, j ≤ 8 ∧ t = .int .i64 j ∧ OsAt wr w.heap.size u (drO L p j) ∧ ∃ v', R9 wr base q v' (drL L p j) g ∧ Mv9 q v v' w wr) (fun _ t _ => 8 - (intOf t).toNat)
  case atStart => exact ⟨0, by omega, rfl, OsAt.nil _ _, v, HR.out, Mv9.refl _⟩
  case round =>
    obtain ⟨j, hj, rfl, hO, v1, hR, hM⟩ := hrel
    by_cases hjl : j < 8
    · have HC := Lib.hid (close9 hR (Nat.le_trans (drL_len L p j) hn) p j)
      have HNL : Hid (drL L p (j + 1) = clsL (drL L p j) p j) := rfl
      have HNO : Hid (drO L p (j + 1) = drO L p j ++ (if clsB (drL L p j) p j then [((getX (drL L p j) p j).kind, (getX (drL L p j) p j).thing)] else [])) := rfl
      have hol := drO_len L p j
      have HO := Lib.hid hO; have HRw := Lib.hid hR; have HM := Lib.hid hM
      have hws := hM.size
      clear hO hR hM
      have hEB : clsB (drL L p j) p j = true → getE (drL L p j) p j = 0 := fun e => by unfold clsB at e; simp at e; exact e.1
      generalize hE : getE (drL L p j) p j = E at *
      generalize hB : clsB (drL L p j) p j = B at *
      generalize hX : getX (drL L p j) p j = X at *
      clear hE hB hX
      obtain ⟨x0, x1, x2, x3, x4⟩ := X
      dsimp only at HC HNO
      have step : ∀ w2 v2, R9 w2 base q v2 (clsL (drL L p j) p j) g → Mv9 q v1 v2 wr w2 → OsAt (w2.alloc (.cells #[.int .i64 x3, .int .i64 x4] 32)) w.heap.size u5 (drO L p j) ∧ R9 (w2.alloc (.cells #[.int .i64 x3, .int .i64 x4] 32)) base q v2 (drL L p (j + 1)) g ∧ Mv9 q v v2 w (w2.alloc (.cells #[.int .i64 x3, .int .i64 x4] 32)) := fun w2 v2 h2 m2 => by
        have ho : OsAt w2 w.heap.size u5 (drO L p j) := HO.out.keep (fun k e => m2.block k (HO.out.lt k e).2 (by have := (HO.out.lt k e).1; omega) (HO.out.apart HRw.out.row e))
        exact ⟨ho.below ((Below.refl _ _).alloc (Nat.le_refl _) _), HNL.out ▸ h2.below ((Below.refl _ _).alloc (Nat.le_refl _) _), (HM.out.trans m2).alloc _⟩
      have STEP := Lib.hid step
      clear step
      rcases B with _ | _
      · by_cases h0 : E = 0
        · subst h0
          go_wp2_with (go_at_call 25; refine HC.out.mono ?_; rintro e w2 ⟨rfl, v2, h2, m2⟩; have HS := Lib.hid (STEP.out w2 v2 h2 m2); clear h2 m2)
          go_roundw
          case rel => exact ⟨j + 1, by omega, by go_num, by rw [HNO.out]; simpa using HS.out.1, v2, HS.out.2.1, HS.out.2.2⟩
          case measure => simp [intOf]; omega
        · have b0 : (E == 0) = false := by simpa using h0
          go_wp2_with (go_at_call 25; refine HC.out.mono ?_; rintro e w2 ⟨rfl, v2, h2, m2⟩; have HS := Lib.hid (STEP.out w2 v2 h2 m2); clear h2 m2)
          go_roundw
          case rel => exact ⟨j + 1, by omega, by go_num, by rw [HNO.out]; simpa using HS.out.1, v2, HS.out.2.1, HS.out.2.2⟩
          case measure => simp [intOf]; omega
      · obtain rfl : E = 0 := hEB rfl
        go_wp2_with (first
          | (go_at_call 25; refine HC.out.mono ?_; rintro e w2 ⟨rfl, v2, h2, m2⟩; have hsz := m2.size; have HS := Lib.hid (STEP.out w2 v2 h2 m2); have HN := Lib.hid (two_new (w2.alloc (.cells #[.int .i64 x3, .int .i64 x4] 32)) x3 x4); have HOX := Lib.hid (HS.out.1.below ((Below.refl _ _).alloc (Nat.le_refl _) (.cells #[.int .i64 x3, .int .i64 x4] 32))); clear h2 m2)
          | (at_builtin; refine wpList_append_own _ rfl (.tmp 27) (.tmp 29) 46 rfl w.heap.size 32 i0 (.agg #[.int .i64 0, .int .i64 0]) 2 16 Try.underlying46 HI0.out HZ0.out HZ1.out HZ2.out rfl (by decide) u5 (drO L p j).length (flatO (drO L p j)) rfl HOX.out ⟨w2.heap.size + 1, 0, none⟩ 1 1 [.int .i64 x3, .int .i64 x4] rfl rfl (by have := HN.out; rw [World.size_alloc] at this; exact this) (by simp [Value.oneCell']) (by unfold maxLen; omega) (by omega) (by simp; omega) ?_; intro v7 w7 hown7 hgrow7 _; have HO7 := Lib.hid hown7; have HG7 := Lib.hid hgrow7; clear hown7 hgrow7))
        go_roundw
        case rel =>
          have hal : Below (w2.alloc (.cells #[.int .i64 x3, .int .i64 x4] 32)).heap.size (w2.alloc (.cells #[.int .i64 x3, .int .i64 x4] 32)) ((w2.alloc (.cells #[.int .i64 x3, .int .i64 x4] 32)).alloc (.cells #[.int .i64 x3, .int .i64 x4] 32)) := (Below.refl _ _).alloc (Nat.le_refl _) _
          have hlt := HS.out.1.lt
          refine ⟨j + 1, by omega, by go_num, ?_, v2, (HS.out.2.1.below hal).grown HG7.out (fun e => ?_) (fun k e e' => ?_), (HS.out.2.2.alloc _).grown HG7.out (fun k e => .inr (hlt k e).1) HS.out.2.2.row⟩
          · rw [HNO.out]
            unfold OsAt
            rw [if_pos trivial, flatO_append, List.length_append]
            exact HO7.out
          · have := (hlt q e).1; omega
          · exact HS.out.1.apart HS.out.2.1.row e' e
        case measure => simp [intOf]; omega
    · obtain rfl : j = 8 := by omega
      have HO := Lib.hid hO; have HRw := Lib.hid hR; have HM := Lib.hid hM
      clear hO hR hM
      go_wp2
      go_ret
      exact ⟨_, rfl, HO.out, v1, HRw.out, HM.out⟩
end
end Go.Proofs.Ytfgigofmmapbmaa
