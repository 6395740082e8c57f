/- Layer 9, plainly: open files in thirty-two places, descriptors in a map of rows of eight numbers: how they stand for a list of descriptors; what a reference more, a reference less, another row come to. No program in it. -/
import Derived.Test.YtfgigofmmapbmaaFiSteps
namespace Go.Proofs.Ytfgigofmmapbmaa

/-- a place: what of, how many references. -/
structure OF where
  kind : Int
  thing : Int
  refs : Int
deriving DecidableEq
def OF.zero : OF := ⟨0, 0, 0⟩
def OF.live (x : OF) : Bool := x != OF.zero
def more1 (F : List OF) (i : Nat) : List OF := F.modify i (fun x => { x with refs := x.refs + 1 })
def less1 (x : OF) : OF := if x.refs = 1 then OF.zero else { x with refs := x.refs - 1 }
/-- a reference less to each of some numbers. -/
def leaveF : List Int → List OF → List OF
  | [], F => F
  | a :: A, F => leaveF A (if a = 0 then F else F.modify (a.toNat - 1) less1)
def goneF : List Int → List OF → List (Int × Int)
  | [], _ => []
  | a :: A, F => (if a = 0 then [] else match F[a.toNat - 1]? with | some x => if x.refs = 1 then [(x.kind, x.thing)] else [] | none => []) ++ goneF A (if a = 0 then F else F.modify (a.toNat - 1) less1)

/-! ### rows of numbers -/
abbrev Fds := List Int
def zero8 : Fds := [0, 0, 0, 0, 0, 0, 0, 0]
def rowD (D : List (Int × Fds)) (p : Int) : Fds := match D.find? (fun e => e.1 == p) with
  | some e => e.2
  | none => zero8
def hasD (D : List (Int × Fds)) (p : Int) : Bool := D.any (fun e => e.1 == p)
def delD (D : List (Int × Fds)) (p : Int) : List (Int × Fds) := D.filter (fun e => !(e.1 == p))
def setD (D : List (Int × Fds)) (p : Int) (h : Fds) : List (Int × Fds) := if hasD D p then D.map (fun e => if e.1 = p then (p, h) else e) else D ++ [(p, h)]
def keepD (D : List (Int × Fds)) (p : Int) (h : Fds) : List (Int × Fds) := if h = zero8 then delD D p else setD D p h
structure DOk (D : List (Int × Fds)) : Prop where
  one : D.Pairwise (fun a b => a.1 ≠ b.1)
  len : ∀ e ∈ D, e.2.length = 8
section
variable {D : List (Int × Fds)} {p q : Int} {h : Fds}
theorem hasD_no (e : hasD D p = false) : ∀ x ∈ D, x.1 ≠ p := by
  unfold hasD at e
  simpa using e
theorem rowD_no (e : ∀ x ∈ D, x.1 ≠ p) : rowD D p = zero8 := by
  unfold rowD
  rw [List.find?_eq_none.2 (fun x hx => by simp [e x hx])]
theorem rowD_len (hD : DOk D) (p : Int) : (rowD D p).length = 8 := by
  unfold rowD
  split
  · rename_i e he
    exact hD.len e (List.mem_of_find?_eq_some he)
  · rfl
theorem hasD_split (hD : DOk D) (e : hasD D p = true) : ∃ A r B, D = A ++ (p, r) :: B ∧ (∀ x ∈ A, x.1 ≠ p) ∧ (∀ x ∈ B, x.1 ≠ p) := by
  unfold hasD at e
  obtain ⟨x, hx, hp⟩ := List.any_eq_true.1 e
  obtain ⟨A, B, rfl⟩ := List.append_of_mem hx
  have h := hD.one
  rw [List.pairwise_append, List.pairwise_cons] at h
  have hp' : x.1 = p := by simpa using hp
  obtain ⟨a, r⟩ := x
  subst hp'
  exact ⟨A, r, B, rfl, fun y hy => h.2.2 y hy _ (by simp), fun y hy => (h.2.1.1 y hy).symm⟩
theorem rowD_split {A B : List (Int × Fds)} {r : Fds} (hA : ∀ x ∈ A, x.1 ≠ p) : rowD (A ++ (p, r) :: B) p = r := by
  unfold rowD
  rw [List.find?_append, List.find?_eq_none.2 (fun x hx => by simp [hA x hx])]
  simp [List.find?]
theorem map_no {D : List (Int × Fds)} (e : ∀ x ∈ D, x.1 ≠ p) : D.map (fun e => if e.1 = p then (p, h) else e) = D := by
  refine (List.map_congr_left (g := id) fun x hx => ?_).trans (List.map_id D)
  rw [if_neg (e x hx)]; rfl
theorem setD_split {A B : List (Int × Fds)} {r : Fds} (hA : ∀ x ∈ A, x.1 ≠ p) (hB : ∀ x ∈ B, x.1 ≠ p) : setD (A ++ (p, r) :: B) p h = A ++ (p, h) :: B := by
  unfold setD
  rw [if_pos (by unfold hasD; simp), List.map_append, List.map_cons, map_no hA, map_no hB]
  simp
theorem delD_split {A B : List (Int × Fds)} {r : Fds} (hA : ∀ x ∈ A, x.1 ≠ p) (hB : ∀ x ∈ B, x.1 ≠ p) : delD (A ++ (p, r) :: B) p = A ++ B := by
  unfold delD
  rw [List.filter_append, List.filter_cons, List.filter_eq_self.2 (fun x hx => by simp [hA x hx]), List.filter_eq_self.2 (fun x hx => by simp [hB x hx])]
  simp
theorem delD_no (e : ∀ x ∈ D, x.1 ≠ p) : delD D p = D := List.filter_eq_self.2 fun x hx => by simp [e x hx]
theorem rowD_other {A B : List (Int × Fds)} {r : Fds} (hq : q ≠ p) : rowD (A ++ (p, r) :: B) q = rowD (A ++ B) q := by
  unfold rowD
  rw [List.find?_append, List.find?_append, List.find?_cons_of_neg (by simpa using Ne.symm hq)]
theorem rowD_set (hD : DOk D) : rowD (setD D p h) q = if q = p then h else rowD D q := by
  by_cases e : hasD D p = true
  · obtain ⟨A, r, B, rfl, hA, hB⟩ := hasD_split hD e
    rw [setD_split hA hB]
    by_cases c : q = p
    · subst c; rw [if_pos rfl, rowD_split hA]
    · rw [if_neg c, rowD_other c, rowD_other c]
  · unfold setD
    rw [if_neg e]
    have hn := hasD_no (Bool.eq_false_iff.2 e)
    by_cases c : q = p
    · subst c; rw [if_pos rfl, rowD_split hn]
    · rw [if_neg c, rowD_other c, List.append_nil]
theorem rowD_del (hD : DOk D) : rowD (delD D p) q = if q = p then zero8 else rowD D q := by
  by_cases e : hasD D p = true
  · obtain ⟨A, r, B, rfl, hA, hB⟩ := hasD_split hD e
    rw [delD_split hA hB]
    by_cases c : q = p
    · subst c
      rw [if_pos rfl, rowD_no (fun x hx => by rcases List.mem_append.1 hx with k | k; exact hA x k; exact hB x k)]
    · rw [if_neg c, rowD_other c]
  · have hn := hasD_no (Bool.eq_false_iff.2 e)
    rw [delD_no hn]
    by_cases c : q = p
    · subst c; rw [if_pos rfl, rowD_no hn]
    · rw [if_neg c]
theorem rowD_keep (hD : DOk D) : rowD (keepD D p h) q = if q = p then h else rowD D q := by
  unfold keepD
  split
  · rw [rowD_del hD]; subst h; rfl
  · exact rowD_set hD
theorem DOk.del (hD : DOk D) : DOk (delD D p) := ⟨hD.one.sublist List.filter_sublist, fun e he => hD.len e (List.mem_filter.1 he).1⟩
theorem DOk.set (hD : DOk D) (hh : h.length = 8) : DOk (setD D p h) := by
  by_cases e : hasD D p = true
  · obtain ⟨A, r, B, rfl, hA, hB⟩ := hasD_split hD e
    rw [setD_split hA hB]
    have h1 := hD.one
    rw [List.pairwise_append, List.pairwise_cons] at h1
    refine ⟨?_, fun x hx => ?_⟩
    · rw [List.pairwise_append, List.pairwise_cons]
      refine ⟨h1.1, ⟨fun y hy => (hB y hy).symm, h1.2.1.2⟩, fun a ha b hb => ?_⟩
      rcases List.mem_cons.1 hb with rfl | hb
      · exact hA a ha
      · exact h1.2.2 a ha b (List.mem_cons_of_mem _ hb)
    · rcases List.mem_append.1 hx with k | k
      · exact hD.len x (List.mem_append_left _ k)
      · rcases List.mem_cons.1 k with rfl | k
        · exact hh
        · exact hD.len x (List.mem_append_right _ (List.mem_cons_of_mem _ k))
  · unfold setD
    rw [if_neg e]
    have hn := hasD_no (Bool.eq_false_iff.2 e)
    refine ⟨?_, fun x hx => ?_⟩
    · rw [List.pairwise_append]
      exact ⟨hD.one, List.pairwise_singleton _ _, fun a ha b hb => by rw [List.mem_singleton.1 hb]; exact hn a ha⟩
    · rcases List.mem_append.1 hx with k | k
      · exact hD.len x k
      · rw [List.mem_singleton.1 k]; exact hh
theorem DOk.keep (hD : DOk D) (hh : h.length = 8) : DOk (keepD D p h) := by
  unfold keepD
  split
  · exact hD.del
  · exact hD.set hh
end

/-! ### how they stand for a list of descriptors -/
def numI (φ : Int → Nat) (L : List FV) (p d : Int) : Int := match look L p d with
  | none => 0
  | some x => φ x.file
def RelD (φ : Int → Nat) (D : List (Int × Fds)) (L : List FV) : Prop := ∀ (p : Int) (d : Nat), d < 8 → (rowD D p)[d]? = some (numI φ L p d)
structure RelF (φ : Int → Nat) (F : List OF) (L : List FV) (n : Nat) : Prop where
  len : F.length = 32
  lo : ∀ x ∈ L, 1 ≤ φ x.file ∧ φ x.file ≤ 32
  here : ∀ x ∈ L, F[φ x.file - 1]? = some ⟨x.kind, x.thing, refsN L x.file⟩
  inj : ∀ x ∈ L, ∀ y ∈ L, φ x.file = φ y.file → x.file = y.file
  free : ∀ i, i < 32 → (∃ x ∈ L, φ x.file = i + 1) ∨ F[i]? = some OF.zero
  cnt : F.countP OF.live = cntN L n

theorem countP_modify {P : OF → Bool} {f : OF → OF} : ∀ {F : List OF} {i : Nat} {x : OF}, F[i]? = some x → (F.modify i f).countP P + (if P x then 1 else 0) = F.countP P + (if P (f x) then 1 else 0)
  | [], _, _, h => by simp at h
  | y :: F, 0, x, h => by
    simp at h; subst h
    simp [List.countP_cons]
    omega
  | y :: F, i + 1, x, h => by
    simp at h
    have := countP_modify (P := P) (f := f) h
    simp [List.countP_cons]
    omega
theorem mod_at {F : List OF} {i j : Nat} {f : OF → OF} : (F.modify i f)[j]? = if i = j then F[j]?.map f else F[j]? := by
  rw [List.getElem?_modify]
  split <;> simp

theorem set_mod {F : List OF} {i : Nat} {y : OF} (h : i < F.length) : F.set i y = F.modify i (fun _ => y) := by
  apply List.ext_getElem?
  intro j
  rw [mod_at]
  by_cases c : i = j
  · subst c
    rw [if_pos rfl, List.getElem?_set_self h, List.getElem?_eq_getElem h]; rfl
  · rw [if_neg c, List.getElem?_set_ne c]

section
variable {φ : Int → Nat} {F : List OF} {L : List FV} {n : Nat} {D : List (Int × Fds)} {p d : Int} {x : FV}
theorem live_refs (k t : Int) {r : Nat} (h : 0 < r) : OF.live ⟨k, t, r⟩ = true := by
  unfold OF.live OF.zero
  simp
  intro _ _
  omega
theorem RelF.pos (hx : x ∈ L) : 0 < refsN L x.file := refs_mem.2 ⟨x, hx, rfl⟩
/-- another list of as many of each. -/
theorem RelF.congr {L' : List FV} (hF : RelF φ F L n) (hm : ∀ x ∈ L', ∃ y ∈ L, y.file = x.file ∧ y.kind = x.kind ∧ y.thing = x.thing) (hr : ∀ f, refsN L' f = refsN L f) : RelF φ F L' n := by
  refine ⟨hF.len, fun x hx => ?_, fun x hx => ?_, fun x hx y hy e => ?_, fun i hi => ?_, hF.cnt.trans (cntN_same fun f _ _ => by rw [hr])⟩
  · obtain ⟨y, hy, e, _⟩ := hm x hx
    rw [← e]; exact hF.lo y hy
  · obtain ⟨y, hy, e1, e2, e3⟩ := hm x hx
    rw [← e1, ← e2, ← e3, hr]; exact hF.here y hy
  · obtain ⟨a, ha, e1, _⟩ := hm x hx
    obtain ⟨b, hb, e2, _⟩ := hm y hy
    rw [← e1, ← e2] at e ⊢
    exact hF.inj a ha b hb e
  · rcases hF.free i hi with ⟨y, hy, e⟩ | e
    · have := RelF.pos hy
      rw [← hr] at this
      obtain ⟨x, hx, e'⟩ := refs_mem.1 this
      exact .inl ⟨x, hx, by rw [e']; exact e⟩
    · exact .inr e
/-- one more of what is there. -/
theorem RelF.more {L' : List FV} {y : FV} (hF : RelF φ F L n) (hx : x ∈ L) (hm : ∀ z ∈ L', ∃ y ∈ L, y.file = z.file ∧ y.kind = z.kind ∧ y.thing = z.thing) (hy : y.file = x.file) (hr : ∀ f, refsN L' f = refsN L f + (if y.file = f then 1 else 0)) :
    RelF φ (more1 F (φ x.file - 1)) L' n := by
  have hat := hF.here x hx
  refine ⟨by unfold more1; rw [List.length_modify]; exact hF.len, fun z hz => ?_, fun z hz => ?_, fun x hx y hy e => ?_, fun i hi => ?_, ?_⟩
  · obtain ⟨y, hy, e, _⟩ := hm z hz
    rw [← e]; exact hF.lo y hy
  · obtain ⟨a, ha, e1, e2, e3⟩ := hm z hz
    have hal := hF.lo a ha
    have hxl := hF.lo x hx
    unfold more1
    rw [mod_at, ← e1, ← e2, ← e3, hF.here a ha, hr, hy]
    by_cases c : x.file = a.file
    · rw [if_pos (by rw [c]), if_pos c]
      simp
    · rw [if_neg (fun k => c (hF.inj x hx a ha (by omega))), if_neg c]
      rfl
  · obtain ⟨a, ha, e1, _⟩ := hm x hx
    obtain ⟨b, hb, e2, _⟩ := hm y hy
    rw [← e1, ← e2] at e ⊢
    exact hF.inj a ha b hb e
  · rcases hF.free i hi with ⟨a, ha, e⟩ | e
    · have h1 := RelF.pos ha
      have h2 := hr a.file
      obtain ⟨z, hz, e'⟩ := refs_mem.1 (show 0 < refsN L' a.file by omega)
      exact .inl ⟨z, hz, by rw [e']; exact e⟩
    · refine .inr ?_
      unfold more1
      rw [mod_at, if_neg, e]
      intro k
      rw [k, e] at hat
      have := congrArg OF.refs (Option.some.inj hat)
      have hp := RelF.pos hx
      simp [OF.zero] at this
      omega
  · have h1 := countP_modify (P := OF.live) (f := fun x => { x with refs := x.refs + 1 }) hat
    have hp := RelF.pos hx
    rw [if_pos (live_refs _ _ hp), if_pos (by have := live_refs x.kind x.thing (r := refsN L x.file + 1) (by omega); push_cast at this; exact this)] at h1
    have h2 : cntN L' n = cntN L n := cntN_same fun f _ _ => by
      rw [hr, hy]
      by_cases c : x.file = f
      · rw [if_pos c]; rw [c] at hp; omega
      · rw [if_neg c, Nat.add_zero]
    have h3 := hF.cnt
    unfold more1
    omega
/-- one less. -/
theorem RelF.rm (hw : WF L n) (hF : RelF φ F L n) (h : look L p d = some x) : RelF φ (F.modify (φ x.file - 1) less1) (rmL L p d) n := by
  obtain ⟨hx, -⟩ := look_is h
  have hat := hF.here x hx
  have hr := rm_refs h
  have hxl := hF.lo x hx
  refine ⟨by rw [List.length_modify]; exact hF.len, fun z hz => hF.lo z (rm_mem hz), fun z hz => ?_, fun a ha b hb => hF.inj a (rm_mem ha) b (rm_mem hb), fun i hi => ?_, ?_⟩
  · have hal := hF.lo z (rm_mem hz)
    rw [mod_at, hF.here z (rm_mem hz), hr]
    by_cases c : x.file = z.file
    · rw [if_pos (by rw [c]), if_pos c]
      have hp := RelF.pos hz
      unfold less1
      simp only [Option.map_some]
      rw [if_neg (by push_cast; omega)]
      simp
    · rw [if_neg (fun k => c (hF.inj x hx z (rm_mem hz) (by omega))), if_neg c]
      rfl
  · rw [mod_at]
    by_cases c : φ x.file - 1 = i
    · rw [if_pos c, ← c, hat]
      by_cases e : refsN (rmL L p d) x.file = 0
      · refine .inr ?_
        have := hr x.file
        rw [if_pos rfl, e] at this
        unfold less1
        simp [this]
      · obtain ⟨z, hz, e'⟩ := refs_mem.1 (show 0 < refsN (rmL L p d) x.file by omega)
        exact .inl ⟨z, hz, by rw [e']; omega⟩
    · rw [if_neg c]
      rcases hF.free i hi with ⟨a, ha, e⟩ | e
      · have h1 := RelF.pos ha
        have h2 := hr a.file
        rw [if_neg (fun k => c (by rw [k, e]; omega))] at h2
        obtain ⟨z, hz, e'⟩ := refs_mem.1 (show 0 < refsN (rmL L p d) a.file by omega)
        exact .inl ⟨z, hz, by rw [e']; exact e⟩
      · exact .inr e
  · have h1 := countP_modify (P := OF.live) (f := less1) hat
    have hp := RelF.pos hx
    have hc := cnt_rm hw h
    have h2 := hr x.file
    have h3 := hF.cnt
    rw [if_pos rfl] at h2
    rw [if_pos (live_refs _ _ hp)] at h1
    by_cases e : refsN (rmL L p d) x.file = 0
    · rw [if_pos e] at hc
      rw [if_neg (by unfold less1; simp [h2, e, OF.live])] at h1
      omega
    · rw [if_neg e] at hc
      rw [if_pos (by
        unfold less1
        rw [if_neg (by dsimp only; omega)]
        have := live_refs x.kind x.thing (r := refsN (rmL L p d) x.file) (by omega)
        rw [show ((refsN L x.file : Nat) : Int) - 1 = (refsN (rmL L p d) x.file : Nat) by omega]
        exact this)] at h1
      omega
/-- the first of a place in which none stands. -/
theorem RelF.new {y : FV} {i : Nat} (hw : WF L n) (hF : RelF φ F L n) (hi : F[i]? = some OF.zero) (hy : y.file = (n : Int) + 1) :
    RelF (fun f => if f = (n : Int) + 1 then i + 1 else φ f) (F.set i ⟨y.kind, y.thing, 1⟩) (L ++ [y]) (n + 1) := by
  have hil : i < 32 := by rw [← hF.len]; exact (List.getElem?_eq_some_iff.1 hi).1
  have hne : ∀ z ∈ L, z.file ≠ (n : Int) + 1 := fun z hz => by have := (hw.ok z hz).2.2.2.2.1; omega
  have hpl : ∀ z ∈ L, φ z.file - 1 ≠ i := fun z hz e => by
    have h1 := hF.here z hz
    rw [e, hi] at h1
    have := congrArg OF.refs (Option.some.inj h1)
    have hp := RelF.pos hz
    simp [OF.zero] at this
    omega
  have hr0 : refsN L ((n : Int) + 1) = 0 := by
    rcases Nat.eq_zero_or_pos (refsN L ((n : Int) + 1)) with e | e
    · exact e
    · obtain ⟨z, hz, e'⟩ := refs_mem.1 e
      exact absurd e' (hne z hz)
  refine ⟨by rw [List.length_set]; exact hF.len, fun z hz => ?_, fun z hz => ?_, fun a ha b hb e => ?_, fun j hj => ?_, ?_⟩
  · rcases List.mem_append.1 hz with k | k
    · rw [if_neg (hne z k)]; exact hF.lo z k
    · obtain rfl := List.mem_singleton.1 k
      rw [if_pos hy]; omega
  · rcases List.mem_append.1 hz with k | k
    · rw [if_neg (hne z k), List.getElem?_set_ne (hpl z k).symm, hF.here z k, refs_no (by rw [hy]; exact (hne z k).symm)]
    · obtain rfl := List.mem_singleton.1 k
      rw [if_pos hy, Nat.add_sub_cancel, List.getElem?_set_self (by rw [hF.len]; exact hil), refs_yes rfl, hy, hr0]
      rfl
  · rcases List.mem_append.1 ha with k | k <;> rcases List.mem_append.1 hb with k' | k'
    · rw [if_neg (hne a k), if_neg (hne b k')] at e
      exact hF.inj a k b k' e
    · obtain rfl := List.mem_singleton.1 k'
      rw [if_neg (hne a k), if_pos hy] at e
      exact absurd (by omega) (hpl a k)
    · obtain rfl := List.mem_singleton.1 k
      rw [if_neg (hne b k'), if_pos hy] at e
      exact absurd (by omega) (hpl b k')
    · obtain rfl := List.mem_singleton.1 k
      obtain rfl := List.mem_singleton.1 k'
      rfl
  · by_cases c : i = j
    · subst c
      exact .inl ⟨y, by simp, by rw [if_pos hy]⟩
    · rw [List.getElem?_set_ne c]
      rcases hF.free j hj with ⟨a, ha, e⟩ | e
      · exact .inl ⟨a, List.mem_append_left _ ha, by rw [if_neg (hne a ha)]; exact e⟩
      · exact .inr e
  · have h1 := countP_modify (P := OF.live) (f := fun _ => ⟨y.kind, y.thing, 1⟩) hi
    rw [if_neg (by decide), if_pos (show OF.live ⟨y.kind, y.thing, 1⟩ = true from live_refs y.kind y.thing (r := 1) (by omega))] at h1
    rw [cnt_open hy, ← hF.cnt]
    rw [show F.set i ⟨y.kind, y.thing, 1⟩ = F.modify i (fun _ => ⟨y.kind, y.thing, 1⟩) from set_mod (by rw [hF.len]; exact hil)]
    omega

/-! ### rows -/
theorem numI_none (h : look L p d = none) : numI φ L p d = 0 := by unfold numI; rw [h]
theorem numI_some (h : look L p d = some x) : numI φ L p d = φ x.file := by unfold numI; rw [h]
theorem RelF.num0 (hF : RelF φ F L n) : numI φ L p d = 0 ↔ look L p d = none := by
  unfold numI
  cases e : look L p d with
  | none => simp
  | some x =>
    have := hF.lo x (look_is e).1
    simp
    omega
theorem RelF.num_le (hF : RelF φ F L n) : 0 ≤ numI φ L p d ∧ numI φ L p d ≤ 32 := by
  unfold numI
  cases e : look L p d with
  | none => simp
  | some x =>
    have := hF.lo x (look_is e).1
    simp
    omega
/-- a row is another list's. -/
theorem RelD.keep {φ' : Int → Nat} {L' : List FV} {h : Fds} (hD : RelD φ D L) (ok : DOk D) (hh : ∀ d : Nat, d < 8 → h[d]? = some (numI φ' L' p d)) (ho : ∀ q (d : Nat), q ≠ p → d < 8 → numI φ' L' q d = numI φ L q d) : RelD φ' (keepD D p h) L' := by
  intro q d hd
  rw [rowD_keep ok]
  by_cases c : q = p
  · subst c; rw [if_pos rfl]; exact hh d hd
  · rw [if_neg c, hD q d hd, ho q d c hd]
theorem RelD.row8 (hD : RelD φ D L) (ok : DOk D) (p : Int) : rowD D p = (List.range 8).map (fun d : Nat => numI φ L p d) := by
  apply List.ext_getElem?
  intro d
  by_cases hd : d < 8
  · rw [hD p d hd]
    simp [hd]
  · rw [List.getElem?_eq_none (by rw [rowD_len ok]; omega), List.getElem?_eq_none (by simp; omega)]
theorem zero8_iff {h : Fds} (hl : h.length = 8) : h = zero8 ↔ ∀ d : Nat, d < 8 → h[d]? = some 0 := by
  constructor
  · rintro rfl d hd
    have : d = 0 ∨ d = 1 ∨ d = 2 ∨ d = 3 ∨ d = 4 ∨ d = 5 ∨ d = 6 ∨ d = 7 := by omega
    rcases this with rfl | rfl | rfl | rfl | rfl | rfl | rfl | rfl <;> rfl
  · intro e
    apply List.ext_getElem?
    intro d
    by_cases hd : d < 8
    · rw [e d hd]
      have : d = 0 ∨ d = 1 ∨ d = 2 ∨ d = 3 ∨ d = 4 ∨ d = 5 ∨ d = 6 ∨ d = 7 := by omega
      rcases this with rfl | rfl | rfl | rfl | rfl | rfl | rfl | rfl <;> rfl
    · rw [List.getElem?_eq_none (by omega), List.getElem?_eq_none (by simp [zero8]; omega)]
end
end Go.Proofs.Ytfgigofmmapbmaa
