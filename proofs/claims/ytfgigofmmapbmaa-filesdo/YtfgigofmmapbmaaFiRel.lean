/- Layer 9, plainly: places and rows behind each call stand for the list behind it. -/
import Derived.Test.YtfgigofmmapbmaaFiLeave
import Derived.Test.YtfgigofmmapbmaaFiFree
import Derived.Test.YtfgigofmmapbmaaFiCount
import Derived.Test.YtfgigofmmapbmaaFiRefer
namespace Go.Proofs.Ytfgigofmmapbmaa

section
variable {φ φ' : Int → Nat} {F : List OF} {L : List FV} {n : Nat} {D : List (Int × Fds)} {p d : Int} {x y : FV}
theorem look_out (hw : WF L n) (h : d < 0 ∨ 8 ≤ d) : look L p d = none := look_none.2 fun x hx c => by have := hw.ok x hx; omega
theorem look_low (hw : WF L n) (h : p < 1) : look L p d = none := look_none.2 fun x hx c => by have := hw.ok x hx; omega
theorem numE_rel (hw : WF L n) (hF : RelF φ F L n) (hD : RelD φ D L) (p d : Int) : numE D p d = getE L p d := by
  rw [getE_look]
  unfold numE
  by_cases h1 : p < 1
  · rw [if_pos h1, if_pos h1]
  rw [if_neg h1, if_neg h1]
  by_cases h2 : d < 0 ∨ 8 ≤ d
  · rw [if_pos h2, look_out hw h2]
  rw [if_neg h2]
  have := hD p d.toNat (by omega)
  rw [show ((d.toNat : Nat) : Int) = d by omega] at this
  rw [this]
  cases e : look L p d with
  | none => rw [numI_none e, if_pos rfl]
  | some x =>
    have h0 : numI φ L p d ≠ 0 := fun c => by rw [hF.num0, e] at c; cases c
    rw [if_neg (fun c => h0 (Option.some.inj c))]
theorem numN_rel (hw : WF L n) (hF : RelF φ F L n) (hD : RelD φ D L) (h : getE L p d = 0) : ∃ x, look L p d = some x ∧ numN D p d = φ x.file ∧ 0 ≤ d ∧ d < 8 ∧ 1 ≤ p := by
  obtain ⟨h1, x, hx⟩ := getE_zero.1 h
  have ho := hw.ok x (look_is hx).1
  have hd := (look_is hx).2.2
  refine ⟨x, hx, ?_, by omega, by omega, h1⟩
  unfold numN
  rw [numE_rel hw hF hD, if_pos h]
  have := hD p d.toNat (by omega)
  rw [show ((d.toNat : Nat) : Int) = d by omega] at this
  rw [this, numI_some hx]
  rfl
theorem numN_no (hw : WF L n) (hF : RelF φ F L n) (hD : RelD φ D L) (h : getE L p d ≠ 0) : numN D p d = 0 := by
  unfold numN
  rw [numE_rel hw hF hD, if_neg h]
theorem numAt_rel (hD : RelD φ D L) {i : Nat} (hi : i < 8) : numAt (rowD D p) i = numI φ L p i := by
  unfold numAt
  rw [hD p i hi]
  rfl
theorem zero_no (hF : RelF φ F L n) (hD : RelD φ D L) (ok : DOk D) (h : freeI L p < 0) : zeroN (rowD D p) = 0 ∧ zeroE (rowD D p) = 81 := by
  have hz := zeroI_none (r := rowD D p) (fun i hi => by
    obtain ⟨x, hx⟩ := (free_no2 h).2 i (by omega) (by omega)
    rw [numAt_rel hD hi]
    have h0 : numI φ L p i ≠ 0 := fun c => by rw [hF.num0, hx] at c; cases c
    simpa using h0) (rowD_len ok p)
  unfold zeroN zeroE
  rw [hz]
  exact ⟨rfl, rfl⟩
theorem zero_yes (hF : RelF φ F L n) (hD : RelD φ D L) (ok : DOk D) (h : ¬ freeI L p < 0) : zeroN (rowD D p) = freeI L p ∧ zeroE (rowD D p) = 0 := by
  have hl := freeI_lt L p
  obtain ⟨h1, h2⟩ := free_yes2 h
  have hz := zeroI_some (r := rowD D p) (j := (freeI L p).toNat) (rowD_len ok p) (by omega) (by
    rw [numAt_rel hD (by omega), show (((freeI L p).toNat : Nat) : Int) = freeI L p by omega, numI_none h1]; rfl) (fun i hi => by
    obtain ⟨x, hx⟩ := h2 i (by omega) (by omega)
    rw [numAt_rel hD (by omega)]
    have h0 : numI φ L p i ≠ 0 := fun c => by rw [hF.num0, hx] at c; cases c
    simpa using h0)
  unfold zeroN zeroE
  rw [hz]
  exact ⟨by dsimp only; omega, rfl⟩
theorem RelF.bnd (hF : RelF φ F L n) {i : Nat} {z : OF} (hi : F[i]? = some z) : 0 ≤ z.refs ∧ z.refs ≤ L.length := by
  have hl := (List.getElem?_eq_some_iff.1 hi).1
  rcases hF.free i (by rw [← hF.len]; exact hl) with ⟨x, hx, e⟩ | e
  · have h1 := hF.here x hx
    rw [show φ x.file - 1 = i by omega, hi] at h1
    cases h1
    have := refsN_le L x.file
    dsimp only
    omega
  · rw [hi] at e
    cases e
    simp [OF.zero]
theorem RelF.bndF (hF : RelF φ F L n) (hl : L.length ≤ 80000) : BndF 0 F := fun z hz => by
  obtain ⟨i, hi, rfl⟩ := List.mem_iff_getElem.1 hz
  have := hF.bnd (List.getElem?_eq_getElem hi)
  omega
theorem live_iff (z : OF) : z.live = true ↔ z ≠ OF.zero := by unfold OF.live; simp
theorem spot_no (hF : RelF φ F L n) (h : 32 ≤ cntN L n) : spotI F = -1 := by
  have hc := hF.cnt
  have hall : ∀ z ∈ F, z.live = true := by
    have : F.countP OF.live = F.length := by
      have := List.countP_le_length (p := OF.live) (l := F)
      have := hF.len
      omega
    exact List.countP_eq_length.1 this
  unfold spotI
  rw [List.findIdx?_eq_none_iff.2 (fun z hz => by rw [hall z hz]; rfl)]
theorem spot_yes (hF : RelF φ F L n) (h : ¬ 32 ≤ cntN L n) : ∃ i : Nat, spotI F = i ∧ F[i]? = some OF.zero ∧ i < 32 := by
  have hc := hF.cnt
  unfold spotI
  cases e : F.findIdx? (fun x => !x.live) with
  | none =>
    have hall := List.findIdx?_eq_none_iff.1 e
    have : F.countP OF.live = F.length := List.countP_eq_length.2 fun z hz => by simpa using hall z hz
    have := hF.len
    omega
  | some i =>
    obtain ⟨hl, hP, _⟩ := List.findIdx?_eq_some_iff_getElem.1 e
    refine ⟨i, rfl, ?_, by rw [← hF.len]; exact hl⟩
    rw [List.getElem?_eq_getElem hl]
    congr 1
    have hv : ¬ (F[i].live = true) := by simpa using hP
    rw [live_iff] at hv
    exact Classical.not_not.1 hv
/-- one descriptor more. -/
theorem RelD.add (hD : RelD φ D L) (ok : DOk D) {k : Nat} {a : Int} (hk : k < 8) (h : look L p k = none) (h1 : y.pid = p) (h2 : y.fd = k) (ha : (φ' y.file : Int) = a) (hφ : ∀ x ∈ L, φ' x.file = φ x.file) : RelD φ' (keepD D p ((rowD D p).set k a)) (L ++ [y]) := by
  have same : ∀ q (d : Nat), numI φ' L q d = numI φ L q d := fun q d => by
    cases e : look L q d with
    | none => rw [numI_none e, numI_none e]
    | some x => rw [numI_some e, numI_some e, hφ x (look_is e).1]
  refine hD.keep ok (fun d hd => ?_) (fun q d hq hd => ?_)
  · by_cases c : k = d
    · subst c
      rw [List.getElem?_set_self (by rw [rowD_len ok]; exact hk), numI_some (look_new h h1 h2), ha]
    · rw [List.getElem?_set_ne c, hD p d hd, ← same]
      unfold numI
      rw [look_other (fun e => c (by rw [h2] at e; omega))]
  · rw [← same]
    unfold numI
    rw [look_other (fun e => hq (by rw [← e.1, h1]))]
/-- one less. -/
theorem RelD.rm (hw : WF L n) (hD : RelD φ D L) (ok : DOk D) {k : Nat} (hk : k < 8) : RelD φ (keepD D p ((rowD D p).set k 0)) (rmL L p k) := by
  refine hD.keep ok (fun d hd => ?_) (fun q d hq hd => ?_)
  · by_cases c : k = d
    · subst c
      rw [List.getElem?_set_self (by rw [rowD_len ok]; exact hk), numI_none (rm_self hw p k)]
    · rw [List.getElem?_set_ne c, hD p d hd]
      unfold numI
      rw [rm_other (fun e => c (by omega))]
  · unfold numI
    rw [rm_other (fun e => hq e.1.symm)]
theorem RelF.dup (hF : RelF φ F L n) (hx : look L p d = some x) (k : Int) : RelF φ (more1 F (φ x.file - 1)) (L ++ [{ x with fd := k }]) n := by
  have hm := (look_is hx).1
  refine hF.more hm (y := x) (fun z hz => ?_) rfl (fun f => ?_)
  · rcases List.mem_append.1 hz with c | c
    · exact ⟨z, c, rfl, rfl, rfl⟩
    · obtain rfl := List.mem_singleton.1 c
      exact ⟨x, hm, rfl, rfl, rfl⟩
  · by_cases e : x.file = f
    · rw [if_pos e, refs_yes (by exact e)]
    · rw [if_neg e, refs_no (by exact e)]
      rfl
/-- opened: stored, then referred to. -/
theorem open_set {i : Nat} (hi : F[i]? = some OF.zero) (k t : Int) : more1 (F.modify i (fun x => { x with kind := k, thing := t })) i = F.set i ⟨k, t, 1⟩ := by
  have hl := (List.getElem?_eq_some_iff.1 hi).1
  apply List.ext_getElem?
  intro j
  unfold more1
  rw [mod_at, mod_at]
  by_cases c : i = j
  · subst c
    rw [if_pos rfl, if_pos rfl, List.getElem?_set_self hl, hi]
    rfl
  · rw [if_neg c, if_neg c, List.getElem?_set_ne c]

/-! ### all of somebody's dropped -/
theorem dr_look {j : Nat} {i : Nat} (h : j ≤ i) : look (drL L p j) p i = look L p i := by
  induction j with
  | zero => rfl
  | succ j ih =>
    refine Eq.trans ?_ (ih (by omega))
    show look (clsL (drL L p j) p j) p i = _
    unfold clsL
    split
    · exact rm_other (fun e => by have := e.2; omega)
    · rfl
theorem drop_rel (hw : WF L n) (hF : RelF φ F L n) (hD : RelD φ D L) (ok : DOk D) (p : Int) : ∀ j : Nat, j ≤ 8 → RelF φ (leaveF ((rowD D p).take j) F) (drL L p j) n ∧ goneF ((rowD D p).take j) F = drO L p j
  | 0, _ => ⟨hF, rfl⟩
  | j + 1, hj => by
    obtain ⟨h1, h2⟩ := drop_rel hw hF hD ok p j (by omega)
    have h8 := rowD_len ok p
    have hr := hD p j (by omega)
    obtain ⟨hl, hr'⟩ := List.getElem?_eq_some_iff.1 hr
    rw [List.take_succ_eq_append_getElem hl, hr', leave_snoc, gone_snoc, h2]
    generalize leaveF ((rowD D p).take j) F = G at *
    have hlk := dr_look (L := L) (p := p) (j := j) (i := j) (Nat.le_refl _)
    have hdw := hw.dr p j
    rw [show drL L p (j + 1) = clsL (drL L p j) p j from rfl, show drO L p (j + 1) = drO L p j ++ (if clsB (drL L p j) p j then [((getX (drL L p j) p j).kind, (getX (drL L p j) p j).thing)] else []) from rfl]
    cases e : look L p j with
    | none =>
      rw [e] at hlk
      have hE : getE (drL L p j) p j ≠ 0 := fun c => by
        obtain ⟨_, x, hx⟩ := getE_zero.1 c
        rw [hlk] at hx; cases hx
      rw [numI_none e]
      refine ⟨?_, ?_⟩
      · unfold stepF clsL; rw [if_pos rfl, if_neg hE]; exact h1
      · unfold stepG clsB; rw [if_pos rfl, show (getE (drL L p j) p j == 0) = false by simpa using hE]; rfl
    | some x =>
      rw [e] at hlk
      have hx := look_is hlk
      have ho := hdw.ok x hx.1
      have hE : getE (drL L p j) p j = 0 := getE_zero.2 ⟨by omega, x, hlk⟩
      have hlo := h1.lo x hx.1
      have hat := h1.here x hx.1
      have hn0 : ¬ ((φ x.file : Nat) : Int) = 0 := by omega
      rw [numI_some e]
      refine ⟨?_, ?_⟩
      · unfold stepF clsL
        rw [if_neg hn0, if_pos hE, Int.toNat_natCast]
        exact h1.rm hdw hlk
      · have hrr := rm_refs hlk x.file
        rw [if_pos rfl] at hrr
        unfold stepG clsB
        rw [if_neg hn0, Int.toNat_natCast, hat, hE, getX_yes hE, fdX_look, hlk]
        simp only [Option.getD_some, hrr]
        by_cases c : refsN (rmL (drL L p j) p j) x.file = 0
        · rw [c]; simp
        · rw [if_neg (by omega)]
          simp [c]
theorem drop_rows (hw : WF L n) (hD : RelD φ D L) (ok : DOk D) (p : Int) : RelD φ (keepD D p zero8) (drL L p 8) := by
  refine hD.keep ok (fun d hd => ?_) (fun q d hq hd => ?_)
  · rw [(zero8_iff rfl).1 rfl d hd, numI_none]
    by_cases h : 1 ≤ p
    · exact dr_gone hw h 8 d hd
    · exact look_none.2 fun x hx c => by have := hw.ok x (dr_mem hx); omega
  · unfold numI
    rw [dr_other (fun e => hq e.symm)]

/-! ### all of a parent's a child's, too -/
def moreJ (L : List FV) (p c : Int) (j : Nat) : List FV := (L.filter (fun x => x.pid == p && decide (x.fd < (j : Int)))).map (fun x => { x with pid := c })
theorem moreJ_all (hw : WF L n) (p c : Int) : moreJ L p c 8 = moreL L p c := by
  unfold moreJ moreL
  have h : ∀ A : List FV, (∀ x ∈ A, x.fd < 8) → (A.filter (fun x => x.pid == p && decide (x.fd < ((8 : Nat) : Int)))).map (fun x => { x with pid := c }) = A.filterMap (mine9 p c) := fun A => by
    induction A with
    | nil => intro _; rfl
    | cons x A ih =>
      intro hA
      rw [List.filterMap_cons, List.filter_cons, ← ih (fun z hz => hA z (List.mem_cons_of_mem _ hz))]
      have h8 := hA x (by simp)
      unfold mine9
      by_cases e : x.pid = p
      · rw [if_pos (by simp [e]; exact h8), if_pos e]
        rfl
      · rw [if_neg (by simp [e]), if_neg e]
  exact h L (fun x hx => (hw.ok x hx).2.2.1)
theorem moreJ_refs (p c : Int) (j : Nat) (f : Int) : refsN (moreJ L p c j) f = L.countP (fun x => x.file == f && (x.pid == p && decide (x.fd < (j : Int)))) := by
  unfold refsN moreJ
  rw [List.countP_map, List.countP_filter]
  rfl
theorem countP_and {P Q R : FV → Bool} (h1 : ∀ x, R x = (P x || Q x)) (h2 : ∀ x, P x = true → Q x = true → False) : ∀ L : List FV, L.countP R = L.countP P + L.countP Q
  | [] => rfl
  | x :: L => by
    have := countP_and h1 h2 L
    rw [List.countP_cons, List.countP_cons, List.countP_cons, this, h1 x]
    have hx := h2 x
    cases e1 : P x <;> cases e2 : Q x
    · simp
    · simp; omega
    · simp; omega
    · exact (hx e1 e2).elim
theorem moreJ_next (p c : Int) (j : Nat) (f : Int) : refsN (moreJ L p c (j + 1)) f = refsN (moreJ L p c j) f + L.countP (fun x => x.file == f && FV.is p j x) := by
  rw [moreJ_refs, moreJ_refs]
  refine countP_and (fun x => ?_) (fun x h1 h2 => ?_) L
  · unfold FV.is
    rw [Bool.eq_iff_iff]
    simp
    constructor
    · rintro ⟨a, b, h⟩
      by_cases e : x.fd = j
      · exact .inr ⟨a, b, e⟩
      · exact .inl ⟨a, b, by omega⟩
    · rintro (⟨a, b, h⟩ | ⟨a, b, h⟩)
      · exact ⟨a, b, by omega⟩
      · exact ⟨a, b, by omega⟩
  · simp [FV.is] at h1 h2
    omega
theorem count_one (hw : WF L n) {j : Int} (f : Int) : L.countP (fun x => x.file == f && FV.is p j x) = match look L p j with | none => 0 | some x => if x.file = f then 1 else 0 := by
  cases e : look L p j with
  | none => exact List.countP_eq_zero.2 fun x hx c => look_none.1 e x hx (is_iff.1 (by simp at c; exact c.2))
  | some x =>
    obtain ⟨A, B, rfl, hr, hA⟩ := rm_split e
    obtain ⟨-, h1, h2⟩ := look_is e
    have := hw.one p j
    rw [List.countP_append, List.countP_cons, if_pos (is_iff.2 ⟨h1, h2⟩)] at this
    have zA : A.countP (fun x => x.file == f && FV.is p j x) = 0 := List.countP_eq_zero.2 fun z hz c => (List.countP_eq_zero.1 (show A.countP (FV.is p j) = 0 by omega)) z hz (by simp at c; exact c.2)
    have zB : B.countP (fun x => x.file == f && FV.is p j x) = 0 := List.countP_eq_zero.2 fun z hz c => (List.countP_eq_zero.1 (show B.countP (FV.is p j) = 0 by omega)) z hz (by simp at c; exact c.2)
    rw [List.countP_append, List.countP_cons, zA, zB, is_iff.2 ⟨h1, h2⟩]
    by_cases c : x.file = f
    · simp [c]
    · simp [c]
theorem refs_app (A B : List FV) (f : Int) : refsN (A ++ B) f = refsN A f + refsN B f := by unfold refsN; rw [List.countP_append]
theorem moreJ_mem {c : Int} {j : Nat} {z : FV} (h : z ∈ L ++ moreJ L p c j) : ∃ y ∈ L, y.file = z.file ∧ y.kind = z.kind ∧ y.thing = z.thing := by
  rcases List.mem_append.1 h with k | k
  · exact ⟨z, k, rfl, rfl, rfl⟩
  · unfold moreJ at k
    obtain ⟨y, hy, rfl⟩ := List.mem_map.1 k
    exact ⟨y, (List.mem_filter.1 hy).1, rfl, rfl, rfl⟩
theorem fork_no (hw : WF L n) {c : Int} {j : Nat} (h : look L p j = none) (hF : RelF φ F (L ++ moreJ L p c j) n) : RelF φ F (L ++ moreJ L p c (j + 1)) n := by
  refine hF.congr (fun x hx => ?_) (fun f => ?_)
  · obtain ⟨y, hy, e⟩ := moreJ_mem hx
    exact ⟨y, List.mem_append_left _ hy, e⟩
  · rw [refs_app, refs_app, moreJ_next, count_one hw, h]
    rfl
theorem fork_yes (hw : WF L n) {c : Int} {j : Nat} (h : look L p j = some x) (hF : RelF φ F (L ++ moreJ L p c j) n) : RelF φ (more1 F (φ x.file - 1)) (L ++ moreJ L p c (j + 1)) n := by
  have hm := (look_is h).1
  refine hF.more (x := x) (List.mem_append_left _ hm) (y := x) (fun z hz => ?_) rfl (fun f => ?_)
  · obtain ⟨y, hy, e⟩ := moreJ_mem hz
    exact ⟨y, List.mem_append_left _ hy, e⟩
  · rw [refs_app, refs_app, moreJ_next, count_one hw, h]
    simp only
    omega
theorem look_more {L : List FV} {p c : Int} (hc : ∀ x ∈ L, x.pid ≠ c) (d : Int) : look (L ++ moreL L p c) c d = (look L p d).map (fun x => { x with pid := c }) := by
  rw [look_app (look_none.2 fun x hx k => hc x hx k.1)]
  unfold moreL
  have h : ∀ A : List FV, look (A.filterMap (mine9 p c)) c d = (look A p d).map (fun x => { x with pid := c }) := fun A => by
    induction A with
    | nil => rfl
    | cons x A ih =>
      unfold look at *
      rw [List.filterMap_cons]
      by_cases e : x.pid = p
      · have hm : mine9 p c x = some { x with pid := c } := by unfold mine9; rw [if_pos e]
        rw [hm]
        dsimp only
        by_cases k : x.fd = d
        · have k1 : FV.is c d { x with pid := c } = true := is_iff.2 ⟨rfl, k⟩
          have k2 : FV.is p d x = true := is_iff.2 ⟨e, k⟩
          rw [List.find?_cons_of_pos k1, List.find?_cons_of_pos k2]
          rfl
        · have k1 : ¬ FV.is c d { x with pid := c } = true := fun h => k (is_iff.1 h).2
          have k2 : ¬ FV.is p d x = true := fun h => k (is_iff.1 h).2
          rw [List.find?_cons_of_neg k1, List.find?_cons_of_neg k2, ih]
      · have hm : mine9 p c x = none := by unfold mine9; rw [if_neg e]
        rw [hm, List.find?_cons_of_neg (by rw [is_no (fun h => e h.1)]; decide)]
        exact ih
  exact h L
end
end Go.Proofs.Ytfgigofmmapbmaa
