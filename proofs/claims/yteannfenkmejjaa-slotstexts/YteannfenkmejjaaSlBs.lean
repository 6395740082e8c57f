/- Layer 11: slots of numbers and slots of texts side by side, a list of four names and a box of the law's beside them: BsX; the calls of the two. -/
import Derived.Test.YteannfenkmejjaaSlWorksI
import Derived.Test.YteannfenkmejjaaSlWorksS
import Derived.Test.YteannfenkmejjaaSlLaws
namespace Go.Proofs.Yteannfenkmejjaa
open Go.RowKit

def namesV : Array Value := #[.string ⟨#[]⟩, .string ⟨#[97]⟩, .string ⟨#[98]⟩, .string ⟨#[97, 98]⟩]
def nameF (n : Int) : ByteArray := if n = 0 then ⟨#[]⟩ else if n = 1 then ⟨#[97]⟩ else if n = 2 then ⟨#[98]⟩ else ⟨#[97, 98]⟩
theorem names_at (m : Nat) (hm : m < 4) : namesV[m]? = some (.string (nameF (m : Int))) := by
  match m, hm with
  | 0, _ => rfl
  | 1, _ => rfl
  | 2, _ => rfl
  | 3, _ => rfl
/-- all things are of the four. -/
def Four (L : SlT Int) : Prop := ∀ i x, valS L i = some x → 0 ≤ x ∧ x < 4
section
variable {L : SlT Int} {id x : Int}
theorem four_new : Four (newS Int) := fun i x h => by
  unfold valS newS at h
  rw [List.getElem?_replicate] at h
  split at h <;> cases h
theorem four_set {i : Nat} {p : Option Int × Nat} (h : Four L) (hl : L.length = 8) (hi : i < 8) (hp : ∀ x, p.1 = some x → 0 ≤ x ∧ x < 4) : Four (L.set i p) := fun j x hx => by
  rw [valS_set p (by omega)] at hx
  split at hx
  · exact hp x hx
  · exact h j x hx
theorem four_add (h : Four L) (ho : SOk L) (hx : 0 ≤ x ∧ x < 4) : Four (addL L x) := by
  unfold addL
  split
  · rename_i i e
    exact four_set h ho.len (freeS_some e).1 (fun y e => by cases e; exact hx)
  · exact h
theorem four_st (h : Four L) (ho : SOk L) (hx : 0 ≤ x ∧ x < 4) : Four (setL L id x) := by
  unfold setL
  split
  · rename_i i e
    exact four_set h ho.len (atS_some e).1 (fun y e => by cases e; exact hx)
  · exact h
theorem four_rem (h : Four L) (ho : SOk L) : Four (remL L id) := by
  unfold remL
  split
  · rename_i i e
    exact four_set h ho.len (atS_some e).1 (fun y e => by cases e)
  · exact h
theorem four_get (h : Four L) (id : Int) : 0 ≤ getV 0 L id ∧ getV 0 L id < 4 := by
  unfold getV
  split
  · rename_i i e
    cases c : valS L i with
    | none => exact ⟨by decide, by decide⟩
    | some y => exact h i y c
  · exact ⟨by decide, by decide⟩
end

/-- slots of numbers at p hold L, slots of texts at t hold M; the names lie at n, a box of the law's at b. -/
def BsX (g : Nat) (SI : World → (Nat → Prop) → Nat → SlT Int → Prop) (SS : World → (Nat → Prop) → Nat → SlT ByteArray → Prop) (W0 W : World) (p t n b : Nat) (xs : Array Value) (L : SlT Int) (M : SlT ByteArray) : Prop :=
  ∃ S T, SI W S p L ∧ SS W T t M ∧ (∀ k, S k → W0.heap.size ≤ k ∧ ¬ T k ∧ k ≠ n ∧ k ≠ b) ∧ (∀ k, T k → W0.heap.size ≤ k ∧ k ≠ n ∧ k ≠ b) ∧ g ≤ W0.heap.size ∧ Below W0.heap.size W0 W ∧ BoxA W n 9 namesV ∧ BoxA W b 32 xs
/-- the same without a box. -/
def BsP (g : Nat) (SI : World → (Nat → Prop) → Nat → SlT Int → Prop) (SS : World → (Nat → Prop) → Nat → SlT ByteArray → Prop) (W0 W : World) (p t n : Nat) (L : SlT Int) (M : SlT ByteArray) : Prop :=
  ∃ S T, SI W S p L ∧ SS W T t M ∧ (∀ k, S k → W0.heap.size ≤ k ∧ ¬ T k ∧ k ≠ n) ∧ (∀ k, T k → W0.heap.size ≤ k ∧ k ≠ n) ∧ g ≤ W0.heap.size ∧ Below W0.heap.size W0 W ∧ BoxA W n 9 namesV
/-- the slots of numbers and the names alone. -/
def Bs1 (g : Nat) (SI : World → (Nat → Prop) → Nat → SlT Int → Prop) (W0 W : World) (p n : Nat) (L : SlT Int) : Prop :=
  ∃ S, SI W S p L ∧ (∀ k, S k → W0.heap.size ≤ k ∧ k ≠ n) ∧ g ≤ W0.heap.size ∧ Below W0.heap.size W0 W ∧ BoxA W n 9 namesV
section
variable {g : Nat} {SI : World → (Nat → Prop) → Nat → SlT Int → Prop} {SS : World → (Nat → Prop) → Nat → SlT ByteArray → Prop} {W0 W W' : World} {p t n b : Nat} {xs : Array Value} {L L' : SlT Int} {M M' : SlT ByteArray} {S T : Nat → Prop}
theorem bs_newI (N : New11I g SI W0) (hB : Below W0.heap.size W0 W) (hn : BoxA W n 9 namesV) : Calls Try.prog 10 #[] W fun e W' => ∃ p, e = .returned (.pointer (some ⟨p, 0, none⟩)) ∧ Bs1 g SI W0 W' p n (newS Int) := by
  refine (N.2 W hB).mono ?_
  rintro e W' ⟨p, S, rfl, h1, h2, h3⟩
  have := hn.lt
  exact ⟨p, rfl, S, h1, fun k hk => ⟨Nat.le_trans hB.size (h2 k hk), by have := h2 k hk; omega⟩, N.1, hB.trans (h3.mono hB.size), hn.below' h3⟩
theorem bs_newS (K : Works11I g SI) (N : New11S g SS W0) (h : Bs1 g SI W0 W p n L) : Calls Try.prog 23 #[] W fun e W' => ∃ t, e = .returned (.pointer (some ⟨t, 0, none⟩)) ∧ BsP g SI SS W0 W' p t n L (newS ByteArray) := by
  obtain ⟨S, h1, h2, h3, h4, h5⟩ := h
  have hl := K.lt h1
  refine (N.2 W h4).mono ?_
  rintro e W' ⟨t, T, rfl, k1, k2, k3⟩
  have := h5.lt
  exact ⟨t, rfl, S, T, K.keep h1 k3.size (fun k hk => k3.block k (hl k hk)), k1, fun k hk => ⟨(h2 k hk).1, fun c => by have := k2 k c; have := hl k (.inl hk); omega, (h2 k hk).2⟩, fun k hk => ⟨Nat.le_trans h4.size (k2 k hk), by have := k2 k hk; omega⟩, h3, h4.trans (k3.mono h4.size), h5.below' k3⟩
theorem BsP.bel (h : BsP g SI SS W0 W p t n L M) : Below W0.heap.size W0 W := by obtain ⟨_, _, _, _, _, _, _, h, _⟩ := h; exact h
theorem BsP.ok (K : Works11I g SI) (h : BsP g SI SS W0 W p t n L M) : SOk L := by obtain ⟨_, _, h, _⟩ := h; exact K.ok h
theorem BsP.box (K : Works11I g SI) (K2 : Works11S g SS) (h : BsP g SI SS W0 W p t n L M) (xs : Array Value) : BsX g SI SS W0 (W.alloc (.cells xs 32)) p t n W.heap.size xs L M := by
  obtain ⟨S, T, h1, h2, h3, h4, h5, h6, h7⟩ := h
  have hl := K.lt h1
  have hl2 := K2.lt h2
  exact ⟨S, T, K.keep h1 (by simp) (fun k hk => Below.heap_alloc W _ k (hl k hk)), K2.keep h2 (by simp) (fun k hk => Below.heap_alloc W _ k (hl2 k hk)), fun k hk => ⟨(h3 k hk).1, (h3 k hk).2.1, (h3 k hk).2.2, Nat.ne_of_lt (hl k (.inl hk))⟩, fun k hk => ⟨(h4 k hk).1, (h4 k hk).2, Nat.ne_of_lt (hl2 k (.inl hk))⟩, h5, h6.alloc h6.size _, h7.alloc _, BoxA.new W _ _⟩
theorem BsX.un (h : BsX g SI SS W0 W p t n b xs L M) : BsP g SI SS W0 W p t n L M := by
  obtain ⟨S, T, h1, h2, h3, h4, h5, h6, h7, _⟩ := h
  exact ⟨S, T, h1, h2, fun k hk => ⟨(h3 k hk).1, (h3 k hk).2.1, (h3 k hk).2.2.1⟩, fun k hk => ⟨(h4 k hk).1, (h4 k hk).2.1⟩, h5, h6, h7⟩
theorem BsX.bx (h : BsX g SI SS W0 W p t n b xs L M) : BoxA W b 32 xs := by obtain ⟨_, _, _, _, _, _, _, _, _, h⟩ := h; exact h
theorem BsX.nm (h : BsX g SI SS W0 W p t n b xs L M) : BoxA W n 9 namesV := by obtain ⟨_, _, _, _, _, _, _, _, h, _⟩ := h; exact h
theorem BsX.ok (K : Works11I g SI) (h : BsX g SI SS W0 W p t n b xs L M) : SOk L := by obtain ⟨_, _, h, _⟩ := h; exact K.ok h
theorem BsX.below (K : Works11I g SI) (K2 : Works11S g SS) (h : BsX g SI SS W0 W p t n b xs L M) (hb : Below W.heap.size W W') : BsX g SI SS W0 W' p t n b xs L M := by
  obtain ⟨S, T, h1, h2, h3, h4, h5, h6, h7, h8⟩ := h
  exact ⟨S, T, K.keep h1 hb.size (fun k hk => hb.block k (K.lt h1 k hk)), K2.keep h2 hb.size (fun k hk => hb.block k (K2.lt h2 k hk)), h3, h4, h5, h6.trans (hb.mono h6.size), h7.below' hb, h8.below' hb⟩
theorem BsX.drew (K : Works11I g SI) (K2 : Works11S g SS) (h : BsX g SI SS W0 W p t n b xs L M) : BsX g SI SS W0 W.drew p t n b xs L M := h.below K K2 ⟨rfl, rfl, rfl, Nat.le_refl _, fun _ _ => rfl⟩
/-- a call on the numbers. -/
theorem bs_i (K2 : Works11S g SS) (h2 : SS W T t M) (h3 : ∀ k, S k → W0.heap.size ≤ k ∧ ¬ T k ∧ k ≠ n ∧ k ≠ b) (h4 : ∀ k, T k → W0.heap.size ≤ k ∧ k ≠ n ∧ k ≠ b) (h5 : g ≤ W0.heap.size) (h6 : Below W0.heap.size W0 W) (h7 : BoxA W n 9 namesV) (h8 : BoxA W b 32 xs) (hp : ∃ S', SI W' S' p L' ∧ MvS S S' W W') : BsX g SI SS W0 W' p t n b xs L' M := by
  obtain ⟨S', h', hm⟩ := hp
  have hl2 := K2.lt h2
  have b7 := h7.lt
  have b8 := h8.lt
  refine ⟨S', T, h', K2.keep h2 hm.size (fun k hk => hm.block k (hl2 k hk) (fun c => ?_)), fun k hk => ?_, h4, h5, hm.below (fun k hk => (h3 k hk).1) h6, h7.keep (hm.block n b7 (fun c => (h3 n c).2.2.1 rfl)), h8.keep (hm.block b b8 (fun c => (h3 b c).2.2.2 rfl))⟩
  · rcases hk with hk | hk
    · exact (h3 k c).2.1 hk
    · have := (h3 k c).1; omega
  · rcases hm.row k hk with c | c
    · exact h3 k c
    · exact ⟨Nat.le_trans h6.size c, fun e => by have := hl2 k (.inl e); omega, by omega, by omega⟩
/-- a call on the texts. -/
theorem bs_s (K : Works11I g SI) (h1 : SI W S p L) (h3 : ∀ k, S k → W0.heap.size ≤ k ∧ ¬ T k ∧ k ≠ n ∧ k ≠ b) (h4 : ∀ k, T k → W0.heap.size ≤ k ∧ k ≠ n ∧ k ≠ b) (h5 : g ≤ W0.heap.size) (h6 : Below W0.heap.size W0 W) (h7 : BoxA W n 9 namesV) (h8 : BoxA W b 32 xs) (hp : ∃ T', SS W' T' t M' ∧ MvS T T' W W') : BsX g SI SS W0 W' p t n b xs L M' := by
  obtain ⟨T', h', hm⟩ := hp
  have hl := K.lt h1
  have b7 := h7.lt
  have b8 := h8.lt
  refine ⟨S, T', K.keep h1 hm.size (fun k hk => hm.block k (hl k hk) (fun c => ?_)), h', fun k hk => ⟨(h3 k hk).1, fun c => ?_, (h3 k hk).2.2⟩, fun k hk => ?_, h5, hm.below (fun k hk => (h4 k hk).1) h6, h7.keep (hm.block n b7 (fun c => (h4 n c).2.1 rfl)), h8.keep (hm.block b b8 (fun c => (h4 b c).2.2 rfl))⟩
  · rcases hk with hk | hk
    · exact (h3 k hk).2.1 c
    · have := (h4 k c).1; omega
  · rcases hm.row k c with d | d
    · exact (h3 k hk).2.1 d
    · have := hl k (.inl hk); omega
  · rcases hm.row k hk with c | c
    · exact h4 k c
    · exact ⟨Nat.le_trans h6.size c, by omega, by omega⟩

theorem bi_add (K : Works11I g SI) (K2 : Works11S g SS) (h : BsX g SI SS W0 W p t n b xs L M) (v : Int) : Calls Try.prog 13 #[.pointer (some ⟨p, 0, none⟩), .int .i64 v] W fun e W' => e = .returned (.tuple #[.int .i64 (addN L), .int .i64 (addE L)]) ∧ BsX g SI SS W0 W' p t n b xs (addL L v) M := by
  obtain ⟨S, T, h1, h2, h3, h4, h5, h6, h7, h8⟩ := h
  refine (K.add h1 v).mono ?_
  rintro e W' ⟨rfl, h⟩
  exact ⟨rfl, bs_i K2 h2 h3 h4 h5 h6 h7 h8 h⟩
theorem bi_set (K : Works11I g SI) (K2 : Works11S g SS) (h : BsX g SI SS W0 W p t n b xs L M) (id v : Int) : Calls Try.prog 17 #[.pointer (some ⟨p, 0, none⟩), .int .i64 id, .int .i64 v] W fun e W' => e = .returned (.int .i64 (getE L id)) ∧ BsX g SI SS W0 W' p t n b xs (setL L id v) M := by
  obtain ⟨S, T, h1, h2, h3, h4, h5, h6, h7, h8⟩ := h
  refine (K.set h1 id v).mono ?_
  rintro e W' ⟨rfl, h⟩
  exact ⟨rfl, bs_i K2 h2 h3 h4 h5 h6 h7 h8 h⟩
theorem bi_rem (K : Works11I g SI) (K2 : Works11S g SS) (h : BsX g SI SS W0 W p t n b xs L M) (id : Int) : Calls Try.prog 19 #[.pointer (some ⟨p, 0, none⟩), .int .i64 id] W fun e W' => e = .returned (.tuple #[.int .i64 (getV 0 L id), .int .i64 (getE L id)]) ∧ BsX g SI SS W0 W' p t n b xs (remL L id) M := by
  obtain ⟨S, T, h1, h2, h3, h4, h5, h6, h7, h8⟩ := h
  refine (K.rem h1 id).mono ?_
  rintro e W' ⟨rfl, h⟩
  exact ⟨rfl, bs_i K2 h2 h3 h4 h5 h6 h7 h8 h⟩
theorem bi_get (K : Works11I g SI) (K2 : Works11S g SS) (h : BsX g SI SS W0 W p t n b xs L M) (id : Int) : Calls Try.prog 15 #[.pointer (some ⟨p, 0, none⟩), .int .i64 id] W fun e W' => e = .returned (.tuple #[.int .i64 (getV 0 L id), .int .i64 (getE L id)]) ∧ BsX g SI SS W0 W' p t n b xs L M := by
  have h' := h
  obtain ⟨S, T, h1, _⟩ := h
  refine (K.get h1 id).mono ?_
  rintro e W' ⟨rfl, hb⟩
  exact ⟨rfl, h'.below K K2 hb⟩
theorem bi_ids (K : Works11I g SI) (K2 : Works11S g SS) (h : BsX g SI SS W0 W p t n b xs L M) : Calls Try.prog 22 #[.pointer (some ⟨p, 0, none⟩)] W fun e W' => ∃ v, e = .returned v ∧ LsI W' 0 v (idsL L) ∧ BsX g SI SS W0 W' p t n b xs L M := by
  have h' := h
  obtain ⟨S, T, h1, _⟩ := h
  refine (K.ids h1).mono ?_
  rintro e W' ⟨v, rfl, hl, hb⟩
  exact ⟨v, rfl, hl.mono (Nat.zero_le _), h'.below K K2 hb⟩
theorem bp_ids (K : Works11I g SI) (h : BsP g SI SS W0 W p t n L M) : Calls Try.prog 22 #[.pointer (some ⟨p, 0, none⟩)] W fun e W' => ∃ v, e = .returned v ∧ LsI W' 0 v (idsL L) ∧ Below W.heap.size W W' := by
  obtain ⟨S, T, h1, _⟩ := h
  refine (K.ids h1).mono ?_
  rintro e W' ⟨v, rfl, hl, hb⟩
  exact ⟨v, rfl, hl.mono (Nat.zero_le _), hb⟩
theorem bp_idsS (K2 : Works11S g SS) (h : BsP g SI SS W0 W p t n L M) (hb : Below W.heap.size W W') : Calls Try.prog 28 #[.pointer (some ⟨t, 0, none⟩)] W' fun e W2 => ∃ v, e = .returned v ∧ LsI W2 0 v (idsL M) ∧ Below W'.heap.size W' W2 := by
  obtain ⟨S, T, _, h2, _⟩ := h
  have h2' := K2.keep h2 hb.size (fun k hk => hb.block k (K2.lt h2 k hk))
  refine (K2.ids h2').mono ?_
  rintro e W' ⟨v, rfl, hl, hb⟩
  exact ⟨v, rfl, hl.mono (Nat.zero_le _), hb⟩
theorem bt_add (K : Works11I g SI) (K2 : Works11S g SS) (h : BsX g SI SS W0 W p t n b xs L M) (v : ByteArray) : Calls Try.prog 24 #[.pointer (some ⟨t, 0, none⟩), .string v] W fun e W' => e = .returned (.tuple #[.int .i64 (addN M), .int .i64 (addE M)]) ∧ BsX g SI SS W0 W' p t n b xs L (addL M v) := by
  obtain ⟨S, T, h1, h2, h3, h4, h5, h6, h7, h8⟩ := h
  refine (K2.add h2 v).mono ?_
  rintro e W' ⟨rfl, h⟩
  exact ⟨rfl, bs_s K h1 h3 h4 h5 h6 h7 h8 h⟩
theorem bt_set (K : Works11I g SI) (K2 : Works11S g SS) (h : BsX g SI SS W0 W p t n b xs L M) (id : Int) (v : ByteArray) : Calls Try.prog 25 #[.pointer (some ⟨t, 0, none⟩), .int .i64 id, .string v] W fun e W' => e = .returned (.int .i64 (getE M id)) ∧ BsX g SI SS W0 W' p t n b xs L (setL M id v) := by
  obtain ⟨S, T, h1, h2, h3, h4, h5, h6, h7, h8⟩ := h
  refine (K2.set h2 id v).mono ?_
  rintro e W' ⟨rfl, h⟩
  exact ⟨rfl, bs_s K h1 h3 h4 h5 h6 h7 h8 h⟩
theorem bt_rem (K : Works11I g SI) (K2 : Works11S g SS) (h : BsX g SI SS W0 W p t n b xs L M) (id : Int) : Calls Try.prog 27 #[.pointer (some ⟨t, 0, none⟩), .int .i64 id] W fun e W' => e = .returned (.tuple #[.string (getV ⟨#[]⟩ M id), .int .i64 (getE M id)]) ∧ BsX g SI SS W0 W' p t n b xs L (remL M id) := by
  obtain ⟨S, T, h1, h2, h3, h4, h5, h6, h7, h8⟩ := h
  refine (K2.rem h2 id).mono ?_
  rintro e W' ⟨rfl, h⟩
  exact ⟨rfl, bs_s K h1 h3 h4 h5 h6 h7 h8 h⟩
theorem bt_get (K : Works11I g SI) (K2 : Works11S g SS) (h : BsX g SI SS W0 W p t n b xs L M) (id : Int) : Calls Try.prog 26 #[.pointer (some ⟨t, 0, none⟩), .int .i64 id] W fun e W' => e = .returned (.tuple #[.string (getV ⟨#[]⟩ M id), .int .i64 (getE M id)]) ∧ BsX g SI SS W0 W' p t n b xs L M := by
  have h' := h
  obtain ⟨S, T, _, h2, _⟩ := h
  refine (K2.get h2 id).mono ?_
  rintro e W' ⟨rfl, hb⟩
  exact ⟨rfl, h'.below K K2 hb⟩
end
end Go.Proofs.Yteannfenkmejjaa
