/- General, over any program: a region that draws its order, whose last operations store into cells that the first ones load: the condition on the world is kept until the first of these stores, number z, and no longer. -/
import Derived.Test.YtpfldelmbigmbaaDoorRiIn
namespace Go.Proofs.YtpfldelmbigmbaaDoor
open Go.RowKit

section
variable {P : Program} {ops : Array Oper} {Q : Exit → Act → World → Prop} {md : Region.Mode} {S : World → Prop} {z : Nat}

/-- whatever order is drawn: S holds behind each operation ahead of z; behind z nothing is asked. -/
def wpAnyZ (P : Program) (md : Region.Mode) (ops : Array Oper) (Q : Exit → Act → World → Prop) (S : World → Prop) (z : Nat) : Nat → Array Bool → Act → World → Prop
  | 0, listed, a, w => Region.ready md ops listed = [] ∧ Q .normal a w
  | fuel + 1, listed, a, w => (Region.ready md ops listed = [] → Q .normal a w) ∧
      ∀ i ∈ Region.ready md ops listed, wpOp P ops Q i (fun a' w' => (i = z ∧ wpAny P md ops Q fuel (listed.setIfInBounds i true) a' w') ∨ (i ≠ z ∧ S w' ∧ wpAnyZ P md ops Q S z fuel (listed.setIfInBounds i true) a' w')) a w

theorem wpAny_of_Z : ∀ (fuel : Nat) (listed : Array Bool) (a : Act) (w : World), wpAnyZ P md ops Q S z fuel listed a w → wpAny P md ops Q fuel listed a w
  | 0, _, _, _, h => h
  | fuel + 1, _, _, _, h => ⟨h.1, fun i hi => wpOp_mono (fun a' w' h' => h'.elim (fun x => x.2) fun x => wpAny_of_Z fuel _ a' w' x.2.2) (h.2 i hi)⟩

/-- z waits for i. -/
def waits (md : Region.Mode) (ops : Array Oper) (z i : Nat) : Bool := match ops[z]? with
  | none => true
  | some o => o.after.any fun e => Region.binds md e && e.on == i

/-- z waits for i by way of path. -/
def waitsBy (md : Region.Mode) (ops : Array Oper) (z i : Nat) (path : List Nat) : Bool := (z :: path).all fun p => p == i || path.any fun r => waits md ops p r

theorem wpAnyZ_first {i : Nat} {oi : Oper} {v : Value} (path : List Nat) (hi : ops[i]? = some oi) (hiz : i ≠ z) (hz : waitsBy md ops z i path = true) (hsel : ∀ (j : Nat) (o : Oper) cs b, ops[j]? = some o → o.op ≠ .select cs b)
    (hQ : ∀ c a w, Q (.panic c) (a.put oi.dst v) w → Q (.panic c) a w) : ∀ (fuel : Nat) (listed : Array Bool) (a : Act) (w : World),
      (∀ j oj, ops[j]? = some oj → j ≠ i → listed.getD j true = false → (∀ e ∈ oj.after, Region.binds md e = true → e.on ≠ i) → oi.apart ops oj = true) →
      (∀ r ∈ path, listed.getD r true = false) →
      i ∈ Region.ready md ops listed → YieldsIf P ops S oi v a → S w → wpAnyZ P md ops Q S z fuel (listed.setIfInBounds i true) (a.put oi.dst v) w → wpAnyZ P md ops Q S z (fuel + 1) listed a w
  | fuel, listed, a, w, hfree, hpath, hr, hy, hS, H => by
    refine ⟨fun h => (by rw [h] at hr; cases hr), fun j hj => ?_⟩
    by_cases hji : j = i
    · subst hji
      exact hy.wpOp hi hS (.inr ⟨hiz, hS, H⟩)
    match fuel, H with
    | 0, H =>
      have := ready_mono hj hji
      rw [H.1] at this
      cases this
    | fuel + 1, H =>
      obtain ⟨hun, oj, hoj, hall⟩ := mem_ready.1 hj
      have hnot : ∀ e ∈ oj.after, Region.binds md e = true → ∀ r, listed.getD r true = false → e.on ≠ r := fun e he hb r h0 heq => by
        have h1 := hall e he hb
        rw [heq] at h1
        rcases Nat.lt_or_ge r listed.size with h' | h'
        · simp [h'] at h0 h1
          rw [h0] at h1
          cases h1
        · simp [Array.getElem?_eq_none h'] at h1
      have hjp : ¬ (j = z ∨ j ∈ path) := fun c => by
        have hw := List.all_eq_true.1 hz j (by rcases c with rfl | c <;> simp [*])
        rcases Bool.or_eq_true_iff.1 hw with hw | hw
        · exact hji (by simpa using hw)
        · obtain ⟨r, hr1, hr2⟩ := List.any_eq_true.1 hw
          unfold waits at hr2
          rw [hoj] at hr2
          obtain ⟨k, hk, hb⟩ := Array.any_eq_true.1 hr2
          simp at hb
          exact hnot _ (Array.getElem_mem hk) hb.1 r (hpath r hr1) hb.2
      refine wpOp_mono (fun a' w' h3 => ?_) (wpOp_putIf hoj (hfree j oj hoj hji hun (fun e he hb => hnot e he hb i (mem_ready.1 hr).1)) (fun cs b => hsel i oi cs b hi) (fun cs b => hsel j oj cs b hoj) hQ hy (H.2 j (ready_mono hj hji)))
      obtain ⟨hy', h4⟩ := h3
      rcases h4 with h4 | ⟨_, hS', h4⟩
      · exact absurd (.inl h4.1) hjp
      · refine .inr ⟨fun e => hjp (.inl e), hS', wpAnyZ_first path hi hiz hz hsel hQ fuel (listed.setIfInBounds j true) a' w' (fun k ok hk hki hun' hno => hfree k ok hk hki ?_ hno) (fun r hr' => ?_) (ready_mono hr (Ne.symm hji)) hy' hS' ?_⟩
        · by_cases hjk : j = k
          · subst hjk; exact hun
          · rw [getD_set_ne true hjk] at hun'; exact hun'
        · rw [getD_set_ne true (fun e => hjp (.inr (by rw [e]; exact hr')))]
          exact hpath r hr'
        · rw [Array.setIfInBounds_comm _ _ hji]
          exact h4

theorem takeZ (i : Nat) (path : List Nat) (v : Value) (d : Option Nat) {fuel : Nat} {listed : Array Bool} {a : Act} {w : World} (hd : (ops[i]?).map Oper.dst = some d)
    (hz : (i != z && waitsBy md ops z i path && path.all fun r => listed.getD r true == false) = true)
    (hs : Region.noSelect ops = true) (hf : Region.free md ops listed i = true) (hr : (Region.ready md ops listed).contains i = true)
    (hQ : ∀ c a w, Q (.panic c) (a.put d v) w → Q (.panic c) a w) (hw : ∀ oi, ops[i]? = some oi → Region.wanted oi (yielded ops a.tmps) = true)
    (hy : ∀ oi, ops[i]? = some oi → ∀ w, S w → (execOp a.eval oi).run P w = .ok (.value v) w) (hS : S w)
    (h : wpAnyZ P md ops Q S z fuel (listed.setIfInBounds i true) (a.put d v) w) : wpAnyZ P md ops Q S z (fuel + 1) listed a w := by
  have hz' := hz
  rw [Bool.and_eq_true, Bool.and_eq_true, List.all_eq_true] at hz'
  obtain ⟨⟨h1, h2⟩, h3⟩ := hz'
  cases e : ops[i]? with
  | none => rw [e] at hd; cases hd
  | some oi =>
    rw [e] at hd
    obtain rfl : oi.dst = d := by simpa using hd
    exact wpAnyZ_first path e (by simpa using h1) h2 (Region.noSelect_spec hs) hQ fuel listed a w (Region.free_spec e hf) (fun r hr => by have := h3 r hr; simpa using this) (by simpa using hr) (.inl ⟨hw oi e, hy oi e⟩) hS h

/-- those that may come up, all of them ahead of z. -/
def ReadyZ (P : Program) (md : Region.Mode) (ops : Array Oper) (Q : Exit → Act → World → Prop) (S : World → Prop) (z fuel : Nat) (listed : Array Bool) (a : Act) (w : World) (rs : List Nat) : Prop :=
  ∀ i ∈ rs, wpOp P ops Q i (fun a' w' => (i = z ∧ wpAny P md ops Q fuel (listed.setIfInBounds i true) a' w') ∨ (i ≠ z ∧ S w' ∧ wpAnyZ P md ops Q S z fuel (listed.setIfInBounds i true) a' w')) a w
theorem ReadyZ.nil {fuel : Nat} {listed : Array Bool} {a : Act} {w : World} : ReadyZ P md ops Q S z fuel listed a w [] := fun _ h => by cases h
theorem ReadyZ.cons {fuel : Nat} {listed : Array Bool} {a : Act} {w : World} {i : Nat} {o : Oper} {rs : List Nat} (ho : ops[i]? = some o) (hz : i ≠ z)
    (h : ∀ K' : Act → World → Prop, Shut (∀ a w, S w → (S w → wpAnyZ P md ops Q S z fuel (listed.setIfInBounds i true) a w) → K' a w) → if Region.wanted o (yielded ops a.tmps) = true then Oper.wp P o a w K' Q else K' (a.put o.dst undef) w)
    (hs : ReadyZ P md ops Q S z fuel listed a w rs) : ReadyZ P md ops Q S z fuel listed a w (i :: rs) := fun j hj => by
  rcases List.mem_cons.1 hj with rfl | hj
  · exact wpOp_step ho (fun K' hK => h K' (fun a w hS hW => hK a w (.inr ⟨hz, hS, hW hS⟩)))
  · exact hs j hj
/-- z itself. -/
theorem ReadyZ.last {fuel : Nat} {listed : Array Bool} {a : Act} {w : World} {o : Oper} (ho : ops[z]? = some o)
    (h : ∀ K' : Act → World → Prop, Shut (∀ a w, wpAny P md ops Q fuel (listed.setIfInBounds z true) a w → K' a w) → if Region.wanted o (yielded ops a.tmps) = true then Oper.wp P o a w K' Q else K' (a.put o.dst undef) w) :
    ReadyZ P md ops Q S z fuel listed a w [z] := fun j hj => by
  obtain rfl : j = z := by simpa using hj
  exact wpOp_step ho (fun K' hK => h K' (fun a w hW => hK a w (.inl ⟨rfl, hW⟩)))
theorem wpAnyZ_ready {rs : List Nat} {fuel : Nat} {listed : Array Bool} {a : Act} {w : World} (hr : Region.ready md ops listed = rs) (hne : rs ≠ []) (h : ReadyZ P md ops Q S z fuel listed a w rs) : wpAnyZ P md ops Q S z (fuel + 1) listed a w :=
  ⟨fun h0 => absurd (hr ▸ h0) hne, hr ▸ h⟩

/-- THE BEGINNING, inside a round. -/
theorem wpIn_round_stage (z : Nat) {l n id : Nat} {a : Act} {w : World} {S : World → Prop} (hm : P.follows .mixedOrders = true) (hd : noDefer ops = true) (hS : S w.drew)
    (h : S w.drew → wpAnyZ P .any ops (Nrm Q) S z ops.size (Array.replicate ops.size false) a w.drew) : (Code.region id ops true).wpIn (Fence.wide.inRound l) n P Q a w :=
  wpIn_mono (wpIn_region_any hm (wpAny_round hd Nrm.lets _ _ _ _ (wpAny_of_Z _ _ _ _ (h hS)))) Nrm.imp
/-- .. outside one. -/
theorem wp_region_stage (z : Nat) {id : Nat} {a : Act} {w : World} {S : World → Prop} (hm : P.follows .mixedOrders = true) (hS : S w.drew)
    (h : S w.drew → wpAnyZ P .any ops (Nrm Q) S z ops.size (Array.replicate ops.size false) a w.drew) : (Code.region id ops true).wp P Q a w :=
  Code.wp_mono Nrm.imp (wp_region_any hm (wpAny_of_Z _ _ _ _ (h hS)))
theorem Nrm.intro {a : Act} {w : World} (h : Q .normal a w) : Nrm Q .normal a w := h
end
end Go.Proofs.YtpfldelmbigmbaaDoor
