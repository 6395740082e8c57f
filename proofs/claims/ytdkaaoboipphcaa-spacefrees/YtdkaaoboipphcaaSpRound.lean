/- General laws of ours, over any program: a region that draws its order, in a round of a range over a function: by the plain laws of such regions. -/
import Derived.Test.YtdkaaoboipphcaaSpWork
import Derived.Test.YtdkaaoboipphcaaSpIter
import Derived.BigRegionIn
namespace Go.Proofs.Ytdkaaoboipphcaa
open Go.RowKit Go.Shelf

section
variable {P : Program} {md : Region.Mode} {ops : Array Oper} {Q : Exit → Act → World → Prop} {S : World → Prop}

theorem rows_in {l n : Nat} {row : String} {args : Array Value} {w : World} {R : Value → World → Prop} (h : Rows P row args w R) : RowsIn (Fence.wide.inRound l) n P row args w R :=
  fun c cs _ => let ⟨v, w', r, s⟩ := h c cs; ⟨v, w', r, stepsIn_wide.2 s⟩

theorem oper_in {l n : Nat} {o : Oper} {a : Act} {w : World} {K : Act → World → Prop} (hd : ∀ c, o.op ≠ .defer c) (h : o.wp P a w K Q) : o.wpIn (Fence.wide.inRound l) n P a w K Q := by
  refine ⟨fun _ _ => trivial, ?_⟩
  rw [Oper.semAt_eq _ _ _ hd]
  unfold Oper.wp at h
  revert h
  generalize (execOp a.eval o).run P w = res
  intro h
  match res, h with
  | .ok (.value _) _, h => exact h
  | .ok .skip _, h => exact h
  | .ok (.defer _) _, h => exact h
  | .ok (.enter _ _) _, h => exact ⟨(fun e => by simp [Fence.wide, Fence.inRound] at e), CallsIn.inRound l (callsIn_wide.2 h)⟩
  | .ok (.row _ _) _, h => exact ⟨(fun e => by simp [Fence.wide, Fence.inRound] at e), rows_in h⟩
  | .halt (.panic _) _, h => exact h

theorem any_in {l n : Nat} (hd : ∀ (i : Nat) (o : Oper), ops[i]? = some o → ∀ c, o.op ≠ .defer c) (hlo : ¬ LetsOut Q) : ∀ (fuel : Nat) (listed : Array Bool) (a : Act) (w : World), wpAny P md ops Q fuel listed a w → wpAnyIn (Fence.wide.inRound l) n P md ops Q fuel listed a w
  | 0, _, _, _, h => h
  | fuel + 1, listed, a, w, h => ⟨h.1, fun i hi => by
      have h2 := wpOp_mono (fun a' w' h' => any_in (l := l) (n := n) hd hlo fuel (listed.setIfInBounds i true) a' w' h') (h.2 i hi)
      unfold wpOp at h2
      unfold wpOpIn
      cases e : ops[i]? with
      | none => rw [e] at h2; exact h2
      | some o =>
        rw [e] at h2
        dsimp only at h2 ⊢
        split
        · rename_i hw
          rw [if_pos hw] at h2
          rcases h2 with h2 | h2
          · exact oper_in (hd i o e) h2
          · exact absurd h2.2 hlo
        · rename_i hw
          rw [if_neg hw] at h2
          exact ⟨fun _ _ => trivial, h2⟩⟩

def noDefer (o : Oper) : Bool := match o.op with | .defer _ => false | _ => true
theorem noDefer_all (h : ops.toList.all noDefer = true) (i : Nat) (o : Oper) (ho : ops[i]? = some o) (c : Call) : o.op ≠ .defer c := by
  intro e
  have hm : o ∈ ops.toList := List.mem_of_getElem? (i := i) (by simpa using ho)
  have := List.all_eq_true.1 h o hm
  unfold noDefer at this
  rw [e] at this
  cases this

/-- the beginning: what holds, is kept under S. -/
theorem round_region {l n id : Nat} {a : Act} {w : World} (hm : P.follows .mixedOrders = true) (hd : ops.toList.all noDefer = true) (hlo : ¬ LetsOut Q) (hS : S w.drew)
    (h : S w.drew → wpAnyH P .any ops Q S ops.size (Array.replicate ops.size false) a w.drew) : (Code.region id ops true).wpIn (Fence.wide.inRound l) n P Q a w :=
  wpIn_region_any hm (any_in (noDefer_all hd) hlo _ _ _ _ (wpAny_of_held _ _ _ _ (h hS)))

end
end Go.Proofs.Ytdkaaoboipphcaa
