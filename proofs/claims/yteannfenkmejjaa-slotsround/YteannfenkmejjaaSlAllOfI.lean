/- Package slots, of int, landed: Works11I and New11I hold of it. -/
import Derived.Test.YteannfenkmejjaaSlCallsI
import Derived.Test.YteannfenkmejjaaSlIdsI
namespace Go.Proofs.Yteannfenkmejjaa
open Go.RowKit

def SlI (W : World) (S : Nat → Prop) (p : Nat) (L : SlT Int) : Prop := MemI W p L ∧ S = fun k => k = p
theorem works11I : Works11I 0 SlI where
  keep := by
    rintro W W' S p L ⟨h, rfl⟩ _ hk
    exact ⟨h.keep (hk p (.inl rfl)), rfl⟩
  lt := by
    rintro W S p L ⟨h, rfl⟩ k hk
    rcases hk with rfl | hk
    · exact h.lt
    · omega
  ok := by
    rintro W S p L ⟨h, rfl⟩
    exact h.ok
  add := by
    rintro W S p L ⟨h, rfl⟩ v
    refine (add_I h v).mono ?_
    rintro e W' ⟨rfl, hM, hV⟩
    exact ⟨rfl, _, ⟨hM, rfl⟩, hV⟩
  get := by
    rintro W S p L ⟨h, rfl⟩ id
    exact get_I h id
  set := by
    rintro W S p L ⟨h, rfl⟩ id v
    refine (set_I h id v).mono ?_
    rintro e W' ⟨rfl, hM, hV⟩
    exact ⟨rfl, _, ⟨hM, rfl⟩, hV⟩
  rem := by
    rintro W S p L ⟨h, rfl⟩ id
    refine (rem_I h id).mono ?_
    rintro e W' ⟨rfl, hM, hV⟩
    exact ⟨rfl, _, ⟨hM, rfl⟩, hV⟩
  ids := by
    rintro W S p L ⟨h, rfl⟩
    exact ids_I h
theorem new11I (W0 : World) : New11I 0 SlI W0 := ⟨Nat.zero_le _, fun W _ => by
  refine (new_I W).mono ?_
  rintro e W' ⟨rfl, hM, hB⟩
  exact ⟨_, _, rfl, ⟨hM, rfl⟩, fun k hk => by rw [hk]; exact Nat.le_refl _, hB⟩⟩
end Go.Proofs.Yteannfenkmejjaa
