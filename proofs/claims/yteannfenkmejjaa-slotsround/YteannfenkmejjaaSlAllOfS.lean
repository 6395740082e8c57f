/- Package slots, of string, landed: Works11S and New11S hold of it. -/
import Derived.Test.YteannfenkmejjaaSlCallsS
import Derived.Test.YteannfenkmejjaaSlIdsS
namespace Go.Proofs.Yteannfenkmejjaa
open Go.RowKit

def SlS (W : World) (S : Nat → Prop) (p : Nat) (L : SlT ByteArray) : Prop := MemS W p L ∧ S = fun k => k = p
theorem works11S : Works11S 0 SlS where
  keep := by
    rintro W W' S p L ⟨h, rfl⟩ _ hk
    exact ⟨h.keep (hk p (.inl rfl)), rfl⟩
  lt := by
    rintro W S p L ⟨h, rfl⟩ k hk
    rcases hk with rfl | hk
    · exact h.lt
    · omega
  ok := by
    rintro W S p L ⟨h, rfl⟩
    exact h.ok
  add := by
    rintro W S p L ⟨h, rfl⟩ v
    refine (add_S h v).mono ?_
    rintro e W' ⟨rfl, hM, hV⟩
    exact ⟨rfl, _, ⟨hM, rfl⟩, hV⟩
  get := by
    rintro W S p L ⟨h, rfl⟩ id
    exact get_S h id
  set := by
    rintro W S p L ⟨h, rfl⟩ id v
    refine (set_S h id v).mono ?_
    rintro e W' ⟨rfl, hM, hV⟩
    exact ⟨rfl, _, ⟨hM, rfl⟩, hV⟩
  rem := by
    rintro W S p L ⟨h, rfl⟩ id
    refine (rem_S h id).mono ?_
    rintro e W' ⟨rfl, hM, hV⟩
    exact ⟨rfl, _, ⟨hM, rfl⟩, hV⟩
  ids := by
    rintro W S p L ⟨h, rfl⟩
    exact ids_S h
theorem new11S (W0 : World) : New11S 0 SlS W0 := ⟨Nat.zero_le _, fun W _ => by
  refine (new_S W).mono ?_
  rintro e W' ⟨rfl, hM, hB⟩
  exact ⟨_, _, rfl, ⟨hM, rfl⟩, fun k hk => by rw [hk]; exact Nat.le_refl _, hB⟩⟩
end Go.Proofs.Yteannfenkmejjaa
