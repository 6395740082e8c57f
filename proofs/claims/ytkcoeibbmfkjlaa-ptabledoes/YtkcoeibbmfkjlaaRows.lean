/-
  No cell of these rows narrows 'for every input' (looked for: loops, veiled, ifaces, maps, wideKeys, modest, calm, conditions, laid).
  DERIVED. THE GIVEN ROWS OF THIS SEAT. 6 by the template 'for every input the law returns true; each argument reads behind the call as it read before'; 0 by the template 'total and deterministic' (their statements: YtkcoeibbmfkjlaaTotals.lean).
  GIVEN WITH THE SEED: the statements are not yours to turn. If you find one false, say at which input.
  Laid BY PROGRAM, IN A SANDBOX (cutbox-rows.mjs): the forced cells as the released guide's own fill.sh prints them over the translation 11d14833ec6fc65f… (all of the seat's roots in one cut). By AI agents, Wed Nov 11 2026. No macro, syntax, notation, axiom, sorry.
-/
import Derived.Test.YtkcoeibbmfkjlaaChecked
import GoSem.Claim
import GoSem.ClaimJoined
import GoSem.ClaimMapViews
import Derived.JoinedTies
import Derived.KernelRfl
namespace Go.Proofs.Ytkcoeibbmfkjlaa
/- THE CELL 'sum', in the pinned program and in every row, IS THE sha256 OF THE DUMP (.gsa) THAT YtkcoeibbmfkjlaaProg.lean LOADS. Nothing in Lean hashes anything: it is a label: what it is worth is what the hold of that sum in a sandbox is worth. -/
noncomputable def Try.pinned : Pinned := { name := "ytkcoeibbmfkjlaa", sum := "11d14833ec6fc65f5482585f234d7d0a965aebb5aa61c43f228102b5e6906806", checked := Try.checked }
namespace Rows
def none {H : Type} : Left H := { results := [], args := [] }

/-- 'taffraillaw02.PtableDoes': WHATEVER THE INPUT: true; the input reads as it did. -/
def ptableDoesSpec : ChangeSpec := { name := "ptableDoes", fn := fun _ => fun
  | [d1, d2] => { results := [.lit (.bool true)], args := [d1, d2] }
  | _ => none }
def ptableDoesRow : OpenClaim := { program := "ytkcoeibbmfkjlaa", sum := "11d14833ec6fc65f5482585f234d7d0a965aebb5aa61c43f228102b5e6906806", func := "taffrail/taffraillaw02.PtableDoes", spec := "ptableDoes", unfollowed := true, recurses := true, apart := false }
def PtableDoesSaid : Prop := ptableDoesRow.holds Try.pinned (OpenSpec.ofChange ptableDoesSpec)

/-- ITS FALSE NEIGHBOUR: 'it returns false'. Refute it at one input. -/
def ptableDoesWrong : ChangeSpec := { name := "ptableDoes", fn := fun _ => fun
  | [d1, d2] => { results := [.lit (.bool false)], args := [d1, d2] }
  | _ => none }
def PtableDoesWrongFalsely : Prop := ptableDoesRow.holds Try.pinned (OpenSpec.ofChange ptableDoesWrong)

/-- 'taffraillaw02.PtableApart': WHATEVER THE INPUT: true; the input reads as it did. -/
def ptableApartSpec : ChangeSpec := { name := "ptableApart", fn := fun _ => fun
  | [d1, d2, d3, d4, d5] => { results := [.lit (.bool true)], args := [d1, d2, d3, d4, d5] }
  | _ => none }
def ptableApartRow : OpenClaim := { program := "ytkcoeibbmfkjlaa", sum := "11d14833ec6fc65f5482585f234d7d0a965aebb5aa61c43f228102b5e6906806", func := "taffrail/taffraillaw02.PtableApart", spec := "ptableApart", unfollowed := true, recurses := true, apart := false }
def PtableApartSaid : Prop := ptableApartRow.holds Try.pinned (OpenSpec.ofChange ptableApartSpec)

/-- ITS FALSE NEIGHBOUR: 'it returns false'. Refute it at one input. -/
def ptableApartWrong : ChangeSpec := { name := "ptableApart", fn := fun _ => fun
  | [d1, d2, d3, d4, d5] => { results := [.lit (.bool false)], args := [d1, d2, d3, d4, d5] }
  | _ => none }
def PtableApartWrongFalsely : Prop := ptableApartRow.holds Try.pinned (OpenSpec.ofChange ptableApartWrong)

/-- 'taffraillaw02.PtableEmpty': WHATEVER THE INPUT: true; the input reads as it did. -/
def ptableEmptySpec : ChangeSpec := { name := "ptableEmpty", fn := fun _ => fun
  | [d] => { results := [.lit (.bool true)], args := [d] }
  | _ => none }
def ptableEmptyRow : OpenClaim := { program := "ytkcoeibbmfkjlaa", sum := "11d14833ec6fc65f5482585f234d7d0a965aebb5aa61c43f228102b5e6906806", func := "taffrail/taffraillaw02.PtableEmpty", spec := "ptableEmpty", unfollowed := true, recurses := true, apart := false }
def PtableEmptySaid : Prop := ptableEmptyRow.holds Try.pinned (OpenSpec.ofChange ptableEmptySpec)

/-- ITS FALSE NEIGHBOUR: 'it returns false'. Refute it at one input. -/
def ptableEmptyWrong : ChangeSpec := { name := "ptableEmpty", fn := fun _ => fun
  | [d] => { results := [.lit (.bool false)], args := [d] }
  | _ => none }
def PtableEmptyWrongFalsely : Prop := ptableEmptyRow.holds Try.pinned (OpenSpec.ofChange ptableEmptyWrong)

/-- 'taffraillaw02.PtableFull': WHATEVER THE INPUT: true; the input reads as it did. -/
def ptableFullSpec : ChangeSpec := { name := "ptableFull", fn := fun _ => fun
  | [d1, d2] => { results := [.lit (.bool true)], args := [d1, d2] }
  | _ => none }
def ptableFullRow : OpenClaim := { program := "ytkcoeibbmfkjlaa", sum := "11d14833ec6fc65f5482585f234d7d0a965aebb5aa61c43f228102b5e6906806", func := "taffrail/taffraillaw02.PtableFull", spec := "ptableFull", unfollowed := true, recurses := true, apart := false }
def PtableFullSaid : Prop := ptableFullRow.holds Try.pinned (OpenSpec.ofChange ptableFullSpec)

/-- ITS FALSE NEIGHBOUR: 'it returns false'. Refute it at one input. -/
def ptableFullWrong : ChangeSpec := { name := "ptableFull", fn := fun _ => fun
  | [d1, d2] => { results := [.lit (.bool false)], args := [d1, d2] }
  | _ => none }
def PtableFullWrongFalsely : Prop := ptableFullRow.holds Try.pinned (OpenSpec.ofChange ptableFullWrong)

/-- 'taffraillaw02.PtableWrong': WHATEVER THE INPUT: true; the input reads as it did. -/
def ptableWrongSpec : ChangeSpec := { name := "ptableWrong", fn := fun _ => fun
  | [d1, d2] => { results := [.lit (.bool true)], args := [d1, d2] }
  | _ => none }
def ptableWrongRow : OpenClaim := { program := "ytkcoeibbmfkjlaa", sum := "11d14833ec6fc65f5482585f234d7d0a965aebb5aa61c43f228102b5e6906806", func := "taffrail/taffraillaw02.PtableWrong", spec := "ptableWrong", unfollowed := true, recurses := true, apart := false }
def PtableWrongSaid : Prop := ptableWrongRow.holds Try.pinned (OpenSpec.ofChange ptableWrongSpec)

/-- ITS FALSE NEIGHBOUR: 'it returns false'. Refute it at one input. -/
def ptableWrongWrong : ChangeSpec := { name := "ptableWrong", fn := fun _ => fun
  | [d1, d2] => { results := [.lit (.bool false)], args := [d1, d2] }
  | _ => none }
def PtableWrongWrongFalsely : Prop := ptableWrongRow.holds Try.pinned (OpenSpec.ofChange ptableWrongWrong)

/-- 'taffraillaw02.PtableCounts': WHATEVER THE INPUT: true; the input reads as it did. -/
def ptableCountsSpec : ChangeSpec := { name := "ptableCounts", fn := fun _ => fun
  | [d] => { results := [.lit (.bool true)], args := [d] }
  | _ => none }
def ptableCountsRow : OpenClaim := { program := "ytkcoeibbmfkjlaa", sum := "11d14833ec6fc65f5482585f234d7d0a965aebb5aa61c43f228102b5e6906806", func := "taffrail/taffraillaw02.PtableCounts", spec := "ptableCounts", unfollowed := true, recurses := true, apart := false }
def PtableCountsSaid : Prop := ptableCountsRow.holds Try.pinned (OpenSpec.ofChange ptableCountsSpec)

/-- ITS FALSE NEIGHBOUR: 'it returns false'. Refute it at one input. -/
def ptableCountsWrong : ChangeSpec := { name := "ptableCounts", fn := fun _ => fun
  | [d] => { results := [.lit (.bool false)], args := [d] }
  | _ => none }
def PtableCountsWrongFalsely : Prop := ptableCountsRow.holds Try.pinned (OpenSpec.ofChange ptableCountsWrong)

/- THE SECOND FORM. 'bulk': how many values and letters a reading holds, each counted each time it is reached (what is shared counts as often as it is met; a slice's spare places count too). A statement '..UptoSaid' is the law's where the arguments, and the package variables that the reading takes, are together of bulk at most 1048576: NARROWER than '..Said'. Prove '..Said' where nothing that the law and all that it calls make is longer than what came in: it says more and counts as full. Else prove '..UptoSaid'. A law counts once. -/
mutual
def uptoBulk {H : Type} : DataW H → Nat
  | .lit (.string bytes) => bytes.length + 1
  | .lit _ => 1
  | .nil => 1
  | .ptr d => uptoBulk d + 1
  | .slice elems spare => uptoBulkAll elems + uptoBulkAll spare + 1
  | .agg parts => uptoBulkAll parts + 1
  | .iface _ d => uptoBulk d + 1
  | .map entries => uptoBulkEntries entries + 1
  | .held _ => 1
def uptoBulkAll {H : Type} : List (DataW H) → Nat
  | [] => 0
  | d :: r => uptoBulk d + uptoBulkAll r
def uptoBulkEntries {H : Type} : List (Lit × DataW H) → Nat
  | [] => 0
  | x :: r => uptoBulkEntry x + uptoBulkEntries r
def uptoBulkEntry {H : Type} : Lit × DataW H → Nat
  | (.string bytes, d) => bytes.length + uptoBulk d + 1
  | (_, d) => uptoBulk d + 1
 end
def uptoSmall : (H : Type) → List (DataW H) → Bool := fun _ ds => decide (uptoBulkAll ds ≤ 1048576)
def OpenSpec.upto (s : _root_.Go.ChangeSpec) : _root_.Go.OpenSpec := { _root_.Go.OpenSpec.ofChange s with cond := some uptoSmall }

/-- 'taffraillaw02.PtableDoes', WHERE WHAT IT READS IS OF BULK AT MOST 1048576: true; the input reads as it did. -/
def ptableDoesUptoRow : OpenClaim := { program := "ytkcoeibbmfkjlaa", sum := "11d14833ec6fc65f5482585f234d7d0a965aebb5aa61c43f228102b5e6906806", func := "taffrail/taffraillaw02.PtableDoes", spec := "ptableDoes", unfollowed := true, recurses := true, apart := false, narrowed := true }
def PtableDoesUptoSaid : Prop := ptableDoesUptoRow.holds Try.pinned (OpenSpec.upto ptableDoesSpec)

/-- 'taffraillaw02.PtableApart', WHERE WHAT IT READS IS OF BULK AT MOST 1048576: true; the input reads as it did. -/
def ptableApartUptoRow : OpenClaim := { program := "ytkcoeibbmfkjlaa", sum := "11d14833ec6fc65f5482585f234d7d0a965aebb5aa61c43f228102b5e6906806", func := "taffrail/taffraillaw02.PtableApart", spec := "ptableApart", unfollowed := true, recurses := true, apart := false, narrowed := true }
def PtableApartUptoSaid : Prop := ptableApartUptoRow.holds Try.pinned (OpenSpec.upto ptableApartSpec)

/-- 'taffraillaw02.PtableEmpty', WHERE WHAT IT READS IS OF BULK AT MOST 1048576: true; the input reads as it did. -/
def ptableEmptyUptoRow : OpenClaim := { program := "ytkcoeibbmfkjlaa", sum := "11d14833ec6fc65f5482585f234d7d0a965aebb5aa61c43f228102b5e6906806", func := "taffrail/taffraillaw02.PtableEmpty", spec := "ptableEmpty", unfollowed := true, recurses := true, apart := false, narrowed := true }
def PtableEmptyUptoSaid : Prop := ptableEmptyUptoRow.holds Try.pinned (OpenSpec.upto ptableEmptySpec)

/-- 'taffraillaw02.PtableFull', WHERE WHAT IT READS IS OF BULK AT MOST 1048576: true; the input reads as it did. -/
def ptableFullUptoRow : OpenClaim := { program := "ytkcoeibbmfkjlaa", sum := "11d14833ec6fc65f5482585f234d7d0a965aebb5aa61c43f228102b5e6906806", func := "taffrail/taffraillaw02.PtableFull", spec := "ptableFull", unfollowed := true, recurses := true, apart := false, narrowed := true }
def PtableFullUptoSaid : Prop := ptableFullUptoRow.holds Try.pinned (OpenSpec.upto ptableFullSpec)

/-- 'taffraillaw02.PtableWrong', WHERE WHAT IT READS IS OF BULK AT MOST 1048576: true; the input reads as it did. -/
def ptableWrongUptoRow : OpenClaim := { program := "ytkcoeibbmfkjlaa", sum := "11d14833ec6fc65f5482585f234d7d0a965aebb5aa61c43f228102b5e6906806", func := "taffrail/taffraillaw02.PtableWrong", spec := "ptableWrong", unfollowed := true, recurses := true, apart := false, narrowed := true }
def PtableWrongUptoSaid : Prop := ptableWrongUptoRow.holds Try.pinned (OpenSpec.upto ptableWrongSpec)

/-- 'taffraillaw02.PtableCounts', WHERE WHAT IT READS IS OF BULK AT MOST 1048576: true; the input reads as it did. -/
def ptableCountsUptoRow : OpenClaim := { program := "ytkcoeibbmfkjlaa", sum := "11d14833ec6fc65f5482585f234d7d0a965aebb5aa61c43f228102b5e6906806", func := "taffrail/taffraillaw02.PtableCounts", spec := "ptableCounts", unfollowed := true, recurses := true, apart := false, narrowed := true }
def PtableCountsUptoSaid : Prop := ptableCountsUptoRow.holds Try.pinned (OpenSpec.upto ptableCountsSpec)

end Rows
end Go.Proofs.Ytkcoeibbmfkjlaa
