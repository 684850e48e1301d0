/-
  No cell of these rows narrows 'for every input' (looked for: loops, veiled, ifaces, maps, wideKeys, modest, calm, conditions, laid).
  DERIVED. THE GIVEN ROWS OF THIS SEAT. 12 by the template 'for every input the law returns true; each argument reads behind the call as it read before'; 0 by the template 'total and deterministic' (their statements: YthnaipgdjbaebaaGreatTotals.lean).
  GIVEN WITH THE SEED: the statements are not yours to turn. If you find one false, say at which input.
  Laid BY PROGRAM, IN A SANDBOX (cutbox-rows.mjs): the forced cells as the released guide's own fill.sh prints them over the translation 692cdeb101beaf02… (all of the seat's roots in one cut). By AI agents, Wed Nov 11 2026. No macro, syntax, notation, axiom, sorry.
-/
import Derived.Test.YthnaipgdjbaebaaGreatChecked
import GoSem.Claim
import GoSem.ClaimJoined
import GoSem.ClaimMapViews
import Derived.JoinedTies
import Derived.KernelRfl
namespace Go.Proofs.YthnaipgdjbaebaaGreat
/- THE CELL 'sum', in the pinned program and in every row, IS THE sha256 OF THE DUMP (.gsa) THAT YthnaipgdjbaebaaGreatProg.lean LOADS. Nothing in Lean hashes anything: it is a label: what it is worth is what the hold of that sum in a sandbox is worth. -/
noncomputable def Tryz.pinned : Pinned := { name := "ythnaipgdjbaebaagreat", sum := "692cdeb101beaf021ad77a2d0b420ddf18642f489ac2e9763c15f51a929a0d72", checked := Tryz.checked }
namespace Rows
def none {H : Type} : Left H := { results := [], args := [] }

/-- 'satchellaw06.GraphNames': WHATEVER THE INPUT: true; the input reads as it did. -/
def graphNamesSpec : ChangeSpec := { name := "graphNames", fn := fun _ => fun
  | [] => { results := [.lit (.bool true)], args := [] }
  | _ => none }
def graphNamesRow : OpenClaim := { program := "ythnaipgdjbaebaagreat", sum := "692cdeb101beaf021ad77a2d0b420ddf18642f489ac2e9763c15f51a929a0d72", func := "satchel/satchellaw06.GraphNames", spec := "graphNames", unfollowed := true, recurses := true, apart := false }
def GraphNamesSaid : Prop := graphNamesRow.holds Tryz.pinned (OpenSpec.ofChange graphNamesSpec)

/-- ITS FALSE NEIGHBOUR: 'it returns false'. Refute it at one input. -/
def graphNamesWrong : ChangeSpec := { name := "graphNames", fn := fun _ => fun
  | [] => { results := [.lit (.bool false)], args := [] }
  | _ => none }
def GraphNamesWrongFalsely : Prop := graphNamesRow.holds Tryz.pinned (OpenSpec.ofChange graphNamesWrong)

/-- 'satchellaw06.GraphGood': WHATEVER THE INPUT: true; the input reads as it did. -/
def graphGoodSpec : ChangeSpec := { name := "graphGood", fn := fun _ => fun
  | [d] => { results := [.lit (.bool true)], args := [d] }
  | _ => none }
def graphGoodRow : OpenClaim := { program := "ythnaipgdjbaebaagreat", sum := "692cdeb101beaf021ad77a2d0b420ddf18642f489ac2e9763c15f51a929a0d72", func := "satchel/satchellaw06.GraphGood", spec := "graphGood", unfollowed := true, recurses := true, apart := false }
def GraphGoodSaid : Prop := graphGoodRow.holds Tryz.pinned (OpenSpec.ofChange graphGoodSpec)

/-- ITS FALSE NEIGHBOUR: 'it returns false'. Refute it at one input. -/
def graphGoodWrong : ChangeSpec := { name := "graphGood", fn := fun _ => fun
  | [d] => { results := [.lit (.bool false)], args := [d] }
  | _ => none }
def GraphGoodWrongFalsely : Prop := graphGoodRow.holds Tryz.pinned (OpenSpec.ofChange graphGoodWrong)

/-- 'satchellaw06.GraphChecks': WHATEVER THE INPUT: true; the input reads as it did. -/
def graphChecksSpec : ChangeSpec := { name := "graphChecks", fn := fun _ => fun
  | [d] => { results := [.lit (.bool true)], args := [d] }
  | _ => none }
def graphChecksRow : OpenClaim := { program := "ythnaipgdjbaebaagreat", sum := "692cdeb101beaf021ad77a2d0b420ddf18642f489ac2e9763c15f51a929a0d72", func := "satchel/satchellaw06.GraphChecks", spec := "graphChecks", unfollowed := true, recurses := true, apart := false }
def GraphChecksSaid : Prop := graphChecksRow.holds Tryz.pinned (OpenSpec.ofChange graphChecksSpec)

/-- ITS FALSE NEIGHBOUR: 'it returns false'. Refute it at one input. -/
def graphChecksWrong : ChangeSpec := { name := "graphChecks", fn := fun _ => fun
  | [d] => { results := [.lit (.bool false)], args := [d] }
  | _ => none }
def GraphChecksWrongFalsely : Prop := graphChecksRow.holds Tryz.pinned (OpenSpec.ofChange graphChecksWrong)

/-- 'satchellaw06.GraphCanons': WHATEVER THE INPUT: true; the input reads as it did. -/
def graphCanonsSpec : ChangeSpec := { name := "graphCanons", fn := fun _ => fun
  | [d] => { results := [.lit (.bool true)], args := [d] }
  | _ => none }
def graphCanonsRow : OpenClaim := { program := "ythnaipgdjbaebaagreat", sum := "692cdeb101beaf021ad77a2d0b420ddf18642f489ac2e9763c15f51a929a0d72", func := "satchel/satchellaw06.GraphCanons", spec := "graphCanons", unfollowed := true, recurses := true, apart := false }
def GraphCanonsSaid : Prop := graphCanonsRow.holds Tryz.pinned (OpenSpec.ofChange graphCanonsSpec)

/-- ITS FALSE NEIGHBOUR: 'it returns false'. Refute it at one input. -/
def graphCanonsWrong : ChangeSpec := { name := "graphCanons", fn := fun _ => fun
  | [d] => { results := [.lit (.bool false)], args := [d] }
  | _ => none }
def GraphCanonsWrongFalsely : Prop := graphCanonsRow.holds Tryz.pinned (OpenSpec.ofChange graphCanonsWrong)

/-- 'satchellaw06.GraphSettles': WHATEVER THE INPUT: true; the input reads as it did. -/
def graphSettlesSpec : ChangeSpec := { name := "graphSettles", fn := fun _ => fun
  | [d1, d2] => { results := [.lit (.bool true)], args := [d1, d2] }
  | _ => none }
def graphSettlesRow : OpenClaim := { program := "ythnaipgdjbaebaagreat", sum := "692cdeb101beaf021ad77a2d0b420ddf18642f489ac2e9763c15f51a929a0d72", func := "satchel/satchellaw06.GraphSettles", spec := "graphSettles", unfollowed := true, recurses := true, apart := false }
def GraphSettlesSaid : Prop := graphSettlesRow.holds Tryz.pinned (OpenSpec.ofChange graphSettlesSpec)

/-- ITS FALSE NEIGHBOUR: 'it returns false'. Refute it at one input. -/
def graphSettlesWrong : ChangeSpec := { name := "graphSettles", fn := fun _ => fun
  | [d1, d2] => { results := [.lit (.bool false)], args := [d1, d2] }
  | _ => none }
def GraphSettlesWrongFalsely : Prop := graphSettlesRow.holds Tryz.pinned (OpenSpec.ofChange graphSettlesWrong)

/-- 'satchellaw06.GraphSames': WHATEVER THE INPUT: true; the input reads as it did. -/
def graphSamesSpec : ChangeSpec := { name := "graphSames", fn := fun _ => fun
  | [d1, d2] => { results := [.lit (.bool true)], args := [d1, d2] }
  | _ => none }
def graphSamesRow : OpenClaim := { program := "ythnaipgdjbaebaagreat", sum := "692cdeb101beaf021ad77a2d0b420ddf18642f489ac2e9763c15f51a929a0d72", func := "satchel/satchellaw06.GraphSames", spec := "graphSames", unfollowed := true, recurses := true, apart := false }
def GraphSamesSaid : Prop := graphSamesRow.holds Tryz.pinned (OpenSpec.ofChange graphSamesSpec)

/-- ITS FALSE NEIGHBOUR: 'it returns false'. Refute it at one input. -/
def graphSamesWrong : ChangeSpec := { name := "graphSames", fn := fun _ => fun
  | [d1, d2] => { results := [.lit (.bool false)], args := [d1, d2] }
  | _ => none }
def GraphSamesWrongFalsely : Prop := graphSamesRow.holds Tryz.pinned (OpenSpec.ofChange graphSamesWrong)

/-- 'satchellaw06.GraphDegrees': WHATEVER THE INPUT: true; the input reads as it did. -/
def graphDegreesSpec : ChangeSpec := { name := "graphDegrees", fn := fun _ => fun
  | [d1, d2] => { results := [.lit (.bool true)], args := [d1, d2] }
  | _ => none }
def graphDegreesRow : OpenClaim := { program := "ythnaipgdjbaebaagreat", sum := "692cdeb101beaf021ad77a2d0b420ddf18642f489ac2e9763c15f51a929a0d72", func := "satchel/satchellaw06.GraphDegrees", spec := "graphDegrees", unfollowed := true, recurses := true, apart := false }
def GraphDegreesSaid : Prop := graphDegreesRow.holds Tryz.pinned (OpenSpec.ofChange graphDegreesSpec)

/-- ITS FALSE NEIGHBOUR: 'it returns false'. Refute it at one input. -/
def graphDegreesWrong : ChangeSpec := { name := "graphDegrees", fn := fun _ => fun
  | [d1, d2] => { results := [.lit (.bool false)], args := [d1, d2] }
  | _ => none }
def GraphDegreesWrongFalsely : Prop := graphDegreesRow.holds Tryz.pinned (OpenSpec.ofChange graphDegreesWrong)

/-- 'satchellaw06.GraphHands': WHATEVER THE INPUT: true; the input reads as it did. -/
def graphHandsSpec : ChangeSpec := { name := "graphHands", fn := fun _ => fun
  | [d] => { results := [.lit (.bool true)], args := [d] }
  | _ => none }
def graphHandsRow : OpenClaim := { program := "ythnaipgdjbaebaagreat", sum := "692cdeb101beaf021ad77a2d0b420ddf18642f489ac2e9763c15f51a929a0d72", func := "satchel/satchellaw06.GraphHands", spec := "graphHands", unfollowed := true, recurses := true, apart := false }
def GraphHandsSaid : Prop := graphHandsRow.holds Tryz.pinned (OpenSpec.ofChange graphHandsSpec)

/-- ITS FALSE NEIGHBOUR: 'it returns false'. Refute it at one input. -/
def graphHandsWrong : ChangeSpec := { name := "graphHands", fn := fun _ => fun
  | [d] => { results := [.lit (.bool false)], args := [d] }
  | _ => none }
def GraphHandsWrongFalsely : Prop := graphHandsRow.holds Tryz.pinned (OpenSpec.ofChange graphHandsWrong)

/-- 'satchellaw06.GraphLists': WHATEVER THE INPUT: true; the input reads as it did. -/
def graphListsSpec : ChangeSpec := { name := "graphLists", fn := fun _ => fun
  | [d1, d2] => { results := [.lit (.bool true)], args := [d1, d2] }
  | _ => none }
def graphListsRow : OpenClaim := { program := "ythnaipgdjbaebaagreat", sum := "692cdeb101beaf021ad77a2d0b420ddf18642f489ac2e9763c15f51a929a0d72", func := "satchel/satchellaw06.GraphLists", spec := "graphLists", unfollowed := true, recurses := true, apart := false }
def GraphListsSaid : Prop := graphListsRow.holds Tryz.pinned (OpenSpec.ofChange graphListsSpec)

/-- ITS FALSE NEIGHBOUR: 'it returns false'. Refute it at one input. -/
def graphListsWrong : ChangeSpec := { name := "graphLists", fn := fun _ => fun
  | [d1, d2] => { results := [.lit (.bool false)], args := [d1, d2] }
  | _ => none }
def GraphListsWrongFalsely : Prop := graphListsRow.holds Tryz.pinned (OpenSpec.ofChange graphListsWrong)

/-- 'satchellaw06.GraphWeights': WHATEVER THE INPUT: true; the input reads as it did. -/
def graphWeightsSpec : ChangeSpec := { name := "graphWeights", fn := fun _ => fun
  | [d] => { results := [.lit (.bool true)], args := [d] }
  | _ => none }
def graphWeightsRow : OpenClaim := { program := "ythnaipgdjbaebaagreat", sum := "692cdeb101beaf021ad77a2d0b420ddf18642f489ac2e9763c15f51a929a0d72", func := "satchel/satchellaw06.GraphWeights", spec := "graphWeights", unfollowed := true, recurses := true, apart := false }
def GraphWeightsSaid : Prop := graphWeightsRow.holds Tryz.pinned (OpenSpec.ofChange graphWeightsSpec)

/-- ITS FALSE NEIGHBOUR: 'it returns false'. Refute it at one input. -/
def graphWeightsWrong : ChangeSpec := { name := "graphWeights", fn := fun _ => fun
  | [d] => { results := [.lit (.bool false)], args := [d] }
  | _ => none }
def GraphWeightsWrongFalsely : Prop := graphWeightsRow.holds Tryz.pinned (OpenSpec.ofChange graphWeightsWrong)

/-- 'satchellaw06.GraphIncident': WHATEVER THE INPUT: true; the input reads as it did. -/
def graphIncidentSpec : ChangeSpec := { name := "graphIncident", fn := fun _ => fun
  | [d1, d2] => { results := [.lit (.bool true)], args := [d1, d2] }
  | _ => none }
def graphIncidentRow : OpenClaim := { program := "ythnaipgdjbaebaagreat", sum := "692cdeb101beaf021ad77a2d0b420ddf18642f489ac2e9763c15f51a929a0d72", func := "satchel/satchellaw06.GraphIncident", spec := "graphIncident", unfollowed := true, recurses := true, apart := false }
def GraphIncidentSaid : Prop := graphIncidentRow.holds Tryz.pinned (OpenSpec.ofChange graphIncidentSpec)

/-- ITS FALSE NEIGHBOUR: 'it returns false'. Refute it at one input. -/
def graphIncidentWrong : ChangeSpec := { name := "graphIncident", fn := fun _ => fun
  | [d1, d2] => { results := [.lit (.bool false)], args := [d1, d2] }
  | _ => none }
def GraphIncidentWrongFalsely : Prop := graphIncidentRow.holds Tryz.pinned (OpenSpec.ofChange graphIncidentWrong)

/-- 'satchellaw06.GraphOwn': WHATEVER THE INPUT: true; the input reads as it did. -/
def graphOwnSpec : ChangeSpec := { name := "graphOwn", fn := fun _ => fun
  | [d] => { results := [.lit (.bool true)], args := [d] }
  | _ => none }
def graphOwnRow : OpenClaim := { program := "ythnaipgdjbaebaagreat", sum := "692cdeb101beaf021ad77a2d0b420ddf18642f489ac2e9763c15f51a929a0d72", func := "satchel/satchellaw06.GraphOwn", spec := "graphOwn", unfollowed := true, recurses := true, apart := false }
def GraphOwnSaid : Prop := graphOwnRow.holds Tryz.pinned (OpenSpec.ofChange graphOwnSpec)

/-- ITS FALSE NEIGHBOUR: 'it returns false'. Refute it at one input. -/
def graphOwnWrong : ChangeSpec := { name := "graphOwn", fn := fun _ => fun
  | [d] => { results := [.lit (.bool false)], args := [d] }
  | _ => none }
def GraphOwnWrongFalsely : Prop := graphOwnRow.holds Tryz.pinned (OpenSpec.ofChange graphOwnWrong)

/- THE SECOND FORM. 'bulk': how many values and letters a reading holds, each counted each time it is reached (what is shared counts as often as it is met; a slice's spare places count too). A statement '..UptoSaid' is the law's where the arguments, and the package variables that the reading takes, are together of bulk at most 1048576: NARROWER than '..Said'. Prove '..Said' where nothing that the law and all that it calls make is longer than what came in: it says more and counts as full. Else prove '..UptoSaid'. A law counts once. -/
mutual
def uptoBulk {H : Type} : DataW H → Nat
  | .lit (.string bytes) => bytes.length + 1
  | .lit _ => 1
  | .nil => 1
  | .ptr d => uptoBulk d + 1
  | .slice elems spare => uptoBulkAll elems + uptoBulkAll spare + 1
  | .agg parts => uptoBulkAll parts + 1
  | .iface _ d => uptoBulk d + 1
  | .map entries => uptoBulkEntries entries + 1
  | .held _ => 1
def uptoBulkAll {H : Type} : List (DataW H) → Nat
  | [] => 0
  | d :: r => uptoBulk d + uptoBulkAll r
def uptoBulkEntries {H : Type} : List (Lit × DataW H) → Nat
  | [] => 0
  | x :: r => uptoBulkEntry x + uptoBulkEntries r
def uptoBulkEntry {H : Type} : Lit × DataW H → Nat
  | (.string bytes, d) => bytes.length + uptoBulk d + 1
  | (_, d) => uptoBulk d + 1
 end
def uptoSmall : (H : Type) → List (DataW H) → Bool := fun _ ds => decide (uptoBulkAll ds ≤ 1048576)
def OpenSpec.upto (s : _root_.Go.ChangeSpec) : _root_.Go.OpenSpec := { _root_.Go.OpenSpec.ofChange s with cond := some uptoSmall }

/-- 'satchellaw06.GraphNames', WHERE WHAT IT READS IS OF BULK AT MOST 1048576: true; the input reads as it did. -/
def graphNamesUptoRow : OpenClaim := { program := "ythnaipgdjbaebaagreat", sum := "692cdeb101beaf021ad77a2d0b420ddf18642f489ac2e9763c15f51a929a0d72", func := "satchel/satchellaw06.GraphNames", spec := "graphNames", unfollowed := true, recurses := true, apart := false, narrowed := true }
def GraphNamesUptoSaid : Prop := graphNamesUptoRow.holds Tryz.pinned (OpenSpec.upto graphNamesSpec)

/-- 'satchellaw06.GraphGood', WHERE WHAT IT READS IS OF BULK AT MOST 1048576: true; the input reads as it did. -/
def graphGoodUptoRow : OpenClaim := { program := "ythnaipgdjbaebaagreat", sum := "692cdeb101beaf021ad77a2d0b420ddf18642f489ac2e9763c15f51a929a0d72", func := "satchel/satchellaw06.GraphGood", spec := "graphGood", unfollowed := true, recurses := true, apart := false, narrowed := true }
def GraphGoodUptoSaid : Prop := graphGoodUptoRow.holds Tryz.pinned (OpenSpec.upto graphGoodSpec)

/-- 'satchellaw06.GraphChecks', WHERE WHAT IT READS IS OF BULK AT MOST 1048576: true; the input reads as it did. -/
def graphChecksUptoRow : OpenClaim := { program := "ythnaipgdjbaebaagreat", sum := "692cdeb101beaf021ad77a2d0b420ddf18642f489ac2e9763c15f51a929a0d72", func := "satchel/satchellaw06.GraphChecks", spec := "graphChecks", unfollowed := true, recurses := true, apart := false, narrowed := true }
def GraphChecksUptoSaid : Prop := graphChecksUptoRow.holds Tryz.pinned (OpenSpec.upto graphChecksSpec)

/-- 'satchellaw06.GraphCanons', WHERE WHAT IT READS IS OF BULK AT MOST 1048576: true; the input reads as it did. -/
def graphCanonsUptoRow : OpenClaim := { program := "ythnaipgdjbaebaagreat", sum := "692cdeb101beaf021ad77a2d0b420ddf18642f489ac2e9763c15f51a929a0d72", func := "satchel/satchellaw06.GraphCanons", spec := "graphCanons", unfollowed := true, recurses := true, apart := false, narrowed := true }
def GraphCanonsUptoSaid : Prop := graphCanonsUptoRow.holds Tryz.pinned (OpenSpec.upto graphCanonsSpec)

/-- 'satchellaw06.GraphSettles', WHERE WHAT IT READS IS OF BULK AT MOST 1048576: true; the input reads as it did. -/
def graphSettlesUptoRow : OpenClaim := { program := "ythnaipgdjbaebaagreat", sum := "692cdeb101beaf021ad77a2d0b420ddf18642f489ac2e9763c15f51a929a0d72", func := "satchel/satchellaw06.GraphSettles", spec := "graphSettles", unfollowed := true, recurses := true, apart := false, narrowed := true }
def GraphSettlesUptoSaid : Prop := graphSettlesUptoRow.holds Tryz.pinned (OpenSpec.upto graphSettlesSpec)

/-- 'satchellaw06.GraphSames', WHERE WHAT IT READS IS OF BULK AT MOST 1048576: true; the input reads as it did. -/
def graphSamesUptoRow : OpenClaim := { program := "ythnaipgdjbaebaagreat", sum := "692cdeb101beaf021ad77a2d0b420ddf18642f489ac2e9763c15f51a929a0d72", func := "satchel/satchellaw06.GraphSames", spec := "graphSames", unfollowed := true, recurses := true, apart := false, narrowed := true }
def GraphSamesUptoSaid : Prop := graphSamesUptoRow.holds Tryz.pinned (OpenSpec.upto graphSamesSpec)

/-- 'satchellaw06.GraphDegrees', WHERE WHAT IT READS IS OF BULK AT MOST 1048576: true; the input reads as it did. -/
def graphDegreesUptoRow : OpenClaim := { program := "ythnaipgdjbaebaagreat", sum := "692cdeb101beaf021ad77a2d0b420ddf18642f489ac2e9763c15f51a929a0d72", func := "satchel/satchellaw06.GraphDegrees", spec := "graphDegrees", unfollowed := true, recurses := true, apart := false, narrowed := true }
def GraphDegreesUptoSaid : Prop := graphDegreesUptoRow.holds Tryz.pinned (OpenSpec.upto graphDegreesSpec)

/-- 'satchellaw06.GraphHands', WHERE WHAT IT READS IS OF BULK AT MOST 1048576: true; the input reads as it did. -/
def graphHandsUptoRow : OpenClaim := { program := "ythnaipgdjbaebaagreat", sum := "692cdeb101beaf021ad77a2d0b420ddf18642f489ac2e9763c15f51a929a0d72", func := "satchel/satchellaw06.GraphHands", spec := "graphHands", unfollowed := true, recurses := true, apart := false, narrowed := true }
def GraphHandsUptoSaid : Prop := graphHandsUptoRow.holds Tryz.pinned (OpenSpec.upto graphHandsSpec)

/-- 'satchellaw06.GraphLists', WHERE WHAT IT READS IS OF BULK AT MOST 1048576: true; the input reads as it did. -/
def graphListsUptoRow : OpenClaim := { program := "ythnaipgdjbaebaagreat", sum := "692cdeb101beaf021ad77a2d0b420ddf18642f489ac2e9763c15f51a929a0d72", func := "satchel/satchellaw06.GraphLists", spec := "graphLists", unfollowed := true, recurses := true, apart := false, narrowed := true }
def GraphListsUptoSaid : Prop := graphListsUptoRow.holds Tryz.pinned (OpenSpec.upto graphListsSpec)

/-- 'satchellaw06.GraphWeights', WHERE WHAT IT READS IS OF BULK AT MOST 1048576: true; the input reads as it did. -/
def graphWeightsUptoRow : OpenClaim := { program := "ythnaipgdjbaebaagreat", sum := "692cdeb101beaf021ad77a2d0b420ddf18642f489ac2e9763c15f51a929a0d72", func := "satchel/satchellaw06.GraphWeights", spec := "graphWeights", unfollowed := true, recurses := true, apart := false, narrowed := true }
def GraphWeightsUptoSaid : Prop := graphWeightsUptoRow.holds Tryz.pinned (OpenSpec.upto graphWeightsSpec)

/-- 'satchellaw06.GraphIncident', WHERE WHAT IT READS IS OF BULK AT MOST 1048576: true; the input reads as it did. -/
def graphIncidentUptoRow : OpenClaim := { program := "ythnaipgdjbaebaagreat", sum := "692cdeb101beaf021ad77a2d0b420ddf18642f489ac2e9763c15f51a929a0d72", func := "satchel/satchellaw06.GraphIncident", spec := "graphIncident", unfollowed := true, recurses := true, apart := false, narrowed := true }
def GraphIncidentUptoSaid : Prop := graphIncidentUptoRow.holds Tryz.pinned (OpenSpec.upto graphIncidentSpec)

/-- 'satchellaw06.GraphOwn', WHERE WHAT IT READS IS OF BULK AT MOST 1048576: true; the input reads as it did. -/
def graphOwnUptoRow : OpenClaim := { program := "ythnaipgdjbaebaagreat", sum := "692cdeb101beaf021ad77a2d0b420ddf18642f489ac2e9763c15f51a929a0d72", func := "satchel/satchellaw06.GraphOwn", spec := "graphOwn", unfollowed := true, recurses := true, apart := false, narrowed := true }
def GraphOwnUptoSaid : Prop := graphOwnUptoRow.holds Tryz.pinned (OpenSpec.upto graphOwnSpec)

end Rows
end Go.Proofs.YthnaipgdjbaebaaGreat
