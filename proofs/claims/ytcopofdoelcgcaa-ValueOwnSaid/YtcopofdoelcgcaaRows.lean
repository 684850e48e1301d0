/-
  No cell of these rows narrows 'for every input' (looked for: loops, veiled, ifaces, maps, wideKeys, modest, calm, conditions, laid).
  DERIVED. THE GIVEN ROWS OF THIS SEAT. 10 by the template 'for every input the law returns true; each argument reads behind the call as it read before'; 0 by the template 'total and deterministic' (their statements: YtcopofdoelcgcaaTotals.lean).
  GIVEN WITH THE SEED: the statements are not yours to turn. If you find one false, say at which input.
  Laid BY PROGRAM, IN A SANDBOX (cutbox-rows.mjs): the forced cells as the released guide's own fill.sh prints them over the translation be173f157222c5de… (all of the seat's roots in one cut). By AI agents, Wed Nov 11 2026. No macro, syntax, notation, axiom, sorry.
-/
import Derived.Test.YtcopofdoelcgcaaChecked
import GoSem.Claim
import GoSem.ClaimJoined
import GoSem.ClaimMapViews
import Derived.JoinedTies
import Derived.KernelRfl
namespace Go.Proofs.Ytcopofdoelcgcaa
/- THE CELL 'sum', in the pinned program and in every row, IS THE sha256 OF THE DUMP (.gsa) THAT YtcopofdoelcgcaaProg.lean LOADS. Nothing in Lean hashes anything: it is a label: what it is worth is what the hold of that sum in a sandbox is worth. -/
noncomputable def Try.pinned : Pinned := { name := "ytcopofdoelcgcaa", sum := "be173f157222c5de9df06a334492cd4eeb9645c013e26c964631991e1e608ad0", checked := Try.checked }
namespace Rows
def none {H : Type} : Left H := { results := [], args := [] }

/-- 'satchellaw04.ValueNames': WHATEVER THE INPUT: true; the input reads as it did. -/
def valueNamesSpec : ChangeSpec := { name := "valueNames", fn := fun _ => fun
  | [] => { results := [.lit (.bool true)], args := [] }
  | _ => none }
def valueNamesRow : OpenClaim := { program := "ytcopofdoelcgcaa", sum := "be173f157222c5de9df06a334492cd4eeb9645c013e26c964631991e1e608ad0", func := "satchel/satchellaw04.ValueNames", spec := "valueNames", apart := false }
def ValueNamesSaid : Prop := valueNamesRow.holds Try.pinned (OpenSpec.ofChange valueNamesSpec)

/-- ITS FALSE NEIGHBOUR: 'it returns false'. Refute it at one input. -/
def valueNamesWrong : ChangeSpec := { name := "valueNames", fn := fun _ => fun
  | [] => { results := [.lit (.bool false)], args := [] }
  | _ => none }
def ValueNamesWrongFalsely : Prop := valueNamesRow.holds Try.pinned (OpenSpec.ofChange valueNamesWrong)

/-- 'satchellaw04.ValueChecks': WHATEVER THE INPUT: true; the input reads as it did. -/
def valueChecksSpec : ChangeSpec := { name := "valueChecks", fn := fun _ => fun
  | [d] => { results := [.lit (.bool true)], args := [d] }
  | _ => none }
def valueChecksRow : OpenClaim := { program := "ytcopofdoelcgcaa", sum := "be173f157222c5de9df06a334492cd4eeb9645c013e26c964631991e1e608ad0", func := "satchel/satchellaw04.ValueChecks", spec := "valueChecks", apart := false }
def ValueChecksSaid : Prop := valueChecksRow.holds Try.pinned (OpenSpec.ofChange valueChecksSpec)

/-- ITS FALSE NEIGHBOUR: 'it returns false'. Refute it at one input. -/
def valueChecksWrong : ChangeSpec := { name := "valueChecks", fn := fun _ => fun
  | [d] => { results := [.lit (.bool false)], args := [d] }
  | _ => none }
def ValueChecksWrongFalsely : Prop := valueChecksRow.holds Try.pinned (OpenSpec.ofChange valueChecksWrong)

/-- 'satchellaw04.ValueSames': WHATEVER THE INPUT: true; the input reads as it did. -/
def valueSamesSpec : ChangeSpec := { name := "valueSames", fn := fun _ => fun
  | [d1, d2] => { results := [.lit (.bool true)], args := [d1, d2] }
  | _ => none }
def valueSamesRow : OpenClaim := { program := "ytcopofdoelcgcaa", sum := "be173f157222c5de9df06a334492cd4eeb9645c013e26c964631991e1e608ad0", func := "satchel/satchellaw04.ValueSames", spec := "valueSames", apart := false }
def ValueSamesSaid : Prop := valueSamesRow.holds Try.pinned (OpenSpec.ofChange valueSamesSpec)

/-- ITS FALSE NEIGHBOUR: 'it returns false'. Refute it at one input. -/
def valueSamesWrong : ChangeSpec := { name := "valueSames", fn := fun _ => fun
  | [d1, d2] => { results := [.lit (.bool false)], args := [d1, d2] }
  | _ => none }
def ValueSamesWrongFalsely : Prop := valueSamesRow.holds Try.pinned (OpenSpec.ofChange valueSamesWrong)

/-- 'satchellaw04.ValueEncodes': WHATEVER THE INPUT: true; the input reads as it did. -/
def valueEncodesSpec : ChangeSpec := { name := "valueEncodes", fn := fun _ => fun
  | [d] => { results := [.lit (.bool true)], args := [d] }
  | _ => none }
def valueEncodesRow : OpenClaim := { program := "ytcopofdoelcgcaa", sum := "be173f157222c5de9df06a334492cd4eeb9645c013e26c964631991e1e608ad0", func := "satchel/satchellaw04.ValueEncodes", spec := "valueEncodes", apart := false }
def ValueEncodesSaid : Prop := valueEncodesRow.holds Try.pinned (OpenSpec.ofChange valueEncodesSpec)

/-- ITS FALSE NEIGHBOUR: 'it returns false'. Refute it at one input. -/
def valueEncodesWrong : ChangeSpec := { name := "valueEncodes", fn := fun _ => fun
  | [d] => { results := [.lit (.bool false)], args := [d] }
  | _ => none }
def ValueEncodesWrongFalsely : Prop := valueEncodesRow.holds Try.pinned (OpenSpec.ofChange valueEncodesWrong)

/-- 'satchellaw04.ValueDecodes': WHATEVER THE INPUT: true; the input reads as it did. -/
def valueDecodesSpec : ChangeSpec := { name := "valueDecodes", fn := fun _ => fun
  | [d] => { results := [.lit (.bool true)], args := [d] }
  | _ => none }
def valueDecodesRow : OpenClaim := { program := "ytcopofdoelcgcaa", sum := "be173f157222c5de9df06a334492cd4eeb9645c013e26c964631991e1e608ad0", func := "satchel/satchellaw04.ValueDecodes", spec := "valueDecodes", apart := false }
def ValueDecodesSaid : Prop := valueDecodesRow.holds Try.pinned (OpenSpec.ofChange valueDecodesSpec)

/-- ITS FALSE NEIGHBOUR: 'it returns false'. Refute it at one input. -/
def valueDecodesWrong : ChangeSpec := { name := "valueDecodes", fn := fun _ => fun
  | [d] => { results := [.lit (.bool false)], args := [d] }
  | _ => none }
def ValueDecodesWrongFalsely : Prop := valueDecodesRow.holds Try.pinned (OpenSpec.ofChange valueDecodesWrong)

/-- 'satchellaw04.ValuePrefixes': WHATEVER THE INPUT: true; the input reads as it did. -/
def valuePrefixesSpec : ChangeSpec := { name := "valuePrefixes", fn := fun _ => fun
  | [d] => { results := [.lit (.bool true)], args := [d] }
  | _ => none }
def valuePrefixesRow : OpenClaim := { program := "ytcopofdoelcgcaa", sum := "be173f157222c5de9df06a334492cd4eeb9645c013e26c964631991e1e608ad0", func := "satchel/satchellaw04.ValuePrefixes", spec := "valuePrefixes", apart := false }
def ValuePrefixesSaid : Prop := valuePrefixesRow.holds Try.pinned (OpenSpec.ofChange valuePrefixesSpec)

/-- ITS FALSE NEIGHBOUR: 'it returns false'. Refute it at one input. -/
def valuePrefixesWrong : ChangeSpec := { name := "valuePrefixes", fn := fun _ => fun
  | [d] => { results := [.lit (.bool false)], args := [d] }
  | _ => none }
def ValuePrefixesWrongFalsely : Prop := valuePrefixesRow.holds Try.pinned (OpenSpec.ofChange valuePrefixesWrong)

/-- 'satchellaw04.ValueThere': WHATEVER THE INPUT: true; the input reads as it did. -/
def valueThereSpec : ChangeSpec := { name := "valueThere", fn := fun _ => fun
  | [d1, d2] => { results := [.lit (.bool true)], args := [d1, d2] }
  | _ => none }
def valueThereRow : OpenClaim := { program := "ytcopofdoelcgcaa", sum := "be173f157222c5de9df06a334492cd4eeb9645c013e26c964631991e1e608ad0", func := "satchel/satchellaw04.ValueThere", spec := "valueThere", apart := false }
def ValueThereSaid : Prop := valueThereRow.holds Try.pinned (OpenSpec.ofChange valueThereSpec)

/-- ITS FALSE NEIGHBOUR: 'it returns false'. Refute it at one input. -/
def valueThereWrong : ChangeSpec := { name := "valueThere", fn := fun _ => fun
  | [d1, d2] => { results := [.lit (.bool false)], args := [d1, d2] }
  | _ => none }
def ValueThereWrongFalsely : Prop := valueThereRow.holds Try.pinned (OpenSpec.ofChange valueThereWrong)

/-- 'satchellaw04.ValueBack': WHATEVER THE INPUT: true; the input reads as it did. -/
def valueBackSpec : ChangeSpec := { name := "valueBack", fn := fun _ => fun
  | [d] => { results := [.lit (.bool true)], args := [d] }
  | _ => none }
def valueBackRow : OpenClaim := { program := "ytcopofdoelcgcaa", sum := "be173f157222c5de9df06a334492cd4eeb9645c013e26c964631991e1e608ad0", func := "satchel/satchellaw04.ValueBack", spec := "valueBack", apart := false }
def ValueBackSaid : Prop := valueBackRow.holds Try.pinned (OpenSpec.ofChange valueBackSpec)

/-- ITS FALSE NEIGHBOUR: 'it returns false'. Refute it at one input. -/
def valueBackWrong : ChangeSpec := { name := "valueBack", fn := fun _ => fun
  | [d] => { results := [.lit (.bool false)], args := [d] }
  | _ => none }
def ValueBackWrongFalsely : Prop := valueBackRow.holds Try.pinned (OpenSpec.ofChange valueBackWrong)

/-- 'satchellaw04.ValueShort': WHATEVER THE INPUT: true; the input reads as it did. -/
def valueShortSpec : ChangeSpec := { name := "valueShort", fn := fun _ => fun
  | [d1, d2] => { results := [.lit (.bool true)], args := [d1, d2] }
  | _ => none }
def valueShortRow : OpenClaim := { program := "ytcopofdoelcgcaa", sum := "be173f157222c5de9df06a334492cd4eeb9645c013e26c964631991e1e608ad0", func := "satchel/satchellaw04.ValueShort", spec := "valueShort", apart := false }
def ValueShortSaid : Prop := valueShortRow.holds Try.pinned (OpenSpec.ofChange valueShortSpec)

/-- ITS FALSE NEIGHBOUR: 'it returns false'. Refute it at one input. -/
def valueShortWrong : ChangeSpec := { name := "valueShort", fn := fun _ => fun
  | [d1, d2] => { results := [.lit (.bool false)], args := [d1, d2] }
  | _ => none }
def ValueShortWrongFalsely : Prop := valueShortRow.holds Try.pinned (OpenSpec.ofChange valueShortWrong)

/-- 'satchellaw04.ValueOwn': WHATEVER THE INPUT: true; the input reads as it did. -/
def valueOwnSpec : ChangeSpec := { name := "valueOwn", fn := fun _ => fun
  | [d] => { results := [.lit (.bool true)], args := [d] }
  | _ => none }
def valueOwnRow : OpenClaim := { program := "ytcopofdoelcgcaa", sum := "be173f157222c5de9df06a334492cd4eeb9645c013e26c964631991e1e608ad0", func := "satchel/satchellaw04.ValueOwn", spec := "valueOwn", apart := false }
def ValueOwnSaid : Prop := valueOwnRow.holds Try.pinned (OpenSpec.ofChange valueOwnSpec)

/-- ITS FALSE NEIGHBOUR: 'it returns false'. Refute it at one input. -/
def valueOwnWrong : ChangeSpec := { name := "valueOwn", fn := fun _ => fun
  | [d] => { results := [.lit (.bool false)], args := [d] }
  | _ => none }
def ValueOwnWrongFalsely : Prop := valueOwnRow.holds Try.pinned (OpenSpec.ofChange valueOwnWrong)

/- THE SECOND FORM. 'bulk': how many values and letters a reading holds, each counted each time it is reached (what is shared counts as often as it is met; a slice's spare places count too). A statement '..UptoSaid' is the law's where the arguments, and the package variables that the reading takes, are together of bulk at most 1048576: NARROWER than '..Said'. Prove '..Said' where nothing that the law and all that it calls make is longer than what came in: it says more and counts as full. Else prove '..UptoSaid'. A law counts once. -/
mutual
def uptoBulk {H : Type} : DataW H → Nat
  | .lit (.string bytes) => bytes.length + 1
  | .lit _ => 1
  | .nil => 1
  | .ptr d => uptoBulk d + 1
  | .slice elems spare => uptoBulkAll elems + uptoBulkAll spare + 1
  | .agg parts => uptoBulkAll parts + 1
  | .iface _ d => uptoBulk d + 1
  | .map entries => uptoBulkEntries entries + 1
  | .held _ => 1
def uptoBulkAll {H : Type} : List (DataW H) → Nat
  | [] => 0
  | d :: r => uptoBulk d + uptoBulkAll r
def uptoBulkEntries {H : Type} : List (Lit × DataW H) → Nat
  | [] => 0
  | x :: r => uptoBulkEntry x + uptoBulkEntries r
def uptoBulkEntry {H : Type} : Lit × DataW H → Nat
  | (.string bytes, d) => bytes.length + uptoBulk d + 1
  | (_, d) => uptoBulk d + 1
 end
def uptoSmall : (H : Type) → List (DataW H) → Bool := fun _ ds => decide (uptoBulkAll ds ≤ 1048576)
def OpenSpec.upto (s : _root_.Go.ChangeSpec) : _root_.Go.OpenSpec := { _root_.Go.OpenSpec.ofChange s with cond := some uptoSmall }

/-- 'satchellaw04.ValueNames', WHERE WHAT IT READS IS OF BULK AT MOST 1048576: true; the input reads as it did. -/
def valueNamesUptoRow : OpenClaim := { program := "ytcopofdoelcgcaa", sum := "be173f157222c5de9df06a334492cd4eeb9645c013e26c964631991e1e608ad0", func := "satchel/satchellaw04.ValueNames", spec := "valueNames", apart := false, narrowed := true }
def ValueNamesUptoSaid : Prop := valueNamesUptoRow.holds Try.pinned (OpenSpec.upto valueNamesSpec)

/-- 'satchellaw04.ValueChecks', WHERE WHAT IT READS IS OF BULK AT MOST 1048576: true; the input reads as it did. -/
def valueChecksUptoRow : OpenClaim := { program := "ytcopofdoelcgcaa", sum := "be173f157222c5de9df06a334492cd4eeb9645c013e26c964631991e1e608ad0", func := "satchel/satchellaw04.ValueChecks", spec := "valueChecks", apart := false, narrowed := true }
def ValueChecksUptoSaid : Prop := valueChecksUptoRow.holds Try.pinned (OpenSpec.upto valueChecksSpec)

/-- 'satchellaw04.ValueSames', WHERE WHAT IT READS IS OF BULK AT MOST 1048576: true; the input reads as it did. -/
def valueSamesUptoRow : OpenClaim := { program := "ytcopofdoelcgcaa", sum := "be173f157222c5de9df06a334492cd4eeb9645c013e26c964631991e1e608ad0", func := "satchel/satchellaw04.ValueSames", spec := "valueSames", apart := false, narrowed := true }
def ValueSamesUptoSaid : Prop := valueSamesUptoRow.holds Try.pinned (OpenSpec.upto valueSamesSpec)

/-- 'satchellaw04.ValueEncodes', WHERE WHAT IT READS IS OF BULK AT MOST 1048576: true; the input reads as it did. -/
def valueEncodesUptoRow : OpenClaim := { program := "ytcopofdoelcgcaa", sum := "be173f157222c5de9df06a334492cd4eeb9645c013e26c964631991e1e608ad0", func := "satchel/satchellaw04.ValueEncodes", spec := "valueEncodes", apart := false, narrowed := true }
def ValueEncodesUptoSaid : Prop := valueEncodesUptoRow.holds Try.pinned (OpenSpec.upto valueEncodesSpec)

/-- 'satchellaw04.ValueDecodes', WHERE WHAT IT READS IS OF BULK AT MOST 1048576: true; the input reads as it did. -/
def valueDecodesUptoRow : OpenClaim := { program := "ytcopofdoelcgcaa", sum := "be173f157222c5de9df06a334492cd4eeb9645c013e26c964631991e1e608ad0", func := "satchel/satchellaw04.ValueDecodes", spec := "valueDecodes", apart := false, narrowed := true }
def ValueDecodesUptoSaid : Prop := valueDecodesUptoRow.holds Try.pinned (OpenSpec.upto valueDecodesSpec)

/-- 'satchellaw04.ValuePrefixes', WHERE WHAT IT READS IS OF BULK AT MOST 1048576: true; the input reads as it did. -/
def valuePrefixesUptoRow : OpenClaim := { program := "ytcopofdoelcgcaa", sum := "be173f157222c5de9df06a334492cd4eeb9645c013e26c964631991e1e608ad0", func := "satchel/satchellaw04.ValuePrefixes", spec := "valuePrefixes", apart := false, narrowed := true }
def ValuePrefixesUptoSaid : Prop := valuePrefixesUptoRow.holds Try.pinned (OpenSpec.upto valuePrefixesSpec)

/-- 'satchellaw04.ValueThere', WHERE WHAT IT READS IS OF BULK AT MOST 1048576: true; the input reads as it did. -/
def valueThereUptoRow : OpenClaim := { program := "ytcopofdoelcgcaa", sum := "be173f157222c5de9df06a334492cd4eeb9645c013e26c964631991e1e608ad0", func := "satchel/satchellaw04.ValueThere", spec := "valueThere", apart := false, narrowed := true }
def ValueThereUptoSaid : Prop := valueThereUptoRow.holds Try.pinned (OpenSpec.upto valueThereSpec)

/-- 'satchellaw04.ValueBack', WHERE WHAT IT READS IS OF BULK AT MOST 1048576: true; the input reads as it did. -/
def valueBackUptoRow : OpenClaim := { program := "ytcopofdoelcgcaa", sum := "be173f157222c5de9df06a334492cd4eeb9645c013e26c964631991e1e608ad0", func := "satchel/satchellaw04.ValueBack", spec := "valueBack", apart := false, narrowed := true }
def ValueBackUptoSaid : Prop := valueBackUptoRow.holds Try.pinned (OpenSpec.upto valueBackSpec)

/-- 'satchellaw04.ValueShort', WHERE WHAT IT READS IS OF BULK AT MOST 1048576: true; the input reads as it did. -/
def valueShortUptoRow : OpenClaim := { program := "ytcopofdoelcgcaa", sum := "be173f157222c5de9df06a334492cd4eeb9645c013e26c964631991e1e608ad0", func := "satchel/satchellaw04.ValueShort", spec := "valueShort", apart := false, narrowed := true }
def ValueShortUptoSaid : Prop := valueShortUptoRow.holds Try.pinned (OpenSpec.upto valueShortSpec)

/-- 'satchellaw04.ValueOwn', WHERE WHAT IT READS IS OF BULK AT MOST 1048576: true; the input reads as it did. -/
def valueOwnUptoRow : OpenClaim := { program := "ytcopofdoelcgcaa", sum := "be173f157222c5de9df06a334492cd4eeb9645c013e26c964631991e1e608ad0", func := "satchel/satchellaw04.ValueOwn", spec := "valueOwn", apart := false, narrowed := true }
def ValueOwnUptoSaid : Prop := valueOwnUptoRow.holds Try.pinned (OpenSpec.upto valueOwnSpec)

end Rows
end Go.Proofs.Ytcopofdoelcgcaa
