/-
  No cell of these rows narrows 'for every input' (looked for: loops, veiled, ifaces, maps, wideKeys, modest, calm, conditions, laid).
  DERIVED. THE GIVEN ROWS OF THIS SEAT. 5 by the template 'for every input the law returns true; each argument reads behind the call as it read before'; 0 by the template 'total and deterministic' (their statements: YtkpmnmgnfgfhaaaTotals.lean).
  GIVEN WITH THE SEED: the statements are not yours to turn. If you find one false, say at which input.
  Laid BY PROGRAM, IN A SANDBOX (cutbox-rows.mjs): the forced cells as the released guide's own fill.sh prints them over the translation 8a375e81b9b62c5b… (all of the seat's roots in one cut). By AI agents, Wed Nov 11 2026. No macro, syntax, notation, axiom, sorry.
-/
import Derived.Test.YtkpmnmgnfgfhaaaChecked
import GoSem.Claim
import GoSem.ClaimJoined
import GoSem.ClaimMapViews
import Derived.JoinedTies
import Derived.KernelRfl
namespace Go.Proofs.Ytkpmnmgnfgfhaaa
/- THE CELL 'sum', in the pinned program and in every row, IS THE sha256 OF THE DUMP (.gsa) THAT YtkpmnmgnfgfhaaaProg.lean LOADS. Nothing in Lean hashes anything: it is a label: what it is worth is what the hold of that sum in a sandbox is worth. -/
noncomputable def Try.pinned : Pinned := { name := "ytkpmnmgnfgfhaaa", sum := "8a375e81b9b62c5b14031c8ad0149f3165107e9a760cdf8dea54e17ab55f0900", checked := Try.checked }
namespace Rows
def none {H : Type} : Left H := { results := [], args := [] }

/-- 'satchellaw07.SpoolPlays': WHATEVER THE INPUT: true; the input reads as it did. -/
def spoolPlaysSpec : ChangeSpec := { name := "spoolPlays", fn := fun _ => fun
  | [d1, d2] => { results := [.lit (.bool true)], args := [d1, d2] }
  | _ => none }
def spoolPlaysRow : OpenClaim := { program := "ytkpmnmgnfgfhaaa", sum := "8a375e81b9b62c5b14031c8ad0149f3165107e9a760cdf8dea54e17ab55f0900", func := "satchel/satchellaw07.SpoolPlays", spec := "spoolPlays", apart := false }
def SpoolPlaysSaid : Prop := spoolPlaysRow.holds Try.pinned (OpenSpec.ofChange spoolPlaysSpec)

/-- ITS FALSE NEIGHBOUR: 'it returns false'. Refute it at one input. -/
def spoolPlaysWrong : ChangeSpec := { name := "spoolPlays", fn := fun _ => fun
  | [d1, d2] => { results := [.lit (.bool false)], args := [d1, d2] }
  | _ => none }
def SpoolPlaysWrongFalsely : Prop := spoolPlaysRow.holds Try.pinned (OpenSpec.ofChange spoolPlaysWrong)

/-- 'satchellaw07.SpoolAfter': WHATEVER THE INPUT: true; the input reads as it did. -/
def spoolAfterSpec : ChangeSpec := { name := "spoolAfter", fn := fun _ => fun
  | [d1, d2, d3] => { results := [.lit (.bool true)], args := [d1, d2, d3] }
  | _ => none }
def spoolAfterRow : OpenClaim := { program := "ytkpmnmgnfgfhaaa", sum := "8a375e81b9b62c5b14031c8ad0149f3165107e9a760cdf8dea54e17ab55f0900", func := "satchel/satchellaw07.SpoolAfter", spec := "spoolAfter", apart := false }
def SpoolAfterSaid : Prop := spoolAfterRow.holds Try.pinned (OpenSpec.ofChange spoolAfterSpec)

/-- ITS FALSE NEIGHBOUR: 'it returns false'. Refute it at one input. -/
def spoolAfterWrong : ChangeSpec := { name := "spoolAfter", fn := fun _ => fun
  | [d1, d2, d3] => { results := [.lit (.bool false)], args := [d1, d2, d3] }
  | _ => none }
def SpoolAfterWrongFalsely : Prop := spoolAfterRow.holds Try.pinned (OpenSpec.ofChange spoolAfterWrong)

/-- 'satchellaw07.SpoolEnds': WHATEVER THE INPUT: true; the input reads as it did. -/
def spoolEndsSpec : ChangeSpec := { name := "spoolEnds", fn := fun _ => fun
  | [d1, d2, d3] => { results := [.lit (.bool true)], args := [d1, d2, d3] }
  | _ => none }
def spoolEndsRow : OpenClaim := { program := "ytkpmnmgnfgfhaaa", sum := "8a375e81b9b62c5b14031c8ad0149f3165107e9a760cdf8dea54e17ab55f0900", func := "satchel/satchellaw07.SpoolEnds", spec := "spoolEnds", apart := false }
def SpoolEndsSaid : Prop := spoolEndsRow.holds Try.pinned (OpenSpec.ofChange spoolEndsSpec)

/-- ITS FALSE NEIGHBOUR: 'it returns false'. Refute it at one input. -/
def spoolEndsWrong : ChangeSpec := { name := "spoolEnds", fn := fun _ => fun
  | [d1, d2, d3] => { results := [.lit (.bool false)], args := [d1, d2, d3] }
  | _ => none }
def SpoolEndsWrongFalsely : Prop := spoolEndsRow.holds Try.pinned (OpenSpec.ofChange spoolEndsWrong)

/-- 'satchellaw07.SpoolBytes': WHATEVER THE INPUT: true; the input reads as it did. -/
def spoolBytesSpec : ChangeSpec := { name := "spoolBytes", fn := fun _ => fun
  | [d1, d2, d3] => { results := [.lit (.bool true)], args := [d1, d2, d3] }
  | _ => none }
def spoolBytesRow : OpenClaim := { program := "ytkpmnmgnfgfhaaa", sum := "8a375e81b9b62c5b14031c8ad0149f3165107e9a760cdf8dea54e17ab55f0900", func := "satchel/satchellaw07.SpoolBytes", spec := "spoolBytes", apart := false }
def SpoolBytesSaid : Prop := spoolBytesRow.holds Try.pinned (OpenSpec.ofChange spoolBytesSpec)

/-- ITS FALSE NEIGHBOUR: 'it returns false'. Refute it at one input. -/
def spoolBytesWrong : ChangeSpec := { name := "spoolBytes", fn := fun _ => fun
  | [d1, d2, d3] => { results := [.lit (.bool false)], args := [d1, d2, d3] }
  | _ => none }
def SpoolBytesWrongFalsely : Prop := spoolBytesRow.holds Try.pinned (OpenSpec.ofChange spoolBytesWrong)

/-- 'satchellaw07.SpoolOwn': WHATEVER THE INPUT: true; the input reads as it did. -/
def spoolOwnSpec : ChangeSpec := { name := "spoolOwn", fn := fun _ => fun
  | [d1, d2, d3] => { results := [.lit (.bool true)], args := [d1, d2, d3] }
  | _ => none }
def spoolOwnRow : OpenClaim := { program := "ytkpmnmgnfgfhaaa", sum := "8a375e81b9b62c5b14031c8ad0149f3165107e9a760cdf8dea54e17ab55f0900", func := "satchel/satchellaw07.SpoolOwn", spec := "spoolOwn", apart := false }
def SpoolOwnSaid : Prop := spoolOwnRow.holds Try.pinned (OpenSpec.ofChange spoolOwnSpec)

/-- ITS FALSE NEIGHBOUR: 'it returns false'. Refute it at one input. -/
def spoolOwnWrong : ChangeSpec := { name := "spoolOwn", fn := fun _ => fun
  | [d1, d2, d3] => { results := [.lit (.bool false)], args := [d1, d2, d3] }
  | _ => none }
def SpoolOwnWrongFalsely : Prop := spoolOwnRow.holds Try.pinned (OpenSpec.ofChange spoolOwnWrong)

/- THE SECOND FORM. 'bulk': how many values and letters a reading holds, each counted each time it is reached (what is shared counts as often as it is met; a slice's spare places count too). A statement '..UptoSaid' is the law's where the arguments, and the package variables that the reading takes, are together of bulk at most 1048576: NARROWER than '..Said'. Prove '..Said' where nothing that the law and all that it calls make is longer than what came in: it says more and counts as full. Else prove '..UptoSaid'. A law counts once. -/
mutual
def uptoBulk {H : Type} : DataW H → Nat
  | .lit (.string bytes) => bytes.length + 1
  | .lit _ => 1
  | .nil => 1
  | .ptr d => uptoBulk d + 1
  | .slice elems spare => uptoBulkAll elems + uptoBulkAll spare + 1
  | .agg parts => uptoBulkAll parts + 1
  | .iface _ d => uptoBulk d + 1
  | .map entries => uptoBulkEntries entries + 1
  | .held _ => 1
def uptoBulkAll {H : Type} : List (DataW H) → Nat
  | [] => 0
  | d :: r => uptoBulk d + uptoBulkAll r
def uptoBulkEntries {H : Type} : List (Lit × DataW H) → Nat
  | [] => 0
  | x :: r => uptoBulkEntry x + uptoBulkEntries r
def uptoBulkEntry {H : Type} : Lit × DataW H → Nat
  | (.string bytes, d) => bytes.length + uptoBulk d + 1
  | (_, d) => uptoBulk d + 1
 end
def uptoSmall : (H : Type) → List (DataW H) → Bool := fun _ ds => decide (uptoBulkAll ds ≤ 1048576)
def OpenSpec.upto (s : _root_.Go.ChangeSpec) : _root_.Go.OpenSpec := { _root_.Go.OpenSpec.ofChange s with cond := some uptoSmall }

/-- 'satchellaw07.SpoolPlays', WHERE WHAT IT READS IS OF BULK AT MOST 1048576: true; the input reads as it did. -/
def spoolPlaysUptoRow : OpenClaim := { program := "ytkpmnmgnfgfhaaa", sum := "8a375e81b9b62c5b14031c8ad0149f3165107e9a760cdf8dea54e17ab55f0900", func := "satchel/satchellaw07.SpoolPlays", spec := "spoolPlays", apart := false, narrowed := true }
def SpoolPlaysUptoSaid : Prop := spoolPlaysUptoRow.holds Try.pinned (OpenSpec.upto spoolPlaysSpec)

/-- 'satchellaw07.SpoolAfter', WHERE WHAT IT READS IS OF BULK AT MOST 1048576: true; the input reads as it did. -/
def spoolAfterUptoRow : OpenClaim := { program := "ytkpmnmgnfgfhaaa", sum := "8a375e81b9b62c5b14031c8ad0149f3165107e9a760cdf8dea54e17ab55f0900", func := "satchel/satchellaw07.SpoolAfter", spec := "spoolAfter", apart := false, narrowed := true }
def SpoolAfterUptoSaid : Prop := spoolAfterUptoRow.holds Try.pinned (OpenSpec.upto spoolAfterSpec)

/-- 'satchellaw07.SpoolEnds', WHERE WHAT IT READS IS OF BULK AT MOST 1048576: true; the input reads as it did. -/
def spoolEndsUptoRow : OpenClaim := { program := "ytkpmnmgnfgfhaaa", sum := "8a375e81b9b62c5b14031c8ad0149f3165107e9a760cdf8dea54e17ab55f0900", func := "satchel/satchellaw07.SpoolEnds", spec := "spoolEnds", apart := false, narrowed := true }
def SpoolEndsUptoSaid : Prop := spoolEndsUptoRow.holds Try.pinned (OpenSpec.upto spoolEndsSpec)

/-- 'satchellaw07.SpoolBytes', WHERE WHAT IT READS IS OF BULK AT MOST 1048576: true; the input reads as it did. -/
def spoolBytesUptoRow : OpenClaim := { program := "ytkpmnmgnfgfhaaa", sum := "8a375e81b9b62c5b14031c8ad0149f3165107e9a760cdf8dea54e17ab55f0900", func := "satchel/satchellaw07.SpoolBytes", spec := "spoolBytes", apart := false, narrowed := true }
def SpoolBytesUptoSaid : Prop := spoolBytesUptoRow.holds Try.pinned (OpenSpec.upto spoolBytesSpec)

/-- 'satchellaw07.SpoolOwn', WHERE WHAT IT READS IS OF BULK AT MOST 1048576: true; the input reads as it did. -/
def spoolOwnUptoRow : OpenClaim := { program := "ytkpmnmgnfgfhaaa", sum := "8a375e81b9b62c5b14031c8ad0149f3165107e9a760cdf8dea54e17ab55f0900", func := "satchel/satchellaw07.SpoolOwn", spec := "spoolOwn", apart := false, narrowed := true }
def SpoolOwnUptoSaid : Prop := spoolOwnUptoRow.holds Try.pinned (OpenSpec.upto spoolOwnSpec)

end Rows
end Go.Proofs.Ytkpmnmgnfgfhaaa
