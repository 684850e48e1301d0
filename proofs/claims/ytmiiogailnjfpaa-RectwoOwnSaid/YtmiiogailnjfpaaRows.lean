/-
  No cell of these rows narrows 'for every input' (looked for: loops, veiled, ifaces, maps, wideKeys, modest, calm, conditions, laid).
  DERIVED. THE GIVEN ROWS OF THIS SEAT. 8 by the template 'for every input the law returns true; each argument reads behind the call as it read before'; 0 by the template 'total and deterministic' (their statements: YtmiiogailnjfpaaTotals.lean).
  GIVEN WITH THE SEED: the statements are not yours to turn. If you find one false, say at which input.
  Laid BY PROGRAM, IN A SANDBOX (cutbox-rows.mjs): the forced cells as the released guide's own fill.sh prints them over the translation 055c4fe93bf6c956… (all of the seat's roots in one cut). By AI agents, Wed Nov 11 2026. No macro, syntax, notation, axiom, sorry.
-/
import Derived.Test.YtmiiogailnjfpaaChecked
import GoSem.Claim
import GoSem.ClaimJoined
import GoSem.ClaimMapViews
import Derived.JoinedTies
import Derived.KernelRfl
namespace Go.Proofs.Ytmiiogailnjfpaa
/- THE CELL 'sum', in the pinned program and in every row, IS THE sha256 OF THE DUMP (.gsa) THAT YtmiiogailnjfpaaProg.lean LOADS. Nothing in Lean hashes anything: it is a label: what it is worth is what the hold of that sum in a sandbox is worth. -/
noncomputable def Try.pinned : Pinned := { name := "ytmiiogailnjfpaa", sum := "055c4fe93bf6c956bc6897f43dcfb60e41dfffdeb52dabda80e68ea20aa8ffa7", checked := Try.checked }
namespace Rows
def none {H : Type} : Left H := { results := [], args := [] }

/-- 'satchellaw15.RectwoNames': WHATEVER THE INPUT: true; the input reads as it did. -/
def rectwoNamesSpec : ChangeSpec := { name := "rectwoNames", fn := fun _ => fun
  | [] => { results := [.lit (.bool true)], args := [] }
  | _ => none }
def rectwoNamesRow : OpenClaim := { program := "ytmiiogailnjfpaa", sum := "055c4fe93bf6c956bc6897f43dcfb60e41dfffdeb52dabda80e68ea20aa8ffa7", func := "satchel/satchellaw15.RectwoNames", spec := "rectwoNames", unfollowed := true, recurses := true, apart := false }
def RectwoNamesSaid : Prop := rectwoNamesRow.holds Try.pinned (OpenSpec.ofChange rectwoNamesSpec)

/-- ITS FALSE NEIGHBOUR: 'it returns false'. Refute it at one input. -/
def rectwoNamesWrong : ChangeSpec := { name := "rectwoNames", fn := fun _ => fun
  | [] => { results := [.lit (.bool false)], args := [] }
  | _ => none }
def RectwoNamesWrongFalsely : Prop := rectwoNamesRow.holds Try.pinned (OpenSpec.ofChange rectwoNamesWrong)

/-- 'satchellaw15.RectwoNodes': WHATEVER THE INPUT: true; the input reads as it did. -/
def rectwoNodesSpec : ChangeSpec := { name := "rectwoNodes", fn := fun _ => fun
  | [d] => { results := [.lit (.bool true)], args := [d] }
  | _ => none }
def rectwoNodesRow : OpenClaim := { program := "ytmiiogailnjfpaa", sum := "055c4fe93bf6c956bc6897f43dcfb60e41dfffdeb52dabda80e68ea20aa8ffa7", func := "satchel/satchellaw15.RectwoNodes", spec := "rectwoNodes", unfollowed := true, recurses := true, apart := false }
def RectwoNodesSaid : Prop := rectwoNodesRow.holds Try.pinned (OpenSpec.ofChange rectwoNodesSpec)

/-- ITS FALSE NEIGHBOUR: 'it returns false'. Refute it at one input. -/
def rectwoNodesWrong : ChangeSpec := { name := "rectwoNodes", fn := fun _ => fun
  | [d] => { results := [.lit (.bool false)], args := [d] }
  | _ => none }
def RectwoNodesWrongFalsely : Prop := rectwoNodesRow.holds Try.pinned (OpenSpec.ofChange rectwoNodesWrong)

/-- 'satchellaw15.RectwoNodeBytes': WHATEVER THE INPUT: true; the input reads as it did. -/
def rectwoNodeBytesSpec : ChangeSpec := { name := "rectwoNodeBytes", fn := fun _ => fun
  | [d] => { results := [.lit (.bool true)], args := [d] }
  | _ => none }
def rectwoNodeBytesRow : OpenClaim := { program := "ytmiiogailnjfpaa", sum := "055c4fe93bf6c956bc6897f43dcfb60e41dfffdeb52dabda80e68ea20aa8ffa7", func := "satchel/satchellaw15.RectwoNodeBytes", spec := "rectwoNodeBytes", unfollowed := true, recurses := true, apart := false }
def RectwoNodeBytesSaid : Prop := rectwoNodeBytesRow.holds Try.pinned (OpenSpec.ofChange rectwoNodeBytesSpec)

/-- ITS FALSE NEIGHBOUR: 'it returns false'. Refute it at one input. -/
def rectwoNodeBytesWrong : ChangeSpec := { name := "rectwoNodeBytes", fn := fun _ => fun
  | [d] => { results := [.lit (.bool false)], args := [d] }
  | _ => none }
def RectwoNodeBytesWrongFalsely : Prop := rectwoNodeBytesRow.holds Try.pinned (OpenSpec.ofChange rectwoNodeBytesWrong)

/-- 'satchellaw15.RectwoRels': WHATEVER THE INPUT: true; the input reads as it did. -/
def rectwoRelsSpec : ChangeSpec := { name := "rectwoRels", fn := fun _ => fun
  | [d] => { results := [.lit (.bool true)], args := [d] }
  | _ => none }
def rectwoRelsRow : OpenClaim := { program := "ytmiiogailnjfpaa", sum := "055c4fe93bf6c956bc6897f43dcfb60e41dfffdeb52dabda80e68ea20aa8ffa7", func := "satchel/satchellaw15.RectwoRels", spec := "rectwoRels", unfollowed := true, recurses := true, apart := false }
def RectwoRelsSaid : Prop := rectwoRelsRow.holds Try.pinned (OpenSpec.ofChange rectwoRelsSpec)

/-- ITS FALSE NEIGHBOUR: 'it returns false'. Refute it at one input. -/
def rectwoRelsWrong : ChangeSpec := { name := "rectwoRels", fn := fun _ => fun
  | [d] => { results := [.lit (.bool false)], args := [d] }
  | _ => none }
def RectwoRelsWrongFalsely : Prop := rectwoRelsRow.holds Try.pinned (OpenSpec.ofChange rectwoRelsWrong)

/-- 'satchellaw15.RectwoRelBytes': WHATEVER THE INPUT: true; the input reads as it did. -/
def rectwoRelBytesSpec : ChangeSpec := { name := "rectwoRelBytes", fn := fun _ => fun
  | [d] => { results := [.lit (.bool true)], args := [d] }
  | _ => none }
def rectwoRelBytesRow : OpenClaim := { program := "ytmiiogailnjfpaa", sum := "055c4fe93bf6c956bc6897f43dcfb60e41dfffdeb52dabda80e68ea20aa8ffa7", func := "satchel/satchellaw15.RectwoRelBytes", spec := "rectwoRelBytes", unfollowed := true, recurses := true, apart := false }
def RectwoRelBytesSaid : Prop := rectwoRelBytesRow.holds Try.pinned (OpenSpec.ofChange rectwoRelBytesSpec)

/-- ITS FALSE NEIGHBOUR: 'it returns false'. Refute it at one input. -/
def rectwoRelBytesWrong : ChangeSpec := { name := "rectwoRelBytes", fn := fun _ => fun
  | [d] => { results := [.lit (.bool false)], args := [d] }
  | _ => none }
def RectwoRelBytesWrongFalsely : Prop := rectwoRelBytesRow.holds Try.pinned (OpenSpec.ofChange rectwoRelBytesWrong)

/-- 'satchellaw15.RectwoGroups': WHATEVER THE INPUT: true; the input reads as it did. -/
def rectwoGroupsSpec : ChangeSpec := { name := "rectwoGroups", fn := fun _ => fun
  | [d] => { results := [.lit (.bool true)], args := [d] }
  | _ => none }
def rectwoGroupsRow : OpenClaim := { program := "ytmiiogailnjfpaa", sum := "055c4fe93bf6c956bc6897f43dcfb60e41dfffdeb52dabda80e68ea20aa8ffa7", func := "satchel/satchellaw15.RectwoGroups", spec := "rectwoGroups", unfollowed := true, recurses := true, apart := false }
def RectwoGroupsSaid : Prop := rectwoGroupsRow.holds Try.pinned (OpenSpec.ofChange rectwoGroupsSpec)

/-- ITS FALSE NEIGHBOUR: 'it returns false'. Refute it at one input. -/
def rectwoGroupsWrong : ChangeSpec := { name := "rectwoGroups", fn := fun _ => fun
  | [d] => { results := [.lit (.bool false)], args := [d] }
  | _ => none }
def RectwoGroupsWrongFalsely : Prop := rectwoGroupsRow.holds Try.pinned (OpenSpec.ofChange rectwoGroupsWrong)

/-- 'satchellaw15.RectwoGroupBytes': WHATEVER THE INPUT: true; the input reads as it did. -/
def rectwoGroupBytesSpec : ChangeSpec := { name := "rectwoGroupBytes", fn := fun _ => fun
  | [d] => { results := [.lit (.bool true)], args := [d] }
  | _ => none }
def rectwoGroupBytesRow : OpenClaim := { program := "ytmiiogailnjfpaa", sum := "055c4fe93bf6c956bc6897f43dcfb60e41dfffdeb52dabda80e68ea20aa8ffa7", func := "satchel/satchellaw15.RectwoGroupBytes", spec := "rectwoGroupBytes", unfollowed := true, recurses := true, apart := false }
def RectwoGroupBytesSaid : Prop := rectwoGroupBytesRow.holds Try.pinned (OpenSpec.ofChange rectwoGroupBytesSpec)

/-- ITS FALSE NEIGHBOUR: 'it returns false'. Refute it at one input. -/
def rectwoGroupBytesWrong : ChangeSpec := { name := "rectwoGroupBytes", fn := fun _ => fun
  | [d] => { results := [.lit (.bool false)], args := [d] }
  | _ => none }
def RectwoGroupBytesWrongFalsely : Prop := rectwoGroupBytesRow.holds Try.pinned (OpenSpec.ofChange rectwoGroupBytesWrong)

/-- 'satchellaw15.RectwoOwn': WHATEVER THE INPUT: true; the input reads as it did. -/
def rectwoOwnSpec : ChangeSpec := { name := "rectwoOwn", fn := fun _ => fun
  | [d1, d2] => { results := [.lit (.bool true)], args := [d1, d2] }
  | _ => none }
def rectwoOwnRow : OpenClaim := { program := "ytmiiogailnjfpaa", sum := "055c4fe93bf6c956bc6897f43dcfb60e41dfffdeb52dabda80e68ea20aa8ffa7", func := "satchel/satchellaw15.RectwoOwn", spec := "rectwoOwn", unfollowed := true, recurses := true, apart := false }
def RectwoOwnSaid : Prop := rectwoOwnRow.holds Try.pinned (OpenSpec.ofChange rectwoOwnSpec)

/-- ITS FALSE NEIGHBOUR: 'it returns false'. Refute it at one input. -/
def rectwoOwnWrong : ChangeSpec := { name := "rectwoOwn", fn := fun _ => fun
  | [d1, d2] => { results := [.lit (.bool false)], args := [d1, d2] }
  | _ => none }
def RectwoOwnWrongFalsely : Prop := rectwoOwnRow.holds Try.pinned (OpenSpec.ofChange rectwoOwnWrong)

/- THE SECOND FORM. 'bulk': how many values and letters a reading holds, each counted each time it is reached (what is shared counts as often as it is met; a slice's spare places count too). A statement '..UptoSaid' is the law's where the arguments, and the package variables that the reading takes, are together of bulk at most 1048576: NARROWER than '..Said'. Prove '..Said' where nothing that the law and all that it calls make is longer than what came in: it says more and counts as full. Else prove '..UptoSaid'. A law counts once. -/
mutual
def uptoBulk {H : Type} : DataW H → Nat
  | .lit (.string bytes) => bytes.length + 1
  | .lit _ => 1
  | .nil => 1
  | .ptr d => uptoBulk d + 1
  | .slice elems spare => uptoBulkAll elems + uptoBulkAll spare + 1
  | .agg parts => uptoBulkAll parts + 1
  | .iface _ d => uptoBulk d + 1
  | .map entries => uptoBulkEntries entries + 1
  | .held _ => 1
def uptoBulkAll {H : Type} : List (DataW H) → Nat
  | [] => 0
  | d :: r => uptoBulk d + uptoBulkAll r
def uptoBulkEntries {H : Type} : List (Lit × DataW H) → Nat
  | [] => 0
  | x :: r => uptoBulkEntry x + uptoBulkEntries r
def uptoBulkEntry {H : Type} : Lit × DataW H → Nat
  | (.string bytes, d) => bytes.length + uptoBulk d + 1
  | (_, d) => uptoBulk d + 1
 end
def uptoSmall : (H : Type) → List (DataW H) → Bool := fun _ ds => decide (uptoBulkAll ds ≤ 1048576)
def OpenSpec.upto (s : _root_.Go.ChangeSpec) : _root_.Go.OpenSpec := { _root_.Go.OpenSpec.ofChange s with cond := some uptoSmall }

/-- 'satchellaw15.RectwoNames', WHERE WHAT IT READS IS OF BULK AT MOST 1048576: true; the input reads as it did. -/
def rectwoNamesUptoRow : OpenClaim := { program := "ytmiiogailnjfpaa", sum := "055c4fe93bf6c956bc6897f43dcfb60e41dfffdeb52dabda80e68ea20aa8ffa7", func := "satchel/satchellaw15.RectwoNames", spec := "rectwoNames", unfollowed := true, recurses := true, apart := false, narrowed := true }
def RectwoNamesUptoSaid : Prop := rectwoNamesUptoRow.holds Try.pinned (OpenSpec.upto rectwoNamesSpec)

/-- 'satchellaw15.RectwoNodes', WHERE WHAT IT READS IS OF BULK AT MOST 1048576: true; the input reads as it did. -/
def rectwoNodesUptoRow : OpenClaim := { program := "ytmiiogailnjfpaa", sum := "055c4fe93bf6c956bc6897f43dcfb60e41dfffdeb52dabda80e68ea20aa8ffa7", func := "satchel/satchellaw15.RectwoNodes", spec := "rectwoNodes", unfollowed := true, recurses := true, apart := false, narrowed := true }
def RectwoNodesUptoSaid : Prop := rectwoNodesUptoRow.holds Try.pinned (OpenSpec.upto rectwoNodesSpec)

/-- 'satchellaw15.RectwoNodeBytes', WHERE WHAT IT READS IS OF BULK AT MOST 1048576: true; the input reads as it did. -/
def rectwoNodeBytesUptoRow : OpenClaim := { program := "ytmiiogailnjfpaa", sum := "055c4fe93bf6c956bc6897f43dcfb60e41dfffdeb52dabda80e68ea20aa8ffa7", func := "satchel/satchellaw15.RectwoNodeBytes", spec := "rectwoNodeBytes", unfollowed := true, recurses := true, apart := false, narrowed := true }
def RectwoNodeBytesUptoSaid : Prop := rectwoNodeBytesUptoRow.holds Try.pinned (OpenSpec.upto rectwoNodeBytesSpec)

/-- 'satchellaw15.RectwoRels', WHERE WHAT IT READS IS OF BULK AT MOST 1048576: true; the input reads as it did. -/
def rectwoRelsUptoRow : OpenClaim := { program := "ytmiiogailnjfpaa", sum := "055c4fe93bf6c956bc6897f43dcfb60e41dfffdeb52dabda80e68ea20aa8ffa7", func := "satchel/satchellaw15.RectwoRels", spec := "rectwoRels", unfollowed := true, recurses := true, apart := false, narrowed := true }
def RectwoRelsUptoSaid : Prop := rectwoRelsUptoRow.holds Try.pinned (OpenSpec.upto rectwoRelsSpec)

/-- 'satchellaw15.RectwoRelBytes', WHERE WHAT IT READS IS OF BULK AT MOST 1048576: true; the input reads as it did. -/
def rectwoRelBytesUptoRow : OpenClaim := { program := "ytmiiogailnjfpaa", sum := "055c4fe93bf6c956bc6897f43dcfb60e41dfffdeb52dabda80e68ea20aa8ffa7", func := "satchel/satchellaw15.RectwoRelBytes", spec := "rectwoRelBytes", unfollowed := true, recurses := true, apart := false, narrowed := true }
def RectwoRelBytesUptoSaid : Prop := rectwoRelBytesUptoRow.holds Try.pinned (OpenSpec.upto rectwoRelBytesSpec)

/-- 'satchellaw15.RectwoGroups', WHERE WHAT IT READS IS OF BULK AT MOST 1048576: true; the input reads as it did. -/
def rectwoGroupsUptoRow : OpenClaim := { program := "ytmiiogailnjfpaa", sum := "055c4fe93bf6c956bc6897f43dcfb60e41dfffdeb52dabda80e68ea20aa8ffa7", func := "satchel/satchellaw15.RectwoGroups", spec := "rectwoGroups", unfollowed := true, recurses := true, apart := false, narrowed := true }
def RectwoGroupsUptoSaid : Prop := rectwoGroupsUptoRow.holds Try.pinned (OpenSpec.upto rectwoGroupsSpec)

/-- 'satchellaw15.RectwoGroupBytes', WHERE WHAT IT READS IS OF BULK AT MOST 1048576: true; the input reads as it did. -/
def rectwoGroupBytesUptoRow : OpenClaim := { program := "ytmiiogailnjfpaa", sum := "055c4fe93bf6c956bc6897f43dcfb60e41dfffdeb52dabda80e68ea20aa8ffa7", func := "satchel/satchellaw15.RectwoGroupBytes", spec := "rectwoGroupBytes", unfollowed := true, recurses := true, apart := false, narrowed := true }
def RectwoGroupBytesUptoSaid : Prop := rectwoGroupBytesUptoRow.holds Try.pinned (OpenSpec.upto rectwoGroupBytesSpec)

/-- 'satchellaw15.RectwoOwn', WHERE WHAT IT READS IS OF BULK AT MOST 1048576: true; the input reads as it did. -/
def rectwoOwnUptoRow : OpenClaim := { program := "ytmiiogailnjfpaa", sum := "055c4fe93bf6c956bc6897f43dcfb60e41dfffdeb52dabda80e68ea20aa8ffa7", func := "satchel/satchellaw15.RectwoOwn", spec := "rectwoOwn", unfollowed := true, recurses := true, apart := false, narrowed := true }
def RectwoOwnUptoSaid : Prop := rectwoOwnUptoRow.holds Try.pinned (OpenSpec.upto rectwoOwnSpec)

end Rows
end Go.Proofs.Ytmiiogailnjfpaa
