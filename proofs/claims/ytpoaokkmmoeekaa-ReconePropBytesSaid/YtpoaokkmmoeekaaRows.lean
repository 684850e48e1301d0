/-
  No cell of these rows narrows 'for every input' (looked for: loops, veiled, ifaces, maps, wideKeys, modest, calm, conditions, laid).
  DERIVED. THE GIVEN ROWS OF THIS SEAT. 7 by the template 'for every input the law returns true; each argument reads behind the call as it read before'; 0 by the template 'total and deterministic' (their statements: YtpoaokkmmoeekaaTotals.lean).
  GIVEN WITH THE SEED: the statements are not yours to turn. If you find one false, say at which input.
  Laid BY PROGRAM, IN A SANDBOX (cutbox-rows.mjs): the forced cells as the released guide's own fill.sh prints them over the translation cffebfbee82df2d7… (all of the seat's roots in one cut). By AI agents, Wed Nov 11 2026. No macro, syntax, notation, axiom, sorry.
-/
import Derived.Test.YtpoaokkmmoeekaaChecked
import GoSem.Claim
import GoSem.ClaimJoined
import GoSem.ClaimMapViews
import Derived.JoinedTies
import Derived.KernelRfl
namespace Go.Proofs.Ytpoaokkmmoeekaa
/- THE CELL 'sum', in the pinned program and in every row, IS THE sha256 OF THE DUMP (.gsa) THAT YtpoaokkmmoeekaaProg.lean LOADS. Nothing in Lean hashes anything: it is a label: what it is worth is what the hold of that sum in a sandbox is worth. -/
noncomputable def Try.pinned : Pinned := { name := "ytpoaokkmmoeekaa", sum := "cffebfbee82df2d7148cd51ea5654541bb3e405b34243f960685cb79f67c071d", checked := Try.checked }
namespace Rows
def none {H : Type} : Left H := { results := [], args := [] }

/-- 'satchellaw12.ReconeNodes': WHATEVER THE INPUT: true; the input reads as it did. -/
def reconeNodesSpec : ChangeSpec := { name := "reconeNodes", fn := fun _ => fun
  | [d] => { results := [.lit (.bool true)], args := [d] }
  | _ => none }
def reconeNodesRow : OpenClaim := { program := "ytpoaokkmmoeekaa", sum := "cffebfbee82df2d7148cd51ea5654541bb3e405b34243f960685cb79f67c071d", func := "satchel/satchellaw12.ReconeNodes", spec := "reconeNodes", unfollowed := true, recurses := true, apart := false }
def ReconeNodesSaid : Prop := reconeNodesRow.holds Try.pinned (OpenSpec.ofChange reconeNodesSpec)

/-- ITS FALSE NEIGHBOUR: 'it returns false'. Refute it at one input. -/
def reconeNodesWrong : ChangeSpec := { name := "reconeNodes", fn := fun _ => fun
  | [d] => { results := [.lit (.bool false)], args := [d] }
  | _ => none }
def ReconeNodesWrongFalsely : Prop := reconeNodesRow.holds Try.pinned (OpenSpec.ofChange reconeNodesWrong)

/-- 'satchellaw12.ReconeNodeBytes': WHATEVER THE INPUT: true; the input reads as it did. -/
def reconeNodeBytesSpec : ChangeSpec := { name := "reconeNodeBytes", fn := fun _ => fun
  | [d] => { results := [.lit (.bool true)], args := [d] }
  | _ => none }
def reconeNodeBytesRow : OpenClaim := { program := "ytpoaokkmmoeekaa", sum := "cffebfbee82df2d7148cd51ea5654541bb3e405b34243f960685cb79f67c071d", func := "satchel/satchellaw12.ReconeNodeBytes", spec := "reconeNodeBytes", unfollowed := true, recurses := true, apart := false }
def ReconeNodeBytesSaid : Prop := reconeNodeBytesRow.holds Try.pinned (OpenSpec.ofChange reconeNodeBytesSpec)

/-- ITS FALSE NEIGHBOUR: 'it returns false'. Refute it at one input. -/
def reconeNodeBytesWrong : ChangeSpec := { name := "reconeNodeBytes", fn := fun _ => fun
  | [d] => { results := [.lit (.bool false)], args := [d] }
  | _ => none }
def ReconeNodeBytesWrongFalsely : Prop := reconeNodeBytesRow.holds Try.pinned (OpenSpec.ofChange reconeNodeBytesWrong)

/-- 'satchellaw12.ReconeRels': WHATEVER THE INPUT: true; the input reads as it did. -/
def reconeRelsSpec : ChangeSpec := { name := "reconeRels", fn := fun _ => fun
  | [d] => { results := [.lit (.bool true)], args := [d] }
  | _ => none }
def reconeRelsRow : OpenClaim := { program := "ytpoaokkmmoeekaa", sum := "cffebfbee82df2d7148cd51ea5654541bb3e405b34243f960685cb79f67c071d", func := "satchel/satchellaw12.ReconeRels", spec := "reconeRels", unfollowed := true, recurses := true, apart := false }
def ReconeRelsSaid : Prop := reconeRelsRow.holds Try.pinned (OpenSpec.ofChange reconeRelsSpec)

/-- ITS FALSE NEIGHBOUR: 'it returns false'. Refute it at one input. -/
def reconeRelsWrong : ChangeSpec := { name := "reconeRels", fn := fun _ => fun
  | [d] => { results := [.lit (.bool false)], args := [d] }
  | _ => none }
def ReconeRelsWrongFalsely : Prop := reconeRelsRow.holds Try.pinned (OpenSpec.ofChange reconeRelsWrong)

/-- 'satchellaw12.ReconeRelBytes': WHATEVER THE INPUT: true; the input reads as it did. -/
def reconeRelBytesSpec : ChangeSpec := { name := "reconeRelBytes", fn := fun _ => fun
  | [d] => { results := [.lit (.bool true)], args := [d] }
  | _ => none }
def reconeRelBytesRow : OpenClaim := { program := "ytpoaokkmmoeekaa", sum := "cffebfbee82df2d7148cd51ea5654541bb3e405b34243f960685cb79f67c071d", func := "satchel/satchellaw12.ReconeRelBytes", spec := "reconeRelBytes", unfollowed := true, recurses := true, apart := false }
def ReconeRelBytesSaid : Prop := reconeRelBytesRow.holds Try.pinned (OpenSpec.ofChange reconeRelBytesSpec)

/-- ITS FALSE NEIGHBOUR: 'it returns false'. Refute it at one input. -/
def reconeRelBytesWrong : ChangeSpec := { name := "reconeRelBytes", fn := fun _ => fun
  | [d] => { results := [.lit (.bool false)], args := [d] }
  | _ => none }
def ReconeRelBytesWrongFalsely : Prop := reconeRelBytesRow.holds Try.pinned (OpenSpec.ofChange reconeRelBytesWrong)

/-- 'satchellaw12.ReconeProps': WHATEVER THE INPUT: true; the input reads as it did. -/
def reconePropsSpec : ChangeSpec := { name := "reconeProps", fn := fun _ => fun
  | [d] => { results := [.lit (.bool true)], args := [d] }
  | _ => none }
def reconePropsRow : OpenClaim := { program := "ytpoaokkmmoeekaa", sum := "cffebfbee82df2d7148cd51ea5654541bb3e405b34243f960685cb79f67c071d", func := "satchel/satchellaw12.ReconeProps", spec := "reconeProps", unfollowed := true, recurses := true, apart := false }
def ReconePropsSaid : Prop := reconePropsRow.holds Try.pinned (OpenSpec.ofChange reconePropsSpec)

/-- ITS FALSE NEIGHBOUR: 'it returns false'. Refute it at one input. -/
def reconePropsWrong : ChangeSpec := { name := "reconeProps", fn := fun _ => fun
  | [d] => { results := [.lit (.bool false)], args := [d] }
  | _ => none }
def ReconePropsWrongFalsely : Prop := reconePropsRow.holds Try.pinned (OpenSpec.ofChange reconePropsWrong)

/-- 'satchellaw12.ReconePropBytes': WHATEVER THE INPUT: true; the input reads as it did. -/
def reconePropBytesSpec : ChangeSpec := { name := "reconePropBytes", fn := fun _ => fun
  | [d] => { results := [.lit (.bool true)], args := [d] }
  | _ => none }
def reconePropBytesRow : OpenClaim := { program := "ytpoaokkmmoeekaa", sum := "cffebfbee82df2d7148cd51ea5654541bb3e405b34243f960685cb79f67c071d", func := "satchel/satchellaw12.ReconePropBytes", spec := "reconePropBytes", unfollowed := true, recurses := true, apart := false }
def ReconePropBytesSaid : Prop := reconePropBytesRow.holds Try.pinned (OpenSpec.ofChange reconePropBytesSpec)

/-- ITS FALSE NEIGHBOUR: 'it returns false'. Refute it at one input. -/
def reconePropBytesWrong : ChangeSpec := { name := "reconePropBytes", fn := fun _ => fun
  | [d] => { results := [.lit (.bool false)], args := [d] }
  | _ => none }
def ReconePropBytesWrongFalsely : Prop := reconePropBytesRow.holds Try.pinned (OpenSpec.ofChange reconePropBytesWrong)

/-- 'satchellaw12.ReconeOwn': WHATEVER THE INPUT: true; the input reads as it did. -/
def reconeOwnSpec : ChangeSpec := { name := "reconeOwn", fn := fun _ => fun
  | [d] => { results := [.lit (.bool true)], args := [d] }
  | _ => none }
def reconeOwnRow : OpenClaim := { program := "ytpoaokkmmoeekaa", sum := "cffebfbee82df2d7148cd51ea5654541bb3e405b34243f960685cb79f67c071d", func := "satchel/satchellaw12.ReconeOwn", spec := "reconeOwn", unfollowed := true, recurses := true, apart := false }
def ReconeOwnSaid : Prop := reconeOwnRow.holds Try.pinned (OpenSpec.ofChange reconeOwnSpec)

/-- ITS FALSE NEIGHBOUR: 'it returns false'. Refute it at one input. -/
def reconeOwnWrong : ChangeSpec := { name := "reconeOwn", fn := fun _ => fun
  | [d] => { results := [.lit (.bool false)], args := [d] }
  | _ => none }
def ReconeOwnWrongFalsely : Prop := reconeOwnRow.holds Try.pinned (OpenSpec.ofChange reconeOwnWrong)

/- THE SECOND FORM. 'bulk': how many values and letters a reading holds, each counted each time it is reached (what is shared counts as often as it is met; a slice's spare places count too). A statement '..UptoSaid' is the law's where the arguments, and the package variables that the reading takes, are together of bulk at most 1048576: NARROWER than '..Said'. Prove '..Said' where nothing that the law and all that it calls make is longer than what came in: it says more and counts as full. Else prove '..UptoSaid'. A law counts once. -/
mutual
def uptoBulk {H : Type} : DataW H → Nat
  | .lit (.string bytes) => bytes.length + 1
  | .lit _ => 1
  | .nil => 1
  | .ptr d => uptoBulk d + 1
  | .slice elems spare => uptoBulkAll elems + uptoBulkAll spare + 1
  | .agg parts => uptoBulkAll parts + 1
  | .iface _ d => uptoBulk d + 1
  | .map entries => uptoBulkEntries entries + 1
  | .held _ => 1
def uptoBulkAll {H : Type} : List (DataW H) → Nat
  | [] => 0
  | d :: r => uptoBulk d + uptoBulkAll r
def uptoBulkEntries {H : Type} : List (Lit × DataW H) → Nat
  | [] => 0
  | x :: r => uptoBulkEntry x + uptoBulkEntries r
def uptoBulkEntry {H : Type} : Lit × DataW H → Nat
  | (.string bytes, d) => bytes.length + uptoBulk d + 1
  | (_, d) => uptoBulk d + 1
 end
def uptoSmall : (H : Type) → List (DataW H) → Bool := fun _ ds => decide (uptoBulkAll ds ≤ 1048576)
def OpenSpec.upto (s : _root_.Go.ChangeSpec) : _root_.Go.OpenSpec := { _root_.Go.OpenSpec.ofChange s with cond := some uptoSmall }

/-- 'satchellaw12.ReconeNodes', WHERE WHAT IT READS IS OF BULK AT MOST 1048576: true; the input reads as it did. -/
def reconeNodesUptoRow : OpenClaim := { program := "ytpoaokkmmoeekaa", sum := "cffebfbee82df2d7148cd51ea5654541bb3e405b34243f960685cb79f67c071d", func := "satchel/satchellaw12.ReconeNodes", spec := "reconeNodes", unfollowed := true, recurses := true, apart := false, narrowed := true }
def ReconeNodesUptoSaid : Prop := reconeNodesUptoRow.holds Try.pinned (OpenSpec.upto reconeNodesSpec)

/-- 'satchellaw12.ReconeNodeBytes', WHERE WHAT IT READS IS OF BULK AT MOST 1048576: true; the input reads as it did. -/
def reconeNodeBytesUptoRow : OpenClaim := { program := "ytpoaokkmmoeekaa", sum := "cffebfbee82df2d7148cd51ea5654541bb3e405b34243f960685cb79f67c071d", func := "satchel/satchellaw12.ReconeNodeBytes", spec := "reconeNodeBytes", unfollowed := true, recurses := true, apart := false, narrowed := true }
def ReconeNodeBytesUptoSaid : Prop := reconeNodeBytesUptoRow.holds Try.pinned (OpenSpec.upto reconeNodeBytesSpec)

/-- 'satchellaw12.ReconeRels', WHERE WHAT IT READS IS OF BULK AT MOST 1048576: true; the input reads as it did. -/
def reconeRelsUptoRow : OpenClaim := { program := "ytpoaokkmmoeekaa", sum := "cffebfbee82df2d7148cd51ea5654541bb3e405b34243f960685cb79f67c071d", func := "satchel/satchellaw12.ReconeRels", spec := "reconeRels", unfollowed := true, recurses := true, apart := false, narrowed := true }
def ReconeRelsUptoSaid : Prop := reconeRelsUptoRow.holds Try.pinned (OpenSpec.upto reconeRelsSpec)

/-- 'satchellaw12.ReconeRelBytes', WHERE WHAT IT READS IS OF BULK AT MOST 1048576: true; the input reads as it did. -/
def reconeRelBytesUptoRow : OpenClaim := { program := "ytpoaokkmmoeekaa", sum := "cffebfbee82df2d7148cd51ea5654541bb3e405b34243f960685cb79f67c071d", func := "satchel/satchellaw12.ReconeRelBytes", spec := "reconeRelBytes", unfollowed := true, recurses := true, apart := false, narrowed := true }
def ReconeRelBytesUptoSaid : Prop := reconeRelBytesUptoRow.holds Try.pinned (OpenSpec.upto reconeRelBytesSpec)

/-- 'satchellaw12.ReconeProps', WHERE WHAT IT READS IS OF BULK AT MOST 1048576: true; the input reads as it did. -/
def reconePropsUptoRow : OpenClaim := { program := "ytpoaokkmmoeekaa", sum := "cffebfbee82df2d7148cd51ea5654541bb3e405b34243f960685cb79f67c071d", func := "satchel/satchellaw12.ReconeProps", spec := "reconeProps", unfollowed := true, recurses := true, apart := false, narrowed := true }
def ReconePropsUptoSaid : Prop := reconePropsUptoRow.holds Try.pinned (OpenSpec.upto reconePropsSpec)

/-- 'satchellaw12.ReconePropBytes', WHERE WHAT IT READS IS OF BULK AT MOST 1048576: true; the input reads as it did. -/
def reconePropBytesUptoRow : OpenClaim := { program := "ytpoaokkmmoeekaa", sum := "cffebfbee82df2d7148cd51ea5654541bb3e405b34243f960685cb79f67c071d", func := "satchel/satchellaw12.ReconePropBytes", spec := "reconePropBytes", unfollowed := true, recurses := true, apart := false, narrowed := true }
def ReconePropBytesUptoSaid : Prop := reconePropBytesUptoRow.holds Try.pinned (OpenSpec.upto reconePropBytesSpec)

/-- 'satchellaw12.ReconeOwn', WHERE WHAT IT READS IS OF BULK AT MOST 1048576: true; the input reads as it did. -/
def reconeOwnUptoRow : OpenClaim := { program := "ytpoaokkmmoeekaa", sum := "cffebfbee82df2d7148cd51ea5654541bb3e405b34243f960685cb79f67c071d", func := "satchel/satchellaw12.ReconeOwn", spec := "reconeOwn", unfollowed := true, recurses := true, apart := false, narrowed := true }
def ReconeOwnUptoSaid : Prop := reconeOwnUptoRow.holds Try.pinned (OpenSpec.upto reconeOwnSpec)

end Rows
end Go.Proofs.Ytpoaokkmmoeekaa
