/-
  NARROWER THAN 'FOR EVERY INPUT', by the rows' own cells (each row's printed sentence says how): FrameNames: laid · FramePacks: laid · FrameSplits: laid · FrameGoes: laid · FrameReads: laid · FrameThere: laid · FrameBurst: laid · FrameOwn: laid.
  DERIVED. THE GIVEN ROWS OF THIS SEAT. 8 by the template 'for every input the law returns true; each argument reads behind the call as it read before'; 0 by the template 'total and deterministic' (their statements: YtkdlehekignnhaaDoorTotals.lean).
  GIVEN WITH THE SEED: the statements are not yours to turn. If you find one false, say at which input.
  Laid BY PROGRAM, IN A SANDBOX (cutbox-rows.mjs): the forced cells as the released guide's own fill.sh prints them over the translation 2e2ca752594e856c… (all of the seat's roots in one cut). By AI agents, Wed Nov 11 2026. No macro, syntax, notation, axiom, sorry.
-/
import Derived.Test.YtkdlehekignnhaaDoorChecked
import GoSem.Claim
import GoSem.ClaimJoined
import GoSem.ClaimMapViews
import Derived.JoinedTies
import Derived.KernelRfl
namespace Go.Proofs.YtkdlehekignnhaaDoor
/- THE CELL 'sum', in the pinned program and in every row, IS THE sha256 OF THE DUMP (.gsa) THAT YtkdlehekignnhaaDoorProg.lean LOADS. Nothing in Lean hashes anything: it is a label: what it is worth is what the hold of that sum in a sandbox is worth. -/
noncomputable def Tryd.pinned : Pinned := { name := "ytkdlehekignnhaadoor", sum := "2e2ca752594e856c92145796da60c05408e5b1ce1230f257643afef0569dc2a1", checked := Tryd.checked }
namespace Rows
def none {H : Type} : Left H := { results := [], args := [] }

/- WHAT THE LISTED PACKAGE-LEVEL VARIABLES READ AS WHEN THE CALL BEGINS. Each datum BY PROGRAM (the guide's laid-datum.mjs) off the statement by which the dump's own 'gosem.cut.vars' lays the variable. In a bare row this is a premise. The card (YtkdlehekignnhaaDoorCards.lean) ties it to the program's text. -/
def laid_satchel_crc_nibbles {H : Type} : DataW H := .agg [.lit (.int .u32 0), .lit (.int .u32 498536548), .lit (.int .u32 997073096), .lit (.int .u32 651767980), .lit (.int .u32 1994146192), .lit (.int .u32 1802195444), .lit (.int .u32 1303535960), .lit (.int .u32 1342533948), .lit (.int .u32 3988292384), .lit (.int .u32 4027552580), .lit (.int .u32 3604390888), .lit (.int .u32 3412177804), .lit (.int .u32 2607071920), .lit (.int .u32 2262029012), .lit (.int .u32 2685067896), .lit (.int .u32 3183342108)]

/-- 'satchellaw19.FrameNames': WHATEVER THE INPUT: true; the input reads as it did. -/
def frameNamesSpec : ChangeSpec := { name := "frameNames", fn := fun _ => fun
  | [] => { results := [.lit (.bool true)], args := [] }
  | _ => none }
def frameNamesRow : OpenClaim := { program := "ytkdlehekignnhaadoor", sum := "2e2ca752594e856c92145796da60c05408e5b1ce1230f257643afef0569dc2a1", func := "satchel/satchellaw19.FrameNames", spec := "frameNames", unfollowed := true, recurses := true, named := ["satchel/crc.nibbles"], apart := false, laid := [("satchel/crc.nibbles", laid_satchel_crc_nibbles)] }
def FrameNamesSaid : Prop := frameNamesRow.holds Tryd.pinned (OpenSpec.ofChange frameNamesSpec)

/-- ITS FALSE NEIGHBOUR: 'it returns false'. Refute it at one input. -/
def frameNamesWrong : ChangeSpec := { name := "frameNames", fn := fun _ => fun
  | [] => { results := [.lit (.bool false)], args := [] }
  | _ => none }
def FrameNamesWrongFalsely : Prop := frameNamesRow.holds Tryd.pinned (OpenSpec.ofChange frameNamesWrong)

/-- 'satchellaw19.FramePacks': WHATEVER THE INPUT: true; the input reads as it did. -/
def framePacksSpec : ChangeSpec := { name := "framePacks", fn := fun _ => fun
  | [d] => { results := [.lit (.bool true)], args := [d] }
  | _ => none }
def framePacksRow : OpenClaim := { program := "ytkdlehekignnhaadoor", sum := "2e2ca752594e856c92145796da60c05408e5b1ce1230f257643afef0569dc2a1", func := "satchel/satchellaw19.FramePacks", spec := "framePacks", unfollowed := true, recurses := true, named := ["satchel/crc.nibbles"], apart := false, laid := [("satchel/crc.nibbles", laid_satchel_crc_nibbles)] }
def FramePacksSaid : Prop := framePacksRow.holds Tryd.pinned (OpenSpec.ofChange framePacksSpec)

/-- ITS FALSE NEIGHBOUR: 'it returns false'. Refute it at one input. -/
def framePacksWrong : ChangeSpec := { name := "framePacks", fn := fun _ => fun
  | [d] => { results := [.lit (.bool false)], args := [d] }
  | _ => none }
def FramePacksWrongFalsely : Prop := framePacksRow.holds Tryd.pinned (OpenSpec.ofChange framePacksWrong)

/-- 'satchellaw19.FrameSplits': WHATEVER THE INPUT: true; the input reads as it did. -/
def frameSplitsSpec : ChangeSpec := { name := "frameSplits", fn := fun _ => fun
  | [d] => { results := [.lit (.bool true)], args := [d] }
  | _ => none }
def frameSplitsRow : OpenClaim := { program := "ytkdlehekignnhaadoor", sum := "2e2ca752594e856c92145796da60c05408e5b1ce1230f257643afef0569dc2a1", func := "satchel/satchellaw19.FrameSplits", spec := "frameSplits", unfollowed := true, recurses := true, named := ["satchel/crc.nibbles"], apart := false, laid := [("satchel/crc.nibbles", laid_satchel_crc_nibbles)] }
def FrameSplitsSaid : Prop := frameSplitsRow.holds Tryd.pinned (OpenSpec.ofChange frameSplitsSpec)

/-- ITS FALSE NEIGHBOUR: 'it returns false'. Refute it at one input. -/
def frameSplitsWrong : ChangeSpec := { name := "frameSplits", fn := fun _ => fun
  | [d] => { results := [.lit (.bool false)], args := [d] }
  | _ => none }
def FrameSplitsWrongFalsely : Prop := frameSplitsRow.holds Tryd.pinned (OpenSpec.ofChange frameSplitsWrong)

/-- 'satchellaw19.FrameGoes': WHATEVER THE INPUT: true; the input reads as it did. -/
def frameGoesSpec : ChangeSpec := { name := "frameGoes", fn := fun _ => fun
  | [d] => { results := [.lit (.bool true)], args := [d] }
  | _ => none }
def frameGoesRow : OpenClaim := { program := "ytkdlehekignnhaadoor", sum := "2e2ca752594e856c92145796da60c05408e5b1ce1230f257643afef0569dc2a1", func := "satchel/satchellaw19.FrameGoes", spec := "frameGoes", unfollowed := true, recurses := true, named := ["satchel/crc.nibbles"], apart := false, laid := [("satchel/crc.nibbles", laid_satchel_crc_nibbles)] }
def FrameGoesSaid : Prop := frameGoesRow.holds Tryd.pinned (OpenSpec.ofChange frameGoesSpec)

/-- ITS FALSE NEIGHBOUR: 'it returns false'. Refute it at one input. -/
def frameGoesWrong : ChangeSpec := { name := "frameGoes", fn := fun _ => fun
  | [d] => { results := [.lit (.bool false)], args := [d] }
  | _ => none }
def FrameGoesWrongFalsely : Prop := frameGoesRow.holds Tryd.pinned (OpenSpec.ofChange frameGoesWrong)

/-- 'satchellaw19.FrameReads': WHATEVER THE INPUT: true; the input reads as it did. -/
def frameReadsSpec : ChangeSpec := { name := "frameReads", fn := fun _ => fun
  | [d] => { results := [.lit (.bool true)], args := [d] }
  | _ => none }
def frameReadsRow : OpenClaim := { program := "ytkdlehekignnhaadoor", sum := "2e2ca752594e856c92145796da60c05408e5b1ce1230f257643afef0569dc2a1", func := "satchel/satchellaw19.FrameReads", spec := "frameReads", unfollowed := true, recurses := true, named := ["satchel/crc.nibbles"], apart := false, laid := [("satchel/crc.nibbles", laid_satchel_crc_nibbles)] }
def FrameReadsSaid : Prop := frameReadsRow.holds Tryd.pinned (OpenSpec.ofChange frameReadsSpec)

/-- ITS FALSE NEIGHBOUR: 'it returns false'. Refute it at one input. -/
def frameReadsWrong : ChangeSpec := { name := "frameReads", fn := fun _ => fun
  | [d] => { results := [.lit (.bool false)], args := [d] }
  | _ => none }
def FrameReadsWrongFalsely : Prop := frameReadsRow.holds Tryd.pinned (OpenSpec.ofChange frameReadsWrong)

/-- 'satchellaw19.FrameThere': WHATEVER THE INPUT: true; the input reads as it did. -/
def frameThereSpec : ChangeSpec := { name := "frameThere", fn := fun _ => fun
  | [d1, d2] => { results := [.lit (.bool true)], args := [d1, d2] }
  | _ => none }
def frameThereRow : OpenClaim := { program := "ytkdlehekignnhaadoor", sum := "2e2ca752594e856c92145796da60c05408e5b1ce1230f257643afef0569dc2a1", func := "satchel/satchellaw19.FrameThere", spec := "frameThere", unfollowed := true, recurses := true, named := ["satchel/crc.nibbles"], apart := false, laid := [("satchel/crc.nibbles", laid_satchel_crc_nibbles)] }
def FrameThereSaid : Prop := frameThereRow.holds Tryd.pinned (OpenSpec.ofChange frameThereSpec)

/-- ITS FALSE NEIGHBOUR: 'it returns false'. Refute it at one input. -/
def frameThereWrong : ChangeSpec := { name := "frameThere", fn := fun _ => fun
  | [d1, d2] => { results := [.lit (.bool false)], args := [d1, d2] }
  | _ => none }
def FrameThereWrongFalsely : Prop := frameThereRow.holds Tryd.pinned (OpenSpec.ofChange frameThereWrong)

/-- 'satchellaw19.FrameBurst': WHATEVER THE INPUT: true; the input reads as it did. -/
def frameBurstSpec : ChangeSpec := { name := "frameBurst", fn := fun _ => fun
  | [d1, d2, d3] => { results := [.lit (.bool true)], args := [d1, d2, d3] }
  | _ => none }
def frameBurstRow : OpenClaim := { program := "ytkdlehekignnhaadoor", sum := "2e2ca752594e856c92145796da60c05408e5b1ce1230f257643afef0569dc2a1", func := "satchel/satchellaw19.FrameBurst", spec := "frameBurst", unfollowed := true, recurses := true, named := ["satchel/crc.nibbles"], apart := false, laid := [("satchel/crc.nibbles", laid_satchel_crc_nibbles)] }
def FrameBurstSaid : Prop := frameBurstRow.holds Tryd.pinned (OpenSpec.ofChange frameBurstSpec)

/-- ITS FALSE NEIGHBOUR: 'it returns false'. Refute it at one input. -/
def frameBurstWrong : ChangeSpec := { name := "frameBurst", fn := fun _ => fun
  | [d1, d2, d3] => { results := [.lit (.bool false)], args := [d1, d2, d3] }
  | _ => none }
def FrameBurstWrongFalsely : Prop := frameBurstRow.holds Tryd.pinned (OpenSpec.ofChange frameBurstWrong)

/-- 'satchellaw19.FrameOwn': WHATEVER THE INPUT: true; the input reads as it did. -/
def frameOwnSpec : ChangeSpec := { name := "frameOwn", fn := fun _ => fun
  | [d] => { results := [.lit (.bool true)], args := [d] }
  | _ => none }
def frameOwnRow : OpenClaim := { program := "ytkdlehekignnhaadoor", sum := "2e2ca752594e856c92145796da60c05408e5b1ce1230f257643afef0569dc2a1", func := "satchel/satchellaw19.FrameOwn", spec := "frameOwn", unfollowed := true, recurses := true, named := ["satchel/crc.nibbles"], apart := false, laid := [("satchel/crc.nibbles", laid_satchel_crc_nibbles)] }
def FrameOwnSaid : Prop := frameOwnRow.holds Tryd.pinned (OpenSpec.ofChange frameOwnSpec)

/-- ITS FALSE NEIGHBOUR: 'it returns false'. Refute it at one input. -/
def frameOwnWrong : ChangeSpec := { name := "frameOwn", fn := fun _ => fun
  | [d] => { results := [.lit (.bool false)], args := [d] }
  | _ => none }
def FrameOwnWrongFalsely : Prop := frameOwnRow.holds Tryd.pinned (OpenSpec.ofChange frameOwnWrong)

/- THE SECOND FORM. 'bulk': how many values and letters a reading holds, each counted each time it is reached (what is shared counts as often as it is met; a slice's spare places count too). A statement '..UptoSaid' is the law's where the arguments, and the package variables that the reading takes, are together of bulk at most 1048576: NARROWER than '..Said'. Prove '..Said' where nothing that the law and all that it calls make is longer than what came in: it says more and counts as full. Else prove '..UptoSaid'. A law counts once. -/
mutual
def uptoBulk {H : Type} : DataW H → Nat
  | .lit (.string bytes) => bytes.length + 1
  | .lit _ => 1
  | .nil => 1
  | .ptr d => uptoBulk d + 1
  | .slice elems spare => uptoBulkAll elems + uptoBulkAll spare + 1
  | .agg parts => uptoBulkAll parts + 1
  | .iface _ d => uptoBulk d + 1
  | .map entries => uptoBulkEntries entries + 1
  | .held _ => 1
def uptoBulkAll {H : Type} : List (DataW H) → Nat
  | [] => 0
  | d :: r => uptoBulk d + uptoBulkAll r
def uptoBulkEntries {H : Type} : List (Lit × DataW H) → Nat
  | [] => 0
  | x :: r => uptoBulkEntry x + uptoBulkEntries r
def uptoBulkEntry {H : Type} : Lit × DataW H → Nat
  | (.string bytes, d) => bytes.length + uptoBulk d + 1
  | (_, d) => uptoBulk d + 1
 end
def uptoSmall : (H : Type) → List (DataW H) → Bool := fun _ ds => decide (uptoBulkAll ds ≤ 1048576)
def OpenSpec.upto (s : _root_.Go.ChangeSpec) : _root_.Go.OpenSpec := { _root_.Go.OpenSpec.ofChange s with cond := some uptoSmall }

/-- 'satchellaw19.FrameNames', WHERE WHAT IT READS IS OF BULK AT MOST 1048576: true; the input reads as it did. -/
def frameNamesUptoRow : OpenClaim := { program := "ytkdlehekignnhaadoor", sum := "2e2ca752594e856c92145796da60c05408e5b1ce1230f257643afef0569dc2a1", func := "satchel/satchellaw19.FrameNames", spec := "frameNames", unfollowed := true, recurses := true, named := ["satchel/crc.nibbles"], apart := false, laid := [("satchel/crc.nibbles", laid_satchel_crc_nibbles)], narrowed := true }
def FrameNamesUptoSaid : Prop := frameNamesUptoRow.holds Tryd.pinned (OpenSpec.upto frameNamesSpec)

/-- 'satchellaw19.FramePacks', WHERE WHAT IT READS IS OF BULK AT MOST 1048576: true; the input reads as it did. -/
def framePacksUptoRow : OpenClaim := { program := "ytkdlehekignnhaadoor", sum := "2e2ca752594e856c92145796da60c05408e5b1ce1230f257643afef0569dc2a1", func := "satchel/satchellaw19.FramePacks", spec := "framePacks", unfollowed := true, recurses := true, named := ["satchel/crc.nibbles"], apart := false, laid := [("satchel/crc.nibbles", laid_satchel_crc_nibbles)], narrowed := true }
def FramePacksUptoSaid : Prop := framePacksUptoRow.holds Tryd.pinned (OpenSpec.upto framePacksSpec)

/-- 'satchellaw19.FrameSplits', WHERE WHAT IT READS IS OF BULK AT MOST 1048576: true; the input reads as it did. -/
def frameSplitsUptoRow : OpenClaim := { program := "ytkdlehekignnhaadoor", sum := "2e2ca752594e856c92145796da60c05408e5b1ce1230f257643afef0569dc2a1", func := "satchel/satchellaw19.FrameSplits", spec := "frameSplits", unfollowed := true, recurses := true, named := ["satchel/crc.nibbles"], apart := false, laid := [("satchel/crc.nibbles", laid_satchel_crc_nibbles)], narrowed := true }
def FrameSplitsUptoSaid : Prop := frameSplitsUptoRow.holds Tryd.pinned (OpenSpec.upto frameSplitsSpec)

/-- 'satchellaw19.FrameGoes', WHERE WHAT IT READS IS OF BULK AT MOST 1048576: true; the input reads as it did. -/
def frameGoesUptoRow : OpenClaim := { program := "ytkdlehekignnhaadoor", sum := "2e2ca752594e856c92145796da60c05408e5b1ce1230f257643afef0569dc2a1", func := "satchel/satchellaw19.FrameGoes", spec := "frameGoes", unfollowed := true, recurses := true, named := ["satchel/crc.nibbles"], apart := false, laid := [("satchel/crc.nibbles", laid_satchel_crc_nibbles)], narrowed := true }
def FrameGoesUptoSaid : Prop := frameGoesUptoRow.holds Tryd.pinned (OpenSpec.upto frameGoesSpec)

/-- 'satchellaw19.FrameReads', WHERE WHAT IT READS IS OF BULK AT MOST 1048576: true; the input reads as it did. -/
def frameReadsUptoRow : OpenClaim := { program := "ytkdlehekignnhaadoor", sum := "2e2ca752594e856c92145796da60c05408e5b1ce1230f257643afef0569dc2a1", func := "satchel/satchellaw19.FrameReads", spec := "frameReads", unfollowed := true, recurses := true, named := ["satchel/crc.nibbles"], apart := false, laid := [("satchel/crc.nibbles", laid_satchel_crc_nibbles)], narrowed := true }
def FrameReadsUptoSaid : Prop := frameReadsUptoRow.holds Tryd.pinned (OpenSpec.upto frameReadsSpec)

/-- 'satchellaw19.FrameThere', WHERE WHAT IT READS IS OF BULK AT MOST 1048576: true; the input reads as it did. -/
def frameThereUptoRow : OpenClaim := { program := "ytkdlehekignnhaadoor", sum := "2e2ca752594e856c92145796da60c05408e5b1ce1230f257643afef0569dc2a1", func := "satchel/satchellaw19.FrameThere", spec := "frameThere", unfollowed := true, recurses := true, named := ["satchel/crc.nibbles"], apart := false, laid := [("satchel/crc.nibbles", laid_satchel_crc_nibbles)], narrowed := true }
def FrameThereUptoSaid : Prop := frameThereUptoRow.holds Tryd.pinned (OpenSpec.upto frameThereSpec)

/-- 'satchellaw19.FrameBurst', WHERE WHAT IT READS IS OF BULK AT MOST 1048576: true; the input reads as it did. -/
def frameBurstUptoRow : OpenClaim := { program := "ytkdlehekignnhaadoor", sum := "2e2ca752594e856c92145796da60c05408e5b1ce1230f257643afef0569dc2a1", func := "satchel/satchellaw19.FrameBurst", spec := "frameBurst", unfollowed := true, recurses := true, named := ["satchel/crc.nibbles"], apart := false, laid := [("satchel/crc.nibbles", laid_satchel_crc_nibbles)], narrowed := true }
def FrameBurstUptoSaid : Prop := frameBurstUptoRow.holds Tryd.pinned (OpenSpec.upto frameBurstSpec)

/-- 'satchellaw19.FrameOwn', WHERE WHAT IT READS IS OF BULK AT MOST 1048576: true; the input reads as it did. -/
def frameOwnUptoRow : OpenClaim := { program := "ytkdlehekignnhaadoor", sum := "2e2ca752594e856c92145796da60c05408e5b1ce1230f257643afef0569dc2a1", func := "satchel/satchellaw19.FrameOwn", spec := "frameOwn", unfollowed := true, recurses := true, named := ["satchel/crc.nibbles"], apart := false, laid := [("satchel/crc.nibbles", laid_satchel_crc_nibbles)], narrowed := true }
def FrameOwnUptoSaid : Prop := frameOwnUptoRow.holds Tryd.pinned (OpenSpec.upto frameOwnSpec)

end Rows
end Go.Proofs.YtkdlehekignnhaaDoor
