/-
  NARROWER THAN 'FOR EVERY INPUT', by the rows' own cells (each row's printed sentence says how): RecfileNames: laid · RecfileNews: laid · RecfileOpens: laid · RecfilePlays: laid · RecfileThere: laid · RecfileSpoilt: laid · RecfileLowest: laid · RecfileWalks: laid.
  DERIVED. THE GIVEN ROWS OF THIS SEAT. 8 by the template 'for every input the law returns true; each argument reads behind the call as it read before'; 0 by the template 'total and deterministic' (their statements: YtcclcecjidlojaaDoorTotals.lean).
  GIVEN WITH THE SEED: the statements are not yours to turn. If you find one false, say at which input.
  Laid BY PROGRAM, IN A SANDBOX (cutbox-rows.mjs): the forced cells as the released guide's own fill.sh prints them over the translation 9a9a1973d5dcd317… (all of the seat's roots in one cut). By AI agents, Wed Nov 11 2026. No macro, syntax, notation, axiom, sorry.
-/
import Derived.Test.YtcclcecjidlojaaDoorChecked
import GoSem.PinnedTables
import GoSem.Claim
import GoSem.ClaimJoined
import GoSem.ClaimMapViews
import Derived.JoinedTies
import Derived.KernelRfl
namespace Go.Proofs.YtcclcecjidlojaaDoor
/- THE CELL 'sum', in the pinned program and in every row, IS THE sha256 OF THE DUMP (.gsa) THAT YtcclcecjidlojaaDoorProg.lean LOADS. Nothing in Lean hashes anything: it is a label: what it is worth is what the hold of that sum in a sandbox is worth. -/
noncomputable def Tryd.pinned : Pinned := { name := "ytcclcecjidlojaadoor", sum := "9a9a1973d5dcd317dc3af9da5dc2110c55f76c43dbaad9d278c3fad8c5df32a3", checked := Tryd.checked }
namespace Rows
def none {H : Type} : Left H := { results := [], args := [] }

/- WHAT THE LISTED PACKAGE-LEVEL VARIABLES READ AS WHEN THE CALL BEGINS. Each datum BY PROGRAM (the guide's laid-datum.mjs) off the statement by which the dump's own 'gosem.cut.vars' lays the variable. In a bare row this is a premise. The card (YtcclcecjidlojaaDoorCards.lean) ties it to the program's text. -/
def laid_satchel_crc_nibbles {H : Type} : DataW H := .agg [.lit (.int .u32 0), .lit (.int .u32 498536548), .lit (.int .u32 997073096), .lit (.int .u32 651767980), .lit (.int .u32 1994146192), .lit (.int .u32 1802195444), .lit (.int .u32 1303535960), .lit (.int .u32 1342533948), .lit (.int .u32 3988292384), .lit (.int .u32 4027552580), .lit (.int .u32 3604390888), .lit (.int .u32 3412177804), .lit (.int .u32 2607071920), .lit (.int .u32 2262029012), .lit (.int .u32 2685067896), .lit (.int .u32 3183342108)]
def laid_unicode_utf8_acceptRanges {H : Type} : DataW H := .agg [.agg [.lit (.int .u8 128), .lit (.int .u8 191)], .agg [.lit (.int .u8 160), .lit (.int .u8 191)], .agg [.lit (.int .u8 128), .lit (.int .u8 159)], .agg [.lit (.int .u8 144), .lit (.int .u8 191)], .agg [.lit (.int .u8 128), .lit (.int .u8 143)], .agg [.lit (.int .u8 0), .lit (.int .u8 0)], .agg [.lit (.int .u8 0), .lit (.int .u8 0)], .agg [.lit (.int .u8 0), .lit (.int .u8 0)], .agg [.lit (.int .u8 0), .lit (.int .u8 0)], .agg [.lit (.int .u8 0), .lit (.int .u8 0)], .agg [.lit (.int .u8 0), .lit (.int .u8 0)], .agg [.lit (.int .u8 0), .lit (.int .u8 0)], .agg [.lit (.int .u8 0), .lit (.int .u8 0)], .agg [.lit (.int .u8 0), .lit (.int .u8 0)], .agg [.lit (.int .u8 0), .lit (.int .u8 0)], .agg [.lit (.int .u8 0), .lit (.int .u8 0)]]
/-- One of Go's own tables, pinned by name: the form's constant. -/
def laid_unicode_utf8_first : DataW Unit := Go.Pinned.utf8First

/-- 'satchellaw09.RecfileNames': WHATEVER THE INPUT: true; the input reads as it did. -/
def recfileNamesSpec : ChangeSpec := { name := "recfileNames", fn := fun _ => fun
  | [] => { results := [.lit (.bool true)], args := [] }
  | _ => none }
def recfileNamesRow : OpenClaim := { program := "ytcclcecjidlojaadoor", sum := "9a9a1973d5dcd317dc3af9da5dc2110c55f76c43dbaad9d278c3fad8c5df32a3", func := "satchel/satchellaw09.RecfileNames", spec := "recfileNames", named := ["satchel/crc.nibbles", "unicode/utf8.first", "unicode/utf8.acceptRanges"], apart := false, laid := [("satchel/crc.nibbles", laid_satchel_crc_nibbles), ("unicode/utf8.acceptRanges", laid_unicode_utf8_acceptRanges), ("unicode/utf8.first", laid_unicode_utf8_first)] }
def RecfileNamesSaid : Prop := recfileNamesRow.holds Tryd.pinned (OpenSpec.ofChange recfileNamesSpec)

/-- ITS FALSE NEIGHBOUR: 'it returns false'. Refute it at one input. -/
def recfileNamesWrong : ChangeSpec := { name := "recfileNames", fn := fun _ => fun
  | [] => { results := [.lit (.bool false)], args := [] }
  | _ => none }
def RecfileNamesWrongFalsely : Prop := recfileNamesRow.holds Tryd.pinned (OpenSpec.ofChange recfileNamesWrong)

/-- 'satchellaw09.RecfileNews': WHATEVER THE INPUT: true; the input reads as it did. -/
def recfileNewsSpec : ChangeSpec := { name := "recfileNews", fn := fun _ => fun
  | [d] => { results := [.lit (.bool true)], args := [d] }
  | _ => none }
def recfileNewsRow : OpenClaim := { program := "ytcclcecjidlojaadoor", sum := "9a9a1973d5dcd317dc3af9da5dc2110c55f76c43dbaad9d278c3fad8c5df32a3", func := "satchel/satchellaw09.RecfileNews", spec := "recfileNews", named := ["satchel/crc.nibbles", "unicode/utf8.first", "unicode/utf8.acceptRanges"], apart := false, laid := [("satchel/crc.nibbles", laid_satchel_crc_nibbles), ("unicode/utf8.acceptRanges", laid_unicode_utf8_acceptRanges), ("unicode/utf8.first", laid_unicode_utf8_first)] }
def RecfileNewsSaid : Prop := recfileNewsRow.holds Tryd.pinned (OpenSpec.ofChange recfileNewsSpec)

/-- ITS FALSE NEIGHBOUR: 'it returns false'. Refute it at one input. -/
def recfileNewsWrong : ChangeSpec := { name := "recfileNews", fn := fun _ => fun
  | [d] => { results := [.lit (.bool false)], args := [d] }
  | _ => none }
def RecfileNewsWrongFalsely : Prop := recfileNewsRow.holds Tryd.pinned (OpenSpec.ofChange recfileNewsWrong)

/-- 'satchellaw09.RecfileOpens': WHATEVER THE INPUT: true; the input reads as it did. -/
def recfileOpensSpec : ChangeSpec := { name := "recfileOpens", fn := fun _ => fun
  | [d] => { results := [.lit (.bool true)], args := [d] }
  | _ => none }
def recfileOpensRow : OpenClaim := { program := "ytcclcecjidlojaadoor", sum := "9a9a1973d5dcd317dc3af9da5dc2110c55f76c43dbaad9d278c3fad8c5df32a3", func := "satchel/satchellaw09.RecfileOpens", spec := "recfileOpens", named := ["satchel/crc.nibbles", "unicode/utf8.first", "unicode/utf8.acceptRanges"], apart := false, laid := [("satchel/crc.nibbles", laid_satchel_crc_nibbles), ("unicode/utf8.acceptRanges", laid_unicode_utf8_acceptRanges), ("unicode/utf8.first", laid_unicode_utf8_first)] }
def RecfileOpensSaid : Prop := recfileOpensRow.holds Tryd.pinned (OpenSpec.ofChange recfileOpensSpec)

/-- ITS FALSE NEIGHBOUR: 'it returns false'. Refute it at one input. -/
def recfileOpensWrong : ChangeSpec := { name := "recfileOpens", fn := fun _ => fun
  | [d] => { results := [.lit (.bool false)], args := [d] }
  | _ => none }
def RecfileOpensWrongFalsely : Prop := recfileOpensRow.holds Tryd.pinned (OpenSpec.ofChange recfileOpensWrong)

/-- 'satchellaw09.RecfilePlays': WHATEVER THE INPUT: true; the input reads as it did. -/
def recfilePlaysSpec : ChangeSpec := { name := "recfilePlays", fn := fun _ => fun
  | [d1, d2] => { results := [.lit (.bool true)], args := [d1, d2] }
  | _ => none }
def recfilePlaysRow : OpenClaim := { program := "ytcclcecjidlojaadoor", sum := "9a9a1973d5dcd317dc3af9da5dc2110c55f76c43dbaad9d278c3fad8c5df32a3", func := "satchel/satchellaw09.RecfilePlays", spec := "recfilePlays", named := ["satchel/crc.nibbles", "unicode/utf8.first", "unicode/utf8.acceptRanges"], apart := false, laid := [("satchel/crc.nibbles", laid_satchel_crc_nibbles), ("unicode/utf8.acceptRanges", laid_unicode_utf8_acceptRanges), ("unicode/utf8.first", laid_unicode_utf8_first)] }
def RecfilePlaysSaid : Prop := recfilePlaysRow.holds Tryd.pinned (OpenSpec.ofChange recfilePlaysSpec)

/-- ITS FALSE NEIGHBOUR: 'it returns false'. Refute it at one input. -/
def recfilePlaysWrong : ChangeSpec := { name := "recfilePlays", fn := fun _ => fun
  | [d1, d2] => { results := [.lit (.bool false)], args := [d1, d2] }
  | _ => none }
def RecfilePlaysWrongFalsely : Prop := recfilePlaysRow.holds Tryd.pinned (OpenSpec.ofChange recfilePlaysWrong)

/-- 'satchellaw09.RecfileThere': WHATEVER THE INPUT: true; the input reads as it did. -/
def recfileThereSpec : ChangeSpec := { name := "recfileThere", fn := fun _ => fun
  | [d1, d2] => { results := [.lit (.bool true)], args := [d1, d2] }
  | _ => none }
def recfileThereRow : OpenClaim := { program := "ytcclcecjidlojaadoor", sum := "9a9a1973d5dcd317dc3af9da5dc2110c55f76c43dbaad9d278c3fad8c5df32a3", func := "satchel/satchellaw09.RecfileThere", spec := "recfileThere", named := ["satchel/crc.nibbles", "unicode/utf8.first", "unicode/utf8.acceptRanges"], apart := false, laid := [("satchel/crc.nibbles", laid_satchel_crc_nibbles), ("unicode/utf8.acceptRanges", laid_unicode_utf8_acceptRanges), ("unicode/utf8.first", laid_unicode_utf8_first)] }
def RecfileThereSaid : Prop := recfileThereRow.holds Tryd.pinned (OpenSpec.ofChange recfileThereSpec)

/-- ITS FALSE NEIGHBOUR: 'it returns false'. Refute it at one input. -/
def recfileThereWrong : ChangeSpec := { name := "recfileThere", fn := fun _ => fun
  | [d1, d2] => { results := [.lit (.bool false)], args := [d1, d2] }
  | _ => none }
def RecfileThereWrongFalsely : Prop := recfileThereRow.holds Tryd.pinned (OpenSpec.ofChange recfileThereWrong)

/-- 'satchellaw09.RecfileSpoilt': WHATEVER THE INPUT: true; the input reads as it did. -/
def recfileSpoiltSpec : ChangeSpec := { name := "recfileSpoilt", fn := fun _ => fun
  | [d1, d2, d3] => { results := [.lit (.bool true)], args := [d1, d2, d3] }
  | _ => none }
def recfileSpoiltRow : OpenClaim := { program := "ytcclcecjidlojaadoor", sum := "9a9a1973d5dcd317dc3af9da5dc2110c55f76c43dbaad9d278c3fad8c5df32a3", func := "satchel/satchellaw09.RecfileSpoilt", spec := "recfileSpoilt", named := ["satchel/crc.nibbles", "unicode/utf8.first", "unicode/utf8.acceptRanges"], apart := false, laid := [("satchel/crc.nibbles", laid_satchel_crc_nibbles), ("unicode/utf8.acceptRanges", laid_unicode_utf8_acceptRanges), ("unicode/utf8.first", laid_unicode_utf8_first)] }
def RecfileSpoiltSaid : Prop := recfileSpoiltRow.holds Tryd.pinned (OpenSpec.ofChange recfileSpoiltSpec)

/-- ITS FALSE NEIGHBOUR: 'it returns false'. Refute it at one input. -/
def recfileSpoiltWrong : ChangeSpec := { name := "recfileSpoilt", fn := fun _ => fun
  | [d1, d2, d3] => { results := [.lit (.bool false)], args := [d1, d2, d3] }
  | _ => none }
def RecfileSpoiltWrongFalsely : Prop := recfileSpoiltRow.holds Tryd.pinned (OpenSpec.ofChange recfileSpoiltWrong)

/-- 'satchellaw09.RecfileLowest': WHATEVER THE INPUT: true; the input reads as it did. -/
def recfileLowestSpec : ChangeSpec := { name := "recfileLowest", fn := fun _ => fun
  | [d1, d2] => { results := [.lit (.bool true)], args := [d1, d2] }
  | _ => none }
def recfileLowestRow : OpenClaim := { program := "ytcclcecjidlojaadoor", sum := "9a9a1973d5dcd317dc3af9da5dc2110c55f76c43dbaad9d278c3fad8c5df32a3", func := "satchel/satchellaw09.RecfileLowest", spec := "recfileLowest", named := ["satchel/crc.nibbles", "unicode/utf8.first", "unicode/utf8.acceptRanges"], apart := false, laid := [("satchel/crc.nibbles", laid_satchel_crc_nibbles), ("unicode/utf8.acceptRanges", laid_unicode_utf8_acceptRanges), ("unicode/utf8.first", laid_unicode_utf8_first)] }
def RecfileLowestSaid : Prop := recfileLowestRow.holds Tryd.pinned (OpenSpec.ofChange recfileLowestSpec)

/-- ITS FALSE NEIGHBOUR: 'it returns false'. Refute it at one input. -/
def recfileLowestWrong : ChangeSpec := { name := "recfileLowest", fn := fun _ => fun
  | [d1, d2] => { results := [.lit (.bool false)], args := [d1, d2] }
  | _ => none }
def RecfileLowestWrongFalsely : Prop := recfileLowestRow.holds Tryd.pinned (OpenSpec.ofChange recfileLowestWrong)

/-- 'satchellaw09.RecfileWalks': WHATEVER THE INPUT: true; the input reads as it did. -/
def recfileWalksSpec : ChangeSpec := { name := "recfileWalks", fn := fun _ => fun
  | [d1, d2] => { results := [.lit (.bool true)], args := [d1, d2] }
  | _ => none }
def recfileWalksRow : OpenClaim := { program := "ytcclcecjidlojaadoor", sum := "9a9a1973d5dcd317dc3af9da5dc2110c55f76c43dbaad9d278c3fad8c5df32a3", func := "satchel/satchellaw09.RecfileWalks", spec := "recfileWalks", unfollowed := true, recurses := true, named := ["satchel/crc.nibbles", "unicode/utf8.first", "unicode/utf8.acceptRanges"], apart := false, laid := [("satchel/crc.nibbles", laid_satchel_crc_nibbles), ("unicode/utf8.acceptRanges", laid_unicode_utf8_acceptRanges), ("unicode/utf8.first", laid_unicode_utf8_first)] }
def RecfileWalksSaid : Prop := recfileWalksRow.holds Tryd.pinned (OpenSpec.ofChange recfileWalksSpec)

/-- ITS FALSE NEIGHBOUR: 'it returns false'. Refute it at one input. -/
def recfileWalksWrong : ChangeSpec := { name := "recfileWalks", fn := fun _ => fun
  | [d1, d2] => { results := [.lit (.bool false)], args := [d1, d2] }
  | _ => none }
def RecfileWalksWrongFalsely : Prop := recfileWalksRow.holds Tryd.pinned (OpenSpec.ofChange recfileWalksWrong)

/- THE SECOND FORM. 'bulk': how many values and letters a reading holds, each counted each time it is reached (what is shared counts as often as it is met; a slice's spare places count too). A statement '..UptoSaid' is the law's where the arguments, and the package variables that the reading takes, are together of bulk at most 1048576: NARROWER than '..Said'. Prove '..Said' where nothing that the law and all that it calls make is longer than what came in: it says more and counts as full. Else prove '..UptoSaid'. A law counts once. -/
mutual
def uptoBulk {H : Type} : DataW H → Nat
  | .lit (.string bytes) => bytes.length + 1
  | .lit _ => 1
  | .nil => 1
  | .ptr d => uptoBulk d + 1
  | .slice elems spare => uptoBulkAll elems + uptoBulkAll spare + 1
  | .agg parts => uptoBulkAll parts + 1
  | .iface _ d => uptoBulk d + 1
  | .map entries => uptoBulkEntries entries + 1
  | .held _ => 1
def uptoBulkAll {H : Type} : List (DataW H) → Nat
  | [] => 0
  | d :: r => uptoBulk d + uptoBulkAll r
def uptoBulkEntries {H : Type} : List (Lit × DataW H) → Nat
  | [] => 0
  | x :: r => uptoBulkEntry x + uptoBulkEntries r
def uptoBulkEntry {H : Type} : Lit × DataW H → Nat
  | (.string bytes, d) => bytes.length + uptoBulk d + 1
  | (_, d) => uptoBulk d + 1
 end
def uptoSmall : (H : Type) → List (DataW H) → Bool := fun _ ds => decide (uptoBulkAll ds ≤ 1048576)
def OpenSpec.upto (s : _root_.Go.ChangeSpec) : _root_.Go.OpenSpec := { _root_.Go.OpenSpec.ofChange s with cond := some uptoSmall }

/-- 'satchellaw09.RecfileNames', WHERE WHAT IT READS IS OF BULK AT MOST 1048576: true; the input reads as it did. -/
def recfileNamesUptoRow : OpenClaim := { program := "ytcclcecjidlojaadoor", sum := "9a9a1973d5dcd317dc3af9da5dc2110c55f76c43dbaad9d278c3fad8c5df32a3", func := "satchel/satchellaw09.RecfileNames", spec := "recfileNames", named := ["satchel/crc.nibbles", "unicode/utf8.first", "unicode/utf8.acceptRanges"], apart := false, laid := [("satchel/crc.nibbles", laid_satchel_crc_nibbles), ("unicode/utf8.acceptRanges", laid_unicode_utf8_acceptRanges), ("unicode/utf8.first", laid_unicode_utf8_first)], narrowed := true }
def RecfileNamesUptoSaid : Prop := recfileNamesUptoRow.holds Tryd.pinned (OpenSpec.upto recfileNamesSpec)

/-- 'satchellaw09.RecfileNews', WHERE WHAT IT READS IS OF BULK AT MOST 1048576: true; the input reads as it did. -/
def recfileNewsUptoRow : OpenClaim := { program := "ytcclcecjidlojaadoor", sum := "9a9a1973d5dcd317dc3af9da5dc2110c55f76c43dbaad9d278c3fad8c5df32a3", func := "satchel/satchellaw09.RecfileNews", spec := "recfileNews", named := ["satchel/crc.nibbles", "unicode/utf8.first", "unicode/utf8.acceptRanges"], apart := false, laid := [("satchel/crc.nibbles", laid_satchel_crc_nibbles), ("unicode/utf8.acceptRanges", laid_unicode_utf8_acceptRanges), ("unicode/utf8.first", laid_unicode_utf8_first)], narrowed := true }
def RecfileNewsUptoSaid : Prop := recfileNewsUptoRow.holds Tryd.pinned (OpenSpec.upto recfileNewsSpec)

/-- 'satchellaw09.RecfileOpens', WHERE WHAT IT READS IS OF BULK AT MOST 1048576: true; the input reads as it did. -/
def recfileOpensUptoRow : OpenClaim := { program := "ytcclcecjidlojaadoor", sum := "9a9a1973d5dcd317dc3af9da5dc2110c55f76c43dbaad9d278c3fad8c5df32a3", func := "satchel/satchellaw09.RecfileOpens", spec := "recfileOpens", named := ["satchel/crc.nibbles", "unicode/utf8.first", "unicode/utf8.acceptRanges"], apart := false, laid := [("satchel/crc.nibbles", laid_satchel_crc_nibbles), ("unicode/utf8.acceptRanges", laid_unicode_utf8_acceptRanges), ("unicode/utf8.first", laid_unicode_utf8_first)], narrowed := true }
def RecfileOpensUptoSaid : Prop := recfileOpensUptoRow.holds Tryd.pinned (OpenSpec.upto recfileOpensSpec)

/-- 'satchellaw09.RecfilePlays', WHERE WHAT IT READS IS OF BULK AT MOST 1048576: true; the input reads as it did. -/
def recfilePlaysUptoRow : OpenClaim := { program := "ytcclcecjidlojaadoor", sum := "9a9a1973d5dcd317dc3af9da5dc2110c55f76c43dbaad9d278c3fad8c5df32a3", func := "satchel/satchellaw09.RecfilePlays", spec := "recfilePlays", named := ["satchel/crc.nibbles", "unicode/utf8.first", "unicode/utf8.acceptRanges"], apart := false, laid := [("satchel/crc.nibbles", laid_satchel_crc_nibbles), ("unicode/utf8.acceptRanges", laid_unicode_utf8_acceptRanges), ("unicode/utf8.first", laid_unicode_utf8_first)], narrowed := true }
def RecfilePlaysUptoSaid : Prop := recfilePlaysUptoRow.holds Tryd.pinned (OpenSpec.upto recfilePlaysSpec)

/-- 'satchellaw09.RecfileThere', WHERE WHAT IT READS IS OF BULK AT MOST 1048576: true; the input reads as it did. -/
def recfileThereUptoRow : OpenClaim := { program := "ytcclcecjidlojaadoor", sum := "9a9a1973d5dcd317dc3af9da5dc2110c55f76c43dbaad9d278c3fad8c5df32a3", func := "satchel/satchellaw09.RecfileThere", spec := "recfileThere", named := ["satchel/crc.nibbles", "unicode/utf8.first", "unicode/utf8.acceptRanges"], apart := false, laid := [("satchel/crc.nibbles", laid_satchel_crc_nibbles), ("unicode/utf8.acceptRanges", laid_unicode_utf8_acceptRanges), ("unicode/utf8.first", laid_unicode_utf8_first)], narrowed := true }
def RecfileThereUptoSaid : Prop := recfileThereUptoRow.holds Tryd.pinned (OpenSpec.upto recfileThereSpec)

/-- 'satchellaw09.RecfileSpoilt', WHERE WHAT IT READS IS OF BULK AT MOST 1048576: true; the input reads as it did. -/
def recfileSpoiltUptoRow : OpenClaim := { program := "ytcclcecjidlojaadoor", sum := "9a9a1973d5dcd317dc3af9da5dc2110c55f76c43dbaad9d278c3fad8c5df32a3", func := "satchel/satchellaw09.RecfileSpoilt", spec := "recfileSpoilt", named := ["satchel/crc.nibbles", "unicode/utf8.first", "unicode/utf8.acceptRanges"], apart := false, laid := [("satchel/crc.nibbles", laid_satchel_crc_nibbles), ("unicode/utf8.acceptRanges", laid_unicode_utf8_acceptRanges), ("unicode/utf8.first", laid_unicode_utf8_first)], narrowed := true }
def RecfileSpoiltUptoSaid : Prop := recfileSpoiltUptoRow.holds Tryd.pinned (OpenSpec.upto recfileSpoiltSpec)

/-- 'satchellaw09.RecfileLowest', WHERE WHAT IT READS IS OF BULK AT MOST 1048576: true; the input reads as it did. -/
def recfileLowestUptoRow : OpenClaim := { program := "ytcclcecjidlojaadoor", sum := "9a9a1973d5dcd317dc3af9da5dc2110c55f76c43dbaad9d278c3fad8c5df32a3", func := "satchel/satchellaw09.RecfileLowest", spec := "recfileLowest", named := ["satchel/crc.nibbles", "unicode/utf8.first", "unicode/utf8.acceptRanges"], apart := false, laid := [("satchel/crc.nibbles", laid_satchel_crc_nibbles), ("unicode/utf8.acceptRanges", laid_unicode_utf8_acceptRanges), ("unicode/utf8.first", laid_unicode_utf8_first)], narrowed := true }
def RecfileLowestUptoSaid : Prop := recfileLowestUptoRow.holds Tryd.pinned (OpenSpec.upto recfileLowestSpec)

/-- 'satchellaw09.RecfileWalks', WHERE WHAT IT READS IS OF BULK AT MOST 1048576: true; the input reads as it did. -/
def recfileWalksUptoRow : OpenClaim := { program := "ytcclcecjidlojaadoor", sum := "9a9a1973d5dcd317dc3af9da5dc2110c55f76c43dbaad9d278c3fad8c5df32a3", func := "satchel/satchellaw09.RecfileWalks", spec := "recfileWalks", unfollowed := true, recurses := true, named := ["satchel/crc.nibbles", "unicode/utf8.first", "unicode/utf8.acceptRanges"], apart := false, laid := [("satchel/crc.nibbles", laid_satchel_crc_nibbles), ("unicode/utf8.acceptRanges", laid_unicode_utf8_acceptRanges), ("unicode/utf8.first", laid_unicode_utf8_first)], narrowed := true }
def RecfileWalksUptoSaid : Prop := recfileWalksUptoRow.holds Tryd.pinned (OpenSpec.upto recfileWalksSpec)

end Rows
end Go.Proofs.YtcclcecjidlojaaDoor
