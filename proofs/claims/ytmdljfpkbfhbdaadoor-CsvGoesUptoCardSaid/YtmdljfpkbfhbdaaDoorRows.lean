/-
  NARROWER THAN 'FOR EVERY INPUT', by the rows' own cells (each row's printed sentence says how): CsvPrints: laid · CsvParses: laid · CsvGoes: laid · CsvThere: laid · CsvBack: laid · CsvJoins: laid · CsvOwn: laid.
  DERIVED. THE GIVEN ROWS OF THIS SEAT. 7 by the template 'for every input the law returns true; each argument reads behind the call as it read before'; 0 by the template 'total and deterministic' (their statements: YtmdljfpkbfhbdaaDoorTotals.lean).
  GIVEN WITH THE SEED: the statements are not yours to turn. If you find one false, say at which input.
  Laid BY PROGRAM, IN A SANDBOX (cutbox-rows.mjs): the forced cells as the released guide's own fill.sh prints them over the translation b91c09f772c8e531… (all of the seat's roots in one cut). By AI agents, Wed Nov 11 2026. No macro, syntax, notation, axiom, sorry.
-/
import Derived.Test.YtmdljfpkbfhbdaaDoorChecked
import GoSem.PinnedTables
import GoSem.Claim
import GoSem.ClaimJoined
import GoSem.ClaimMapViews
import Derived.JoinedTies
import Derived.KernelRfl
namespace Go.Proofs.YtmdljfpkbfhbdaaDoor
/- THE CELL 'sum', in the pinned program and in every row, IS THE sha256 OF THE DUMP (.gsa) THAT YtmdljfpkbfhbdaaDoorProg.lean LOADS. Nothing in Lean hashes anything: it is a label: what it is worth is what the hold of that sum in a sandbox is worth. -/
noncomputable def Tryd.pinned : Pinned := { name := "ytmdljfpkbfhbdaadoor", sum := "b91c09f772c8e5312d2921f25b6029bb00214abd5fbb87c51c02cb6c9ef0f281", checked := Tryd.checked }
namespace Rows
def none {H : Type} : Left H := { results := [], args := [] }

/- WHAT THE LISTED PACKAGE-LEVEL VARIABLES READ AS WHEN THE CALL BEGINS. Each datum BY PROGRAM (the guide's laid-datum.mjs) off the statement by which the dump's own 'gosem.cut.vars' lays the variable. In a bare row this is a premise. The card (YtmdljfpkbfhbdaaDoorCards.lean) ties it to the program's text. -/
def laid_unicode_utf8_acceptRanges {H : Type} : DataW H := .agg [.agg [.lit (.int .u8 128), .lit (.int .u8 191)], .agg [.lit (.int .u8 160), .lit (.int .u8 191)], .agg [.lit (.int .u8 128), .lit (.int .u8 159)], .agg [.lit (.int .u8 144), .lit (.int .u8 191)], .agg [.lit (.int .u8 128), .lit (.int .u8 143)], .agg [.lit (.int .u8 0), .lit (.int .u8 0)], .agg [.lit (.int .u8 0), .lit (.int .u8 0)], .agg [.lit (.int .u8 0), .lit (.int .u8 0)], .agg [.lit (.int .u8 0), .lit (.int .u8 0)], .agg [.lit (.int .u8 0), .lit (.int .u8 0)], .agg [.lit (.int .u8 0), .lit (.int .u8 0)], .agg [.lit (.int .u8 0), .lit (.int .u8 0)], .agg [.lit (.int .u8 0), .lit (.int .u8 0)], .agg [.lit (.int .u8 0), .lit (.int .u8 0)], .agg [.lit (.int .u8 0), .lit (.int .u8 0)], .agg [.lit (.int .u8 0), .lit (.int .u8 0)]]
/-- One of Go's own tables, pinned by name: the form's constant. -/
def laid_unicode_utf8_first : DataW Unit := Go.Pinned.utf8First

/-- 'satchellaw21.CsvPrints': WHATEVER THE INPUT: true; the input reads as it did. -/
def csvPrintsSpec : ChangeSpec := { name := "csvPrints", fn := fun _ => fun
  | [d] => { results := [.lit (.bool true)], args := [d] }
  | _ => none }
def csvPrintsRow : OpenClaim := { program := "ytmdljfpkbfhbdaadoor", sum := "b91c09f772c8e5312d2921f25b6029bb00214abd5fbb87c51c02cb6c9ef0f281", func := "satchel/satchellaw21.CsvPrints", spec := "csvPrints", inPlace := ["internal/abi.NoEscape", "internal/bytealg.IndexByteString", "internal/bytealg.IndexString", "internal/bytealg.CountString", "internal/bytealg.MakeNoZero"], unfollowed := true, recurses := true, named := ["internal/bytealg.MaxLen", "unicode/utf8.first", "unicode/utf8.acceptRanges"], apart := false, laid := [("unicode/utf8.acceptRanges", laid_unicode_utf8_acceptRanges), ("unicode/utf8.first", laid_unicode_utf8_first)] }
def CsvPrintsSaid : Prop := csvPrintsRow.holds Tryd.pinned (OpenSpec.ofChange csvPrintsSpec)

/-- ITS FALSE NEIGHBOUR: 'it returns false'. Refute it at one input. -/
def csvPrintsWrong : ChangeSpec := { name := "csvPrints", fn := fun _ => fun
  | [d] => { results := [.lit (.bool false)], args := [d] }
  | _ => none }
def CsvPrintsWrongFalsely : Prop := csvPrintsRow.holds Tryd.pinned (OpenSpec.ofChange csvPrintsWrong)

/-- 'satchellaw21.CsvParses': WHATEVER THE INPUT: true; the input reads as it did. -/
def csvParsesSpec : ChangeSpec := { name := "csvParses", fn := fun _ => fun
  | [d] => { results := [.lit (.bool true)], args := [d] }
  | _ => none }
def csvParsesRow : OpenClaim := { program := "ytmdljfpkbfhbdaadoor", sum := "b91c09f772c8e5312d2921f25b6029bb00214abd5fbb87c51c02cb6c9ef0f281", func := "satchel/satchellaw21.CsvParses", spec := "csvParses", inPlace := ["internal/abi.NoEscape", "internal/bytealg.IndexByteString", "internal/bytealg.IndexString", "internal/bytealg.CountString", "internal/bytealg.MakeNoZero"], unfollowed := true, recurses := true, named := ["internal/bytealg.MaxLen", "unicode/utf8.first", "unicode/utf8.acceptRanges"], apart := false, laid := [("unicode/utf8.acceptRanges", laid_unicode_utf8_acceptRanges), ("unicode/utf8.first", laid_unicode_utf8_first)] }
def CsvParsesSaid : Prop := csvParsesRow.holds Tryd.pinned (OpenSpec.ofChange csvParsesSpec)

/-- ITS FALSE NEIGHBOUR: 'it returns false'. Refute it at one input. -/
def csvParsesWrong : ChangeSpec := { name := "csvParses", fn := fun _ => fun
  | [d] => { results := [.lit (.bool false)], args := [d] }
  | _ => none }
def CsvParsesWrongFalsely : Prop := csvParsesRow.holds Tryd.pinned (OpenSpec.ofChange csvParsesWrong)

/-- 'satchellaw21.CsvGoes': WHATEVER THE INPUT: true; the input reads as it did. -/
def csvGoesSpec : ChangeSpec := { name := "csvGoes", fn := fun _ => fun
  | [d] => { results := [.lit (.bool true)], args := [d] }
  | _ => none }
def csvGoesRow : OpenClaim := { program := "ytmdljfpkbfhbdaadoor", sum := "b91c09f772c8e5312d2921f25b6029bb00214abd5fbb87c51c02cb6c9ef0f281", func := "satchel/satchellaw21.CsvGoes", spec := "csvGoes", inPlace := ["internal/abi.NoEscape", "internal/bytealg.IndexByteString", "internal/bytealg.IndexString", "internal/bytealg.CountString", "internal/bytealg.MakeNoZero"], unfollowed := true, recurses := true, named := ["internal/bytealg.MaxLen", "unicode/utf8.first", "unicode/utf8.acceptRanges"], apart := false, laid := [("unicode/utf8.acceptRanges", laid_unicode_utf8_acceptRanges), ("unicode/utf8.first", laid_unicode_utf8_first)] }
def CsvGoesSaid : Prop := csvGoesRow.holds Tryd.pinned (OpenSpec.ofChange csvGoesSpec)

/-- ITS FALSE NEIGHBOUR: 'it returns false'. Refute it at one input. -/
def csvGoesWrong : ChangeSpec := { name := "csvGoes", fn := fun _ => fun
  | [d] => { results := [.lit (.bool false)], args := [d] }
  | _ => none }
def CsvGoesWrongFalsely : Prop := csvGoesRow.holds Tryd.pinned (OpenSpec.ofChange csvGoesWrong)

/-- 'satchellaw21.CsvThere': WHATEVER THE INPUT: true; the input reads as it did. -/
def csvThereSpec : ChangeSpec := { name := "csvThere", fn := fun _ => fun
  | [d] => { results := [.lit (.bool true)], args := [d] }
  | _ => none }
def csvThereRow : OpenClaim := { program := "ytmdljfpkbfhbdaadoor", sum := "b91c09f772c8e5312d2921f25b6029bb00214abd5fbb87c51c02cb6c9ef0f281", func := "satchel/satchellaw21.CsvThere", spec := "csvThere", inPlace := ["internal/abi.NoEscape", "internal/bytealg.IndexByteString", "internal/bytealg.IndexString", "internal/bytealg.CountString", "internal/bytealg.MakeNoZero"], unfollowed := true, recurses := true, named := ["internal/bytealg.MaxLen", "unicode/utf8.first", "unicode/utf8.acceptRanges"], apart := false, laid := [("unicode/utf8.acceptRanges", laid_unicode_utf8_acceptRanges), ("unicode/utf8.first", laid_unicode_utf8_first)] }
def CsvThereSaid : Prop := csvThereRow.holds Tryd.pinned (OpenSpec.ofChange csvThereSpec)

/-- ITS FALSE NEIGHBOUR: 'it returns false'. Refute it at one input. -/
def csvThereWrong : ChangeSpec := { name := "csvThere", fn := fun _ => fun
  | [d] => { results := [.lit (.bool false)], args := [d] }
  | _ => none }
def CsvThereWrongFalsely : Prop := csvThereRow.holds Tryd.pinned (OpenSpec.ofChange csvThereWrong)

/-- 'satchellaw21.CsvBack': WHATEVER THE INPUT: true; the input reads as it did. -/
def csvBackSpec : ChangeSpec := { name := "csvBack", fn := fun _ => fun
  | [d] => { results := [.lit (.bool true)], args := [d] }
  | _ => none }
def csvBackRow : OpenClaim := { program := "ytmdljfpkbfhbdaadoor", sum := "b91c09f772c8e5312d2921f25b6029bb00214abd5fbb87c51c02cb6c9ef0f281", func := "satchel/satchellaw21.CsvBack", spec := "csvBack", inPlace := ["internal/abi.NoEscape", "internal/bytealg.IndexByteString", "internal/bytealg.IndexString", "internal/bytealg.CountString", "internal/bytealg.MakeNoZero"], unfollowed := true, recurses := true, named := ["internal/bytealg.MaxLen", "unicode/utf8.first", "unicode/utf8.acceptRanges"], apart := false, laid := [("unicode/utf8.acceptRanges", laid_unicode_utf8_acceptRanges), ("unicode/utf8.first", laid_unicode_utf8_first)] }
def CsvBackSaid : Prop := csvBackRow.holds Tryd.pinned (OpenSpec.ofChange csvBackSpec)

/-- ITS FALSE NEIGHBOUR: 'it returns false'. Refute it at one input. -/
def csvBackWrong : ChangeSpec := { name := "csvBack", fn := fun _ => fun
  | [d] => { results := [.lit (.bool false)], args := [d] }
  | _ => none }
def CsvBackWrongFalsely : Prop := csvBackRow.holds Tryd.pinned (OpenSpec.ofChange csvBackWrong)

/-- 'satchellaw21.CsvJoins': WHATEVER THE INPUT: true; the input reads as it did. -/
def csvJoinsSpec : ChangeSpec := { name := "csvJoins", fn := fun _ => fun
  | [d1, d2] => { results := [.lit (.bool true)], args := [d1, d2] }
  | _ => none }
def csvJoinsRow : OpenClaim := { program := "ytmdljfpkbfhbdaadoor", sum := "b91c09f772c8e5312d2921f25b6029bb00214abd5fbb87c51c02cb6c9ef0f281", func := "satchel/satchellaw21.CsvJoins", spec := "csvJoins", inPlace := ["internal/abi.NoEscape", "internal/bytealg.IndexByteString", "internal/bytealg.IndexString", "internal/bytealg.CountString", "internal/bytealg.MakeNoZero"], unfollowed := true, recurses := true, named := ["internal/bytealg.MaxLen", "unicode/utf8.first", "unicode/utf8.acceptRanges"], apart := false, laid := [("unicode/utf8.acceptRanges", laid_unicode_utf8_acceptRanges), ("unicode/utf8.first", laid_unicode_utf8_first)] }
def CsvJoinsSaid : Prop := csvJoinsRow.holds Tryd.pinned (OpenSpec.ofChange csvJoinsSpec)

/-- ITS FALSE NEIGHBOUR: 'it returns false'. Refute it at one input. -/
def csvJoinsWrong : ChangeSpec := { name := "csvJoins", fn := fun _ => fun
  | [d1, d2] => { results := [.lit (.bool false)], args := [d1, d2] }
  | _ => none }
def CsvJoinsWrongFalsely : Prop := csvJoinsRow.holds Tryd.pinned (OpenSpec.ofChange csvJoinsWrong)

/-- 'satchellaw21.CsvOwn': WHATEVER THE INPUT: true; the input reads as it did. -/
def csvOwnSpec : ChangeSpec := { name := "csvOwn", fn := fun _ => fun
  | [d] => { results := [.lit (.bool true)], args := [d] }
  | _ => none }
def csvOwnRow : OpenClaim := { program := "ytmdljfpkbfhbdaadoor", sum := "b91c09f772c8e5312d2921f25b6029bb00214abd5fbb87c51c02cb6c9ef0f281", func := "satchel/satchellaw21.CsvOwn", spec := "csvOwn", inPlace := ["internal/abi.NoEscape", "internal/bytealg.IndexByteString", "internal/bytealg.IndexString", "internal/bytealg.CountString", "internal/bytealg.MakeNoZero"], unfollowed := true, recurses := true, named := ["internal/bytealg.MaxLen", "unicode/utf8.first", "unicode/utf8.acceptRanges"], apart := false, laid := [("unicode/utf8.acceptRanges", laid_unicode_utf8_acceptRanges), ("unicode/utf8.first", laid_unicode_utf8_first)] }
def CsvOwnSaid : Prop := csvOwnRow.holds Tryd.pinned (OpenSpec.ofChange csvOwnSpec)

/-- ITS FALSE NEIGHBOUR: 'it returns false'. Refute it at one input. -/
def csvOwnWrong : ChangeSpec := { name := "csvOwn", fn := fun _ => fun
  | [d] => { results := [.lit (.bool false)], args := [d] }
  | _ => none }
def CsvOwnWrongFalsely : Prop := csvOwnRow.holds Tryd.pinned (OpenSpec.ofChange csvOwnWrong)

/- THE SECOND FORM. 'bulk': how many values and letters a reading holds, each counted each time it is reached (what is shared counts as often as it is met; a slice's spare places count too). A statement '..UptoSaid' is the law's where the arguments, and the package variables that the reading takes, are together of bulk at most 1048576: NARROWER than '..Said'. Prove '..Said' where nothing that the law and all that it calls make is longer than what came in: it says more and counts as full. Else prove '..UptoSaid'. A law counts once. -/
mutual
def uptoBulk {H : Type} : DataW H → Nat
  | .lit (.string bytes) => bytes.length + 1
  | .lit _ => 1
  | .nil => 1
  | .ptr d => uptoBulk d + 1
  | .slice elems spare => uptoBulkAll elems + uptoBulkAll spare + 1
  | .agg parts => uptoBulkAll parts + 1
  | .iface _ d => uptoBulk d + 1
  | .map entries => uptoBulkEntries entries + 1
  | .held _ => 1
def uptoBulkAll {H : Type} : List (DataW H) → Nat
  | [] => 0
  | d :: r => uptoBulk d + uptoBulkAll r
def uptoBulkEntries {H : Type} : List (Lit × DataW H) → Nat
  | [] => 0
  | x :: r => uptoBulkEntry x + uptoBulkEntries r
def uptoBulkEntry {H : Type} : Lit × DataW H → Nat
  | (.string bytes, d) => bytes.length + uptoBulk d + 1
  | (_, d) => uptoBulk d + 1
 end
def uptoSmall : (H : Type) → List (DataW H) → Bool := fun _ ds => decide (uptoBulkAll ds ≤ 1048576)
def OpenSpec.upto (s : _root_.Go.ChangeSpec) : _root_.Go.OpenSpec := { _root_.Go.OpenSpec.ofChange s with cond := some uptoSmall }

/-- 'satchellaw21.CsvPrints', WHERE WHAT IT READS IS OF BULK AT MOST 1048576: true; the input reads as it did. -/
def csvPrintsUptoRow : OpenClaim := { program := "ytmdljfpkbfhbdaadoor", sum := "b91c09f772c8e5312d2921f25b6029bb00214abd5fbb87c51c02cb6c9ef0f281", func := "satchel/satchellaw21.CsvPrints", spec := "csvPrints", inPlace := ["internal/abi.NoEscape", "internal/bytealg.IndexByteString", "internal/bytealg.IndexString", "internal/bytealg.CountString", "internal/bytealg.MakeNoZero"], unfollowed := true, recurses := true, named := ["internal/bytealg.MaxLen", "unicode/utf8.first", "unicode/utf8.acceptRanges"], apart := false, laid := [("unicode/utf8.acceptRanges", laid_unicode_utf8_acceptRanges), ("unicode/utf8.first", laid_unicode_utf8_first)], narrowed := true }
def CsvPrintsUptoSaid : Prop := csvPrintsUptoRow.holds Tryd.pinned (OpenSpec.upto csvPrintsSpec)

/-- 'satchellaw21.CsvParses', WHERE WHAT IT READS IS OF BULK AT MOST 1048576: true; the input reads as it did. -/
def csvParsesUptoRow : OpenClaim := { program := "ytmdljfpkbfhbdaadoor", sum := "b91c09f772c8e5312d2921f25b6029bb00214abd5fbb87c51c02cb6c9ef0f281", func := "satchel/satchellaw21.CsvParses", spec := "csvParses", inPlace := ["internal/abi.NoEscape", "internal/bytealg.IndexByteString", "internal/bytealg.IndexString", "internal/bytealg.CountString", "internal/bytealg.MakeNoZero"], unfollowed := true, recurses := true, named := ["internal/bytealg.MaxLen", "unicode/utf8.first", "unicode/utf8.acceptRanges"], apart := false, laid := [("unicode/utf8.acceptRanges", laid_unicode_utf8_acceptRanges), ("unicode/utf8.first", laid_unicode_utf8_first)], narrowed := true }
def CsvParsesUptoSaid : Prop := csvParsesUptoRow.holds Tryd.pinned (OpenSpec.upto csvParsesSpec)

/-- 'satchellaw21.CsvGoes', WHERE WHAT IT READS IS OF BULK AT MOST 1048576: true; the input reads as it did. -/
def csvGoesUptoRow : OpenClaim := { program := "ytmdljfpkbfhbdaadoor", sum := "b91c09f772c8e5312d2921f25b6029bb00214abd5fbb87c51c02cb6c9ef0f281", func := "satchel/satchellaw21.CsvGoes", spec := "csvGoes", inPlace := ["internal/abi.NoEscape", "internal/bytealg.IndexByteString", "internal/bytealg.IndexString", "internal/bytealg.CountString", "internal/bytealg.MakeNoZero"], unfollowed := true, recurses := true, named := ["internal/bytealg.MaxLen", "unicode/utf8.first", "unicode/utf8.acceptRanges"], apart := false, laid := [("unicode/utf8.acceptRanges", laid_unicode_utf8_acceptRanges), ("unicode/utf8.first", laid_unicode_utf8_first)], narrowed := true }
def CsvGoesUptoSaid : Prop := csvGoesUptoRow.holds Tryd.pinned (OpenSpec.upto csvGoesSpec)

/-- 'satchellaw21.CsvThere', WHERE WHAT IT READS IS OF BULK AT MOST 1048576: true; the input reads as it did. -/
def csvThereUptoRow : OpenClaim := { program := "ytmdljfpkbfhbdaadoor", sum := "b91c09f772c8e5312d2921f25b6029bb00214abd5fbb87c51c02cb6c9ef0f281", func := "satchel/satchellaw21.CsvThere", spec := "csvThere", inPlace := ["internal/abi.NoEscape", "internal/bytealg.IndexByteString", "internal/bytealg.IndexString", "internal/bytealg.CountString", "internal/bytealg.MakeNoZero"], unfollowed := true, recurses := true, named := ["internal/bytealg.MaxLen", "unicode/utf8.first", "unicode/utf8.acceptRanges"], apart := false, laid := [("unicode/utf8.acceptRanges", laid_unicode_utf8_acceptRanges), ("unicode/utf8.first", laid_unicode_utf8_first)], narrowed := true }
def CsvThereUptoSaid : Prop := csvThereUptoRow.holds Tryd.pinned (OpenSpec.upto csvThereSpec)

/-- 'satchellaw21.CsvBack', WHERE WHAT IT READS IS OF BULK AT MOST 1048576: true; the input reads as it did. -/
def csvBackUptoRow : OpenClaim := { program := "ytmdljfpkbfhbdaadoor", sum := "b91c09f772c8e5312d2921f25b6029bb00214abd5fbb87c51c02cb6c9ef0f281", func := "satchel/satchellaw21.CsvBack", spec := "csvBack", inPlace := ["internal/abi.NoEscape", "internal/bytealg.IndexByteString", "internal/bytealg.IndexString", "internal/bytealg.CountString", "internal/bytealg.MakeNoZero"], unfollowed := true, recurses := true, named := ["internal/bytealg.MaxLen", "unicode/utf8.first", "unicode/utf8.acceptRanges"], apart := false, laid := [("unicode/utf8.acceptRanges", laid_unicode_utf8_acceptRanges), ("unicode/utf8.first", laid_unicode_utf8_first)], narrowed := true }
def CsvBackUptoSaid : Prop := csvBackUptoRow.holds Tryd.pinned (OpenSpec.upto csvBackSpec)

/-- 'satchellaw21.CsvJoins', WHERE WHAT IT READS IS OF BULK AT MOST 1048576: true; the input reads as it did. -/
def csvJoinsUptoRow : OpenClaim := { program := "ytmdljfpkbfhbdaadoor", sum := "b91c09f772c8e5312d2921f25b6029bb00214abd5fbb87c51c02cb6c9ef0f281", func := "satchel/satchellaw21.CsvJoins", spec := "csvJoins", inPlace := ["internal/abi.NoEscape", "internal/bytealg.IndexByteString", "internal/bytealg.IndexString", "internal/bytealg.CountString", "internal/bytealg.MakeNoZero"], unfollowed := true, recurses := true, named := ["internal/bytealg.MaxLen", "unicode/utf8.first", "unicode/utf8.acceptRanges"], apart := false, laid := [("unicode/utf8.acceptRanges", laid_unicode_utf8_acceptRanges), ("unicode/utf8.first", laid_unicode_utf8_first)], narrowed := true }
def CsvJoinsUptoSaid : Prop := csvJoinsUptoRow.holds Tryd.pinned (OpenSpec.upto csvJoinsSpec)

/-- 'satchellaw21.CsvOwn', WHERE WHAT IT READS IS OF BULK AT MOST 1048576: true; the input reads as it did. -/
def csvOwnUptoRow : OpenClaim := { program := "ytmdljfpkbfhbdaadoor", sum := "b91c09f772c8e5312d2921f25b6029bb00214abd5fbb87c51c02cb6c9ef0f281", func := "satchel/satchellaw21.CsvOwn", spec := "csvOwn", inPlace := ["internal/abi.NoEscape", "internal/bytealg.IndexByteString", "internal/bytealg.IndexString", "internal/bytealg.CountString", "internal/bytealg.MakeNoZero"], unfollowed := true, recurses := true, named := ["internal/bytealg.MaxLen", "unicode/utf8.first", "unicode/utf8.acceptRanges"], apart := false, laid := [("unicode/utf8.acceptRanges", laid_unicode_utf8_acceptRanges), ("unicode/utf8.first", laid_unicode_utf8_first)], narrowed := true }
def CsvOwnUptoSaid : Prop := csvOwnUptoRow.holds Tryd.pinned (OpenSpec.upto csvOwnSpec)

end Rows
end Go.Proofs.YtmdljfpkbfhbdaaDoor
