/-
  DERIVED. GIVEN WITH THE SEED: THE CARDS: each row of YtmdljfpkbfhbdaaDoorRows.lean that lists a variable, with what it lists TIED to the program's text (the seventh form; the later family's looks); each row that meets fmt, with fmt's text TOLD by the authors' own Lean function (tested against real Go, not proved from fmt's source: count such statements apart). THE CARD IS WHAT COUNTS. Prove the row's statement (the work); the ties are given (YtmdljfpkbfhbdaaDoorTie.lean); close each card by the builder's one call (the guide's Derived/Test/ToyasCard.lean, 'card_holds'). Laid BY PROGRAM, IN A SANDBOX (cutbox-door.mjs). By AI agents, Wed Nov 11 2026. No macro, syntax, notation, axiom, sorry.
-/
import Derived.Test.YtmdljfpkbfhbdaaDoorRows
import GoSem.ClaimSeven
namespace Go.Proofs.YtmdljfpkbfhbdaaDoor
namespace Rows

/-- THE TIED CARD OF 'satchellaw21.CsvPrints'. -/
def csvPrintsCard : Claim7 := { stood := { row := csvPrintsRow, standIns := [], harness := (true, "30001d4ac1fea7e462a85abf05795de1b14801712c65f7253d5d4524f1a8366c"), looks := false }, kinds := [], alts := [], laidByText := true, laidKinds := [.data, .pinned], laidTests := true, laidLooks := .later }
def CsvPrintsCardSaid : Prop := Claim7.holds Tryd.pinned (.plain (OpenSpec.ofChange csvPrintsSpec)) csvPrintsCard

/-- THE TIED CARD OF 'satchellaw21.CsvParses'. -/
def csvParsesCard : Claim7 := { stood := { row := csvParsesRow, standIns := [], harness := (true, "30001d4ac1fea7e462a85abf05795de1b14801712c65f7253d5d4524f1a8366c"), looks := false }, kinds := [], alts := [], laidByText := true, laidKinds := [.data, .pinned], laidTests := true, laidLooks := .later }
def CsvParsesCardSaid : Prop := Claim7.holds Tryd.pinned (.plain (OpenSpec.ofChange csvParsesSpec)) csvParsesCard

/-- THE TIED CARD OF 'satchellaw21.CsvGoes'. -/
def csvGoesCard : Claim7 := { stood := { row := csvGoesRow, standIns := [], harness := (true, "30001d4ac1fea7e462a85abf05795de1b14801712c65f7253d5d4524f1a8366c"), looks := false }, kinds := [], alts := [], laidByText := true, laidKinds := [.data, .pinned], laidTests := true, laidLooks := .later }
def CsvGoesCardSaid : Prop := Claim7.holds Tryd.pinned (.plain (OpenSpec.ofChange csvGoesSpec)) csvGoesCard

/-- THE TIED CARD OF 'satchellaw21.CsvThere'. -/
def csvThereCard : Claim7 := { stood := { row := csvThereRow, standIns := [], harness := (true, "30001d4ac1fea7e462a85abf05795de1b14801712c65f7253d5d4524f1a8366c"), looks := false }, kinds := [], alts := [], laidByText := true, laidKinds := [.data, .pinned], laidTests := true, laidLooks := .later }
def CsvThereCardSaid : Prop := Claim7.holds Tryd.pinned (.plain (OpenSpec.ofChange csvThereSpec)) csvThereCard

/-- THE TIED CARD OF 'satchellaw21.CsvBack'. -/
def csvBackCard : Claim7 := { stood := { row := csvBackRow, standIns := [], harness := (true, "30001d4ac1fea7e462a85abf05795de1b14801712c65f7253d5d4524f1a8366c"), looks := false }, kinds := [], alts := [], laidByText := true, laidKinds := [.data, .pinned], laidTests := true, laidLooks := .later }
def CsvBackCardSaid : Prop := Claim7.holds Tryd.pinned (.plain (OpenSpec.ofChange csvBackSpec)) csvBackCard

/-- THE TIED CARD OF 'satchellaw21.CsvJoins'. -/
def csvJoinsCard : Claim7 := { stood := { row := csvJoinsRow, standIns := [], harness := (true, "30001d4ac1fea7e462a85abf05795de1b14801712c65f7253d5d4524f1a8366c"), looks := false }, kinds := [], alts := [], laidByText := true, laidKinds := [.data, .pinned], laidTests := true, laidLooks := .later }
def CsvJoinsCardSaid : Prop := Claim7.holds Tryd.pinned (.plain (OpenSpec.ofChange csvJoinsSpec)) csvJoinsCard

/-- THE TIED CARD OF 'satchellaw21.CsvOwn'. -/
def csvOwnCard : Claim7 := { stood := { row := csvOwnRow, standIns := [], harness := (true, "30001d4ac1fea7e462a85abf05795de1b14801712c65f7253d5d4524f1a8366c"), looks := false }, kinds := [], alts := [], laidByText := true, laidKinds := [.data, .pinned], laidTests := true, laidLooks := .later }
def CsvOwnCardSaid : Prop := Claim7.holds Tryd.pinned (.plain (OpenSpec.ofChange csvOwnSpec)) csvOwnCard

/-- THE SECOND FORM's CARD OF 'satchellaw21.CsvPrints'. -/
def csvPrintsUptoCard : Claim7 := { stood := { row := csvPrintsUptoRow, standIns := [], harness := (true, "30001d4ac1fea7e462a85abf05795de1b14801712c65f7253d5d4524f1a8366c"), looks := false }, kinds := [], alts := [], laidByText := true, laidKinds := [.data, .pinned], laidTests := true, laidLooks := .later }
def CsvPrintsUptoCardSaid : Prop := Claim7.holds Tryd.pinned (.plain (OpenSpec.upto csvPrintsSpec)) csvPrintsUptoCard

/-- THE SECOND FORM's CARD OF 'satchellaw21.CsvParses'. -/
def csvParsesUptoCard : Claim7 := { stood := { row := csvParsesUptoRow, standIns := [], harness := (true, "30001d4ac1fea7e462a85abf05795de1b14801712c65f7253d5d4524f1a8366c"), looks := false }, kinds := [], alts := [], laidByText := true, laidKinds := [.data, .pinned], laidTests := true, laidLooks := .later }
def CsvParsesUptoCardSaid : Prop := Claim7.holds Tryd.pinned (.plain (OpenSpec.upto csvParsesSpec)) csvParsesUptoCard

/-- THE SECOND FORM's CARD OF 'satchellaw21.CsvGoes'. -/
def csvGoesUptoCard : Claim7 := { stood := { row := csvGoesUptoRow, standIns := [], harness := (true, "30001d4ac1fea7e462a85abf05795de1b14801712c65f7253d5d4524f1a8366c"), looks := false }, kinds := [], alts := [], laidByText := true, laidKinds := [.data, .pinned], laidTests := true, laidLooks := .later }
def CsvGoesUptoCardSaid : Prop := Claim7.holds Tryd.pinned (.plain (OpenSpec.upto csvGoesSpec)) csvGoesUptoCard

/-- THE SECOND FORM's CARD OF 'satchellaw21.CsvThere'. -/
def csvThereUptoCard : Claim7 := { stood := { row := csvThereUptoRow, standIns := [], harness := (true, "30001d4ac1fea7e462a85abf05795de1b14801712c65f7253d5d4524f1a8366c"), looks := false }, kinds := [], alts := [], laidByText := true, laidKinds := [.data, .pinned], laidTests := true, laidLooks := .later }
def CsvThereUptoCardSaid : Prop := Claim7.holds Tryd.pinned (.plain (OpenSpec.upto csvThereSpec)) csvThereUptoCard

/-- THE SECOND FORM's CARD OF 'satchellaw21.CsvBack'. -/
def csvBackUptoCard : Claim7 := { stood := { row := csvBackUptoRow, standIns := [], harness := (true, "30001d4ac1fea7e462a85abf05795de1b14801712c65f7253d5d4524f1a8366c"), looks := false }, kinds := [], alts := [], laidByText := true, laidKinds := [.data, .pinned], laidTests := true, laidLooks := .later }
def CsvBackUptoCardSaid : Prop := Claim7.holds Tryd.pinned (.plain (OpenSpec.upto csvBackSpec)) csvBackUptoCard

/-- THE SECOND FORM's CARD OF 'satchellaw21.CsvJoins'. -/
def csvJoinsUptoCard : Claim7 := { stood := { row := csvJoinsUptoRow, standIns := [], harness := (true, "30001d4ac1fea7e462a85abf05795de1b14801712c65f7253d5d4524f1a8366c"), looks := false }, kinds := [], alts := [], laidByText := true, laidKinds := [.data, .pinned], laidTests := true, laidLooks := .later }
def CsvJoinsUptoCardSaid : Prop := Claim7.holds Tryd.pinned (.plain (OpenSpec.upto csvJoinsSpec)) csvJoinsUptoCard

/-- THE SECOND FORM's CARD OF 'satchellaw21.CsvOwn'. -/
def csvOwnUptoCard : Claim7 := { stood := { row := csvOwnUptoRow, standIns := [], harness := (true, "30001d4ac1fea7e462a85abf05795de1b14801712c65f7253d5d4524f1a8366c"), looks := false }, kinds := [], alts := [], laidByText := true, laidKinds := [.data, .pinned], laidTests := true, laidLooks := .later }
def CsvOwnUptoCardSaid : Prop := Claim7.holds Tryd.pinned (.plain (OpenSpec.upto csvOwnSpec)) csvOwnUptoCard
end Rows
end Go.Proofs.YtmdljfpkbfhbdaaDoor
