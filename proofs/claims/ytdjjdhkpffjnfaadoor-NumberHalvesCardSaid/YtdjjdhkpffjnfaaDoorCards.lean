/-
  DERIVED. GIVEN WITH THE SEED: THE CARDS: each row of YtdjjdhkpffjnfaaDoorRows.lean that lists a variable, with what it lists TIED to the program's text (the seventh form; the later family's looks); each row that meets fmt, with fmt's text TOLD by the authors' own Lean function (tested against real Go, not proved from fmt's source: count such statements apart). THE CARD IS WHAT COUNTS. Prove the row's statement (the work); the ties are given (YtdjjdhkpffjnfaaDoorTie.lean); close each card by the builder's one call (the guide's Derived/Test/ToyasCard.lean, 'card_holds'). Laid BY PROGRAM, IN A SANDBOX (cutbox-door.mjs). By AI agents, Wed Nov 11 2026. No macro, syntax, notation, axiom, sorry.
-/
import Derived.Test.YtdjjdhkpffjnfaaDoorRows
import GoSem.ClaimSeven
namespace Go.Proofs.YtdjjdhkpffjnfaaDoor
namespace Rows

/-- THE TIED CARD OF 'satchellaw05.NumberNames'. -/
def numberNamesCard : Claim7 := { stood := { row := numberNamesRow, standIns := [], harness := (true, "5a58d7a9c15203696702003ff9cc467030c5394ad4b5ba9193ee3169bb44f23b"), looks := true }, kinds := [], alts := [], laidByText := true, laidKinds := [.data, .data, .data, .data, .sentinel, .sentinel, .pinned], laidTests := true, laidLooks := .later }
def NumberNamesCardSaid : Prop := Claim7.holds Tryd.pinned (.plain (OpenSpec.ofChange numberNamesSpec)) numberNamesCard

/-- THE TIED CARD OF 'satchellaw05.NumberFormats'. -/
def numberFormatsCard : Claim7 := { stood := { row := numberFormatsRow, standIns := [], harness := (true, "5a58d7a9c15203696702003ff9cc467030c5394ad4b5ba9193ee3169bb44f23b"), looks := true }, kinds := [], alts := [], laidByText := true, laidKinds := [.data, .data, .data, .data, .sentinel, .sentinel, .pinned], laidTests := true, laidLooks := .later }
def NumberFormatsCardSaid : Prop := Claim7.holds Tryd.pinned (.plain (OpenSpec.ofChange numberFormatsSpec)) numberFormatsCard

/-- THE TIED CARD OF 'satchellaw05.NumberParses'. -/
def numberParsesCard : Claim7 := { stood := { row := numberParsesRow, standIns := [], harness := (true, "5a58d7a9c15203696702003ff9cc467030c5394ad4b5ba9193ee3169bb44f23b"), looks := true }, kinds := [], alts := [], laidByText := true, laidKinds := [.data, .data, .data, .data, .sentinel, .sentinel, .pinned], laidTests := true, laidLooks := .later }
def NumberParsesCardSaid : Prop := Claim7.holds Tryd.pinned (.plain (OpenSpec.ofChange numberParsesSpec)) numberParsesCard

/-- THE TIED CARD OF 'satchellaw05.NumberFloats'. -/
def numberFloatsCard : Claim7 := { stood := { row := numberFloatsRow, standIns := [], harness := (true, "5a58d7a9c15203696702003ff9cc467030c5394ad4b5ba9193ee3169bb44f23b"), looks := true }, kinds := [], alts := [], laidByText := true, laidKinds := [.data, .data, .data, .data, .sentinel, .sentinel, .pinned], laidTests := true, laidLooks := .later }
def NumberFloatsCardSaid : Prop := Claim7.holds Tryd.pinned (.plain (OpenSpec.ofChange numberFloatsSpec)) numberFloatsCard

/-- THE TIED CARD OF 'satchellaw05.NumberReads'. -/
def numberReadsCard : Claim7 := { stood := { row := numberReadsRow, standIns := [], harness := (true, "5a58d7a9c15203696702003ff9cc467030c5394ad4b5ba9193ee3169bb44f23b"), looks := true }, kinds := [], alts := [], laidByText := true, laidKinds := [.data, .data, .data, .data, .sentinel, .sentinel, .pinned], laidTests := true, laidLooks := .later }
def NumberReadsCardSaid : Prop := Claim7.holds Tryd.pinned (.plain (OpenSpec.ofChange numberReadsSpec)) numberReadsCard

/-- THE TIED CARD OF 'satchellaw05.NumberThere'. -/
def numberThereCard : Claim7 := { stood := { row := numberThereRow, standIns := [], harness := (true, "5a58d7a9c15203696702003ff9cc467030c5394ad4b5ba9193ee3169bb44f23b"), looks := true }, kinds := [], alts := [], laidByText := true, laidKinds := [.data, .data, .data, .data, .sentinel, .sentinel, .pinned], laidTests := true, laidLooks := .later }
def NumberThereCardSaid : Prop := Claim7.holds Tryd.pinned (.plain (OpenSpec.ofChange numberThereSpec)) numberThereCard

/-- THE TIED CARD OF 'satchellaw05.NumberOne'. -/
def numberOneCard : Claim7 := { stood := { row := numberOneRow, standIns := [], harness := (true, "5a58d7a9c15203696702003ff9cc467030c5394ad4b5ba9193ee3169bb44f23b"), looks := true }, kinds := [], alts := [], laidByText := true, laidKinds := [.data, .data, .data, .data, .sentinel, .sentinel, .pinned], laidTests := true, laidLooks := .later }
def NumberOneCardSaid : Prop := Claim7.holds Tryd.pinned (.plain (OpenSpec.ofChange numberOneSpec)) numberOneCard

/-- THE TIED CARD OF 'satchellaw05.NumberSigns'. -/
def numberSignsCard : Claim7 := { stood := { row := numberSignsRow, standIns := [], harness := (true, "5a58d7a9c15203696702003ff9cc467030c5394ad4b5ba9193ee3169bb44f23b"), looks := true }, kinds := [], alts := [], laidByText := true, laidKinds := [.data, .data, .data, .data, .sentinel, .sentinel, .pinned], laidTests := true, laidLooks := .later }
def NumberSignsCardSaid : Prop := Claim7.holds Tryd.pinned (.plain (OpenSpec.ofChange numberSignsSpec)) numberSignsCard

/-- THE TIED CARD OF 'satchellaw05.NumberHalves'. -/
def numberHalvesCard : Claim7 := { stood := { row := numberHalvesRow, standIns := [], harness := (true, "5a58d7a9c15203696702003ff9cc467030c5394ad4b5ba9193ee3169bb44f23b"), looks := true }, kinds := [], alts := [], laidByText := true, laidKinds := [.data, .data, .data, .data, .sentinel, .sentinel, .pinned], laidTests := true, laidLooks := .later }
def NumberHalvesCardSaid : Prop := Claim7.holds Tryd.pinned (.plain (OpenSpec.ofChange numberHalvesSpec)) numberHalvesCard

/-- THE SECOND FORM's CARD OF 'satchellaw05.NumberNames'. -/
def numberNamesUptoCard : Claim7 := { stood := { row := numberNamesUptoRow, standIns := [], harness := (true, "5a58d7a9c15203696702003ff9cc467030c5394ad4b5ba9193ee3169bb44f23b"), looks := true }, kinds := [], alts := [], laidByText := true, laidKinds := [.data, .data, .data, .data, .sentinel, .sentinel, .pinned], laidTests := true, laidLooks := .later }
def NumberNamesUptoCardSaid : Prop := Claim7.holds Tryd.pinned (.plain (OpenSpec.upto numberNamesSpec)) numberNamesUptoCard

/-- THE SECOND FORM's CARD OF 'satchellaw05.NumberFormats'. -/
def numberFormatsUptoCard : Claim7 := { stood := { row := numberFormatsUptoRow, standIns := [], harness := (true, "5a58d7a9c15203696702003ff9cc467030c5394ad4b5ba9193ee3169bb44f23b"), looks := true }, kinds := [], alts := [], laidByText := true, laidKinds := [.data, .data, .data, .data, .sentinel, .sentinel, .pinned], laidTests := true, laidLooks := .later }
def NumberFormatsUptoCardSaid : Prop := Claim7.holds Tryd.pinned (.plain (OpenSpec.upto numberFormatsSpec)) numberFormatsUptoCard

/-- THE SECOND FORM's CARD OF 'satchellaw05.NumberParses'. -/
def numberParsesUptoCard : Claim7 := { stood := { row := numberParsesUptoRow, standIns := [], harness := (true, "5a58d7a9c15203696702003ff9cc467030c5394ad4b5ba9193ee3169bb44f23b"), looks := true }, kinds := [], alts := [], laidByText := true, laidKinds := [.data, .data, .data, .data, .sentinel, .sentinel, .pinned], laidTests := true, laidLooks := .later }
def NumberParsesUptoCardSaid : Prop := Claim7.holds Tryd.pinned (.plain (OpenSpec.upto numberParsesSpec)) numberParsesUptoCard

/-- THE SECOND FORM's CARD OF 'satchellaw05.NumberFloats'. -/
def numberFloatsUptoCard : Claim7 := { stood := { row := numberFloatsUptoRow, standIns := [], harness := (true, "5a58d7a9c15203696702003ff9cc467030c5394ad4b5ba9193ee3169bb44f23b"), looks := true }, kinds := [], alts := [], laidByText := true, laidKinds := [.data, .data, .data, .data, .sentinel, .sentinel, .pinned], laidTests := true, laidLooks := .later }
def NumberFloatsUptoCardSaid : Prop := Claim7.holds Tryd.pinned (.plain (OpenSpec.upto numberFloatsSpec)) numberFloatsUptoCard

/-- THE SECOND FORM's CARD OF 'satchellaw05.NumberReads'. -/
def numberReadsUptoCard : Claim7 := { stood := { row := numberReadsUptoRow, standIns := [], harness := (true, "5a58d7a9c15203696702003ff9cc467030c5394ad4b5ba9193ee3169bb44f23b"), looks := true }, kinds := [], alts := [], laidByText := true, laidKinds := [.data, .data, .data, .data, .sentinel, .sentinel, .pinned], laidTests := true, laidLooks := .later }
def NumberReadsUptoCardSaid : Prop := Claim7.holds Tryd.pinned (.plain (OpenSpec.upto numberReadsSpec)) numberReadsUptoCard

/-- THE SECOND FORM's CARD OF 'satchellaw05.NumberThere'. -/
def numberThereUptoCard : Claim7 := { stood := { row := numberThereUptoRow, standIns := [], harness := (true, "5a58d7a9c15203696702003ff9cc467030c5394ad4b5ba9193ee3169bb44f23b"), looks := true }, kinds := [], alts := [], laidByText := true, laidKinds := [.data, .data, .data, .data, .sentinel, .sentinel, .pinned], laidTests := true, laidLooks := .later }
def NumberThereUptoCardSaid : Prop := Claim7.holds Tryd.pinned (.plain (OpenSpec.upto numberThereSpec)) numberThereUptoCard

/-- THE SECOND FORM's CARD OF 'satchellaw05.NumberOne'. -/
def numberOneUptoCard : Claim7 := { stood := { row := numberOneUptoRow, standIns := [], harness := (true, "5a58d7a9c15203696702003ff9cc467030c5394ad4b5ba9193ee3169bb44f23b"), looks := true }, kinds := [], alts := [], laidByText := true, laidKinds := [.data, .data, .data, .data, .sentinel, .sentinel, .pinned], laidTests := true, laidLooks := .later }
def NumberOneUptoCardSaid : Prop := Claim7.holds Tryd.pinned (.plain (OpenSpec.upto numberOneSpec)) numberOneUptoCard

/-- THE SECOND FORM's CARD OF 'satchellaw05.NumberSigns'. -/
def numberSignsUptoCard : Claim7 := { stood := { row := numberSignsUptoRow, standIns := [], harness := (true, "5a58d7a9c15203696702003ff9cc467030c5394ad4b5ba9193ee3169bb44f23b"), looks := true }, kinds := [], alts := [], laidByText := true, laidKinds := [.data, .data, .data, .data, .sentinel, .sentinel, .pinned], laidTests := true, laidLooks := .later }
def NumberSignsUptoCardSaid : Prop := Claim7.holds Tryd.pinned (.plain (OpenSpec.upto numberSignsSpec)) numberSignsUptoCard

/-- THE SECOND FORM's CARD OF 'satchellaw05.NumberHalves'. -/
def numberHalvesUptoCard : Claim7 := { stood := { row := numberHalvesUptoRow, standIns := [], harness := (true, "5a58d7a9c15203696702003ff9cc467030c5394ad4b5ba9193ee3169bb44f23b"), looks := true }, kinds := [], alts := [], laidByText := true, laidKinds := [.data, .data, .data, .data, .sentinel, .sentinel, .pinned], laidTests := true, laidLooks := .later }
def NumberHalvesUptoCardSaid : Prop := Claim7.holds Tryd.pinned (.plain (OpenSpec.upto numberHalvesSpec)) numberHalvesUptoCard
end Rows
end Go.Proofs.YtdjjdhkpffjnfaaDoor
