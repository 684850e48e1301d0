/-
  DERIVED. GIVEN WITH THE SEED: THE CARDS: each row of YthfoffcfbfmajaaGreatDoorRows.lean that lists a variable, with what it lists TIED to the program's text (the seventh form; the later family's looks); each row that meets fmt, with fmt's text TOLD by the authors' own Lean function (tested against real Go, not proved from fmt's source: count such statements apart). THE CARD IS WHAT COUNTS. Prove the row's statement (the work); the ties are given (YthfoffcfbfmajaaGreatDoorTie.lean); close each card by the builder's one call (the guide's Derived/Test/ToyasCard.lean, 'card_holds'). Laid BY PROGRAM, IN A SANDBOX (cutbox-door.mjs). By AI agents, Wed Nov 11 2026. No macro, syntax, notation, axiom, sorry.
-/
import Derived.Test.YthfoffcfbfmajaaGreatDoorRows
import GoSem.ClaimSeven
namespace Go.Proofs.YthfoffcfbfmajaaGreatDoor
namespace Rows

/-- THE TIED CARD OF 'satchellaw22.CellPrints'. -/
def cellPrintsCard : Claim7 := { stood := { row := cellPrintsRow, standIns := [], harness := (true, "91182744a9c9ad6c53b7ee5e0b2843b9eaf71f6ab08912cbccdd45c954e99b97"), looks := true }, kinds := [], alts := [], laidByText := true, laidKinds := [.data, .data, .data, .data, .sentinel, .sentinel, .data, .pinned], laidTests := true, laidLooks := .later }
def CellPrintsCardSaid : Prop := Claim7.holds Tryz.pinned (.plain (OpenSpec.ofChange cellPrintsSpec)) cellPrintsCard

/-- THE TIED CARD OF 'satchellaw22.CellParses'. -/
def cellParsesCard : Claim7 := { stood := { row := cellParsesRow, standIns := [], harness := (true, "91182744a9c9ad6c53b7ee5e0b2843b9eaf71f6ab08912cbccdd45c954e99b97"), looks := true }, kinds := [], alts := [], laidByText := true, laidKinds := [.data, .data, .data, .data, .sentinel, .sentinel, .data, .pinned], laidTests := true, laidLooks := .later }
def CellParsesCardSaid : Prop := Claim7.holds Tryz.pinned (.plain (OpenSpec.ofChange cellParsesSpec)) cellParsesCard

/-- THE TIED CARD OF 'satchellaw22.CellThere'. -/
def cellThereCard : Claim7 := { stood := { row := cellThereRow, standIns := [], harness := (true, "91182744a9c9ad6c53b7ee5e0b2843b9eaf71f6ab08912cbccdd45c954e99b97"), looks := true }, kinds := [], alts := [], laidByText := true, laidKinds := [.data, .data, .data, .data, .sentinel, .sentinel, .data, .pinned], laidTests := true, laidLooks := .later }
def CellThereCardSaid : Prop := Claim7.holds Tryz.pinned (.plain (OpenSpec.ofChange cellThereSpec)) cellThereCard

/-- THE TIED CARD OF 'satchellaw22.CellOne'. -/
def cellOneCard : Claim7 := { stood := { row := cellOneRow, standIns := [], harness := (true, "91182744a9c9ad6c53b7ee5e0b2843b9eaf71f6ab08912cbccdd45c954e99b97"), looks := true }, kinds := [], alts := [], laidByText := true, laidKinds := [.data, .data, .data, .data, .sentinel, .sentinel, .data, .pinned], laidTests := true, laidLooks := .later }
def CellOneCardSaid : Prop := Claim7.holds Tryz.pinned (.plain (OpenSpec.ofChange cellOneSpec)) cellOneCard

/-- THE TIED CARD OF 'satchellaw22.CellGrows'. -/
def cellGrowsCard : Claim7 := { stood := { row := cellGrowsRow, standIns := [], harness := (true, "91182744a9c9ad6c53b7ee5e0b2843b9eaf71f6ab08912cbccdd45c954e99b97"), looks := true }, kinds := [], alts := [], laidByText := true, laidKinds := [.data, .data, .data, .data, .sentinel, .sentinel, .data, .pinned], laidTests := true, laidLooks := .later }
def CellGrowsCardSaid : Prop := Claim7.holds Tryz.pinned (.plain (OpenSpec.ofChange cellGrowsSpec)) cellGrowsCard

/-- THE TIED CARD OF 'satchellaw22.CellOwn'. -/
def cellOwnCard : Claim7 := { stood := { row := cellOwnRow, standIns := [], harness := (true, "91182744a9c9ad6c53b7ee5e0b2843b9eaf71f6ab08912cbccdd45c954e99b97"), looks := true }, kinds := [], alts := [], laidByText := true, laidKinds := [.data, .data, .data, .data, .sentinel, .sentinel, .data, .pinned], laidTests := true, laidLooks := .later }
def CellOwnCardSaid : Prop := Claim7.holds Tryz.pinned (.plain (OpenSpec.ofChange cellOwnSpec)) cellOwnCard

/-- THE SECOND FORM's CARD OF 'satchellaw22.CellPrints'. -/
def cellPrintsUptoCard : Claim7 := { stood := { row := cellPrintsUptoRow, standIns := [], harness := (true, "91182744a9c9ad6c53b7ee5e0b2843b9eaf71f6ab08912cbccdd45c954e99b97"), looks := true }, kinds := [], alts := [], laidByText := true, laidKinds := [.data, .data, .data, .data, .sentinel, .sentinel, .data, .pinned], laidTests := true, laidLooks := .later }
def CellPrintsUptoCardSaid : Prop := Claim7.holds Tryz.pinned (.plain (OpenSpec.upto cellPrintsSpec)) cellPrintsUptoCard

/-- THE SECOND FORM's CARD OF 'satchellaw22.CellParses'. -/
def cellParsesUptoCard : Claim7 := { stood := { row := cellParsesUptoRow, standIns := [], harness := (true, "91182744a9c9ad6c53b7ee5e0b2843b9eaf71f6ab08912cbccdd45c954e99b97"), looks := true }, kinds := [], alts := [], laidByText := true, laidKinds := [.data, .data, .data, .data, .sentinel, .sentinel, .data, .pinned], laidTests := true, laidLooks := .later }
def CellParsesUptoCardSaid : Prop := Claim7.holds Tryz.pinned (.plain (OpenSpec.upto cellParsesSpec)) cellParsesUptoCard

/-- THE SECOND FORM's CARD OF 'satchellaw22.CellThere'. -/
def cellThereUptoCard : Claim7 := { stood := { row := cellThereUptoRow, standIns := [], harness := (true, "91182744a9c9ad6c53b7ee5e0b2843b9eaf71f6ab08912cbccdd45c954e99b97"), looks := true }, kinds := [], alts := [], laidByText := true, laidKinds := [.data, .data, .data, .data, .sentinel, .sentinel, .data, .pinned], laidTests := true, laidLooks := .later }
def CellThereUptoCardSaid : Prop := Claim7.holds Tryz.pinned (.plain (OpenSpec.upto cellThereSpec)) cellThereUptoCard

/-- THE SECOND FORM's CARD OF 'satchellaw22.CellOne'. -/
def cellOneUptoCard : Claim7 := { stood := { row := cellOneUptoRow, standIns := [], harness := (true, "91182744a9c9ad6c53b7ee5e0b2843b9eaf71f6ab08912cbccdd45c954e99b97"), looks := true }, kinds := [], alts := [], laidByText := true, laidKinds := [.data, .data, .data, .data, .sentinel, .sentinel, .data, .pinned], laidTests := true, laidLooks := .later }
def CellOneUptoCardSaid : Prop := Claim7.holds Tryz.pinned (.plain (OpenSpec.upto cellOneSpec)) cellOneUptoCard

/-- THE SECOND FORM's CARD OF 'satchellaw22.CellGrows'. -/
def cellGrowsUptoCard : Claim7 := { stood := { row := cellGrowsUptoRow, standIns := [], harness := (true, "91182744a9c9ad6c53b7ee5e0b2843b9eaf71f6ab08912cbccdd45c954e99b97"), looks := true }, kinds := [], alts := [], laidByText := true, laidKinds := [.data, .data, .data, .data, .sentinel, .sentinel, .data, .pinned], laidTests := true, laidLooks := .later }
def CellGrowsUptoCardSaid : Prop := Claim7.holds Tryz.pinned (.plain (OpenSpec.upto cellGrowsSpec)) cellGrowsUptoCard

/-- THE SECOND FORM's CARD OF 'satchellaw22.CellOwn'. -/
def cellOwnUptoCard : Claim7 := { stood := { row := cellOwnUptoRow, standIns := [], harness := (true, "91182744a9c9ad6c53b7ee5e0b2843b9eaf71f6ab08912cbccdd45c954e99b97"), looks := true }, kinds := [], alts := [], laidByText := true, laidKinds := [.data, .data, .data, .data, .sentinel, .sentinel, .data, .pinned], laidTests := true, laidLooks := .later }
def CellOwnUptoCardSaid : Prop := Claim7.holds Tryz.pinned (.plain (OpenSpec.upto cellOwnSpec)) cellOwnUptoCard
end Rows
end Go.Proofs.YthfoffcfbfmajaaGreatDoor
