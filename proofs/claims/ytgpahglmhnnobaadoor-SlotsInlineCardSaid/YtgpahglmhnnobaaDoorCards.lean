/-
  DERIVED. GIVEN WITH THE SEED: THE CARDS: each row of YtgpahglmhnnobaaDoorRows.lean that lists a variable, with what it lists TIED to the program's text (the seventh form; the later family's looks); each row that meets fmt, with fmt's text TOLD by the authors' own Lean function (tested against real Go, not proved from fmt's source: count such statements apart). THE CARD IS WHAT COUNTS. Prove the row's statement (the work); the ties are given (YtgpahglmhnnobaaDoorTie.lean); close each card by the builder's one call (the guide's Derived/Test/ToyasCard.lean, 'card_holds'). Laid BY PROGRAM, IN A SANDBOX (cutbox-door.mjs). By AI agents, Wed Nov 11 2026. No macro, syntax, notation, axiom, sorry.
-/
import Derived.Test.YtgpahglmhnnobaaDoorRows
import GoSem.ClaimSeven
namespace Go.Proofs.YtgpahglmhnnobaaDoor
namespace Rows

/-- THE TIED CARD OF 'satchellaw16.SlotsNames'. -/
def slotsNamesCard : Claim7 := { stood := { row := slotsNamesRow, standIns := [], harness := (true, "d0349bf16a22a744d742520fce763f7e4dc2265decc6e2963652fc02dc7a8cb6"), looks := false }, kinds := [], alts := [], laidByText := true, laidKinds := [.data, .pinned], laidTests := true, laidLooks := .later }
def SlotsNamesCardSaid : Prop := Claim7.holds Tryd.pinned (.plain (OpenSpec.ofChange slotsNamesSpec)) slotsNamesCard

/-- THE TIED CARD OF 'satchellaw16.SlotsNeeds'. -/
def slotsNeedsCard : Claim7 := { stood := { row := slotsNeedsRow, standIns := [], harness := (true, "d0349bf16a22a744d742520fce763f7e4dc2265decc6e2963652fc02dc7a8cb6"), looks := false }, kinds := [], alts := [], laidByText := true, laidKinds := [.data, .pinned], laidTests := true, laidLooks := .later }
def SlotsNeedsCardSaid : Prop := Claim7.holds Tryd.pinned (.plain (OpenSpec.ofChange slotsNeedsSpec)) slotsNeedsCard

/-- THE TIED CARD OF 'satchellaw16.SlotsThere'. -/
def slotsThereCard : Claim7 := { stood := { row := slotsThereRow, standIns := [], harness := (true, "d0349bf16a22a744d742520fce763f7e4dc2265decc6e2963652fc02dc7a8cb6"), looks := false }, kinds := [], alts := [], laidByText := true, laidKinds := [.data, .pinned], laidTests := true, laidLooks := .later }
def SlotsThereCardSaid : Prop := Claim7.holds Tryd.pinned (.plain (OpenSpec.ofChange slotsThereSpec)) slotsThereCard

/-- THE TIED CARD OF 'satchellaw16.SlotsBack'. -/
def slotsBackCard : Claim7 := { stood := { row := slotsBackRow, standIns := [], harness := (true, "d0349bf16a22a744d742520fce763f7e4dc2265decc6e2963652fc02dc7a8cb6"), looks := false }, kinds := [], alts := [], laidByText := true, laidKinds := [.data, .pinned], laidTests := true, laidLooks := .later }
def SlotsBackCardSaid : Prop := Claim7.holds Tryd.pinned (.plain (OpenSpec.ofChange slotsBackSpec)) slotsBackCard

/-- THE TIED CARD OF 'satchellaw16.SlotsInline'. -/
def slotsInlineCard : Claim7 := { stood := { row := slotsInlineRow, standIns := [], harness := (true, "d0349bf16a22a744d742520fce763f7e4dc2265decc6e2963652fc02dc7a8cb6"), looks := false }, kinds := [], alts := [], laidByText := true, laidKinds := [.data, .pinned], laidTests := true, laidLooks := .later }
def SlotsInlineCardSaid : Prop := Claim7.holds Tryd.pinned (.plain (OpenSpec.ofChange slotsInlineSpec)) slotsInlineCard

/-- THE SECOND FORM's CARD OF 'satchellaw16.SlotsNames'. -/
def slotsNamesUptoCard : Claim7 := { stood := { row := slotsNamesUptoRow, standIns := [], harness := (true, "d0349bf16a22a744d742520fce763f7e4dc2265decc6e2963652fc02dc7a8cb6"), looks := false }, kinds := [], alts := [], laidByText := true, laidKinds := [.data, .pinned], laidTests := true, laidLooks := .later }
def SlotsNamesUptoCardSaid : Prop := Claim7.holds Tryd.pinned (.plain (OpenSpec.upto slotsNamesSpec)) slotsNamesUptoCard

/-- THE SECOND FORM's CARD OF 'satchellaw16.SlotsNeeds'. -/
def slotsNeedsUptoCard : Claim7 := { stood := { row := slotsNeedsUptoRow, standIns := [], harness := (true, "d0349bf16a22a744d742520fce763f7e4dc2265decc6e2963652fc02dc7a8cb6"), looks := false }, kinds := [], alts := [], laidByText := true, laidKinds := [.data, .pinned], laidTests := true, laidLooks := .later }
def SlotsNeedsUptoCardSaid : Prop := Claim7.holds Tryd.pinned (.plain (OpenSpec.upto slotsNeedsSpec)) slotsNeedsUptoCard

/-- THE SECOND FORM's CARD OF 'satchellaw16.SlotsThere'. -/
def slotsThereUptoCard : Claim7 := { stood := { row := slotsThereUptoRow, standIns := [], harness := (true, "d0349bf16a22a744d742520fce763f7e4dc2265decc6e2963652fc02dc7a8cb6"), looks := false }, kinds := [], alts := [], laidByText := true, laidKinds := [.data, .pinned], laidTests := true, laidLooks := .later }
def SlotsThereUptoCardSaid : Prop := Claim7.holds Tryd.pinned (.plain (OpenSpec.upto slotsThereSpec)) slotsThereUptoCard

/-- THE SECOND FORM's CARD OF 'satchellaw16.SlotsBack'. -/
def slotsBackUptoCard : Claim7 := { stood := { row := slotsBackUptoRow, standIns := [], harness := (true, "d0349bf16a22a744d742520fce763f7e4dc2265decc6e2963652fc02dc7a8cb6"), looks := false }, kinds := [], alts := [], laidByText := true, laidKinds := [.data, .pinned], laidTests := true, laidLooks := .later }
def SlotsBackUptoCardSaid : Prop := Claim7.holds Tryd.pinned (.plain (OpenSpec.upto slotsBackSpec)) slotsBackUptoCard

/-- THE SECOND FORM's CARD OF 'satchellaw16.SlotsInline'. -/
def slotsInlineUptoCard : Claim7 := { stood := { row := slotsInlineUptoRow, standIns := [], harness := (true, "d0349bf16a22a744d742520fce763f7e4dc2265decc6e2963652fc02dc7a8cb6"), looks := false }, kinds := [], alts := [], laidByText := true, laidKinds := [.data, .pinned], laidTests := true, laidLooks := .later }
def SlotsInlineUptoCardSaid : Prop := Claim7.holds Tryd.pinned (.plain (OpenSpec.upto slotsInlineSpec)) slotsInlineUptoCard
end Rows
end Go.Proofs.YtgpahglmhnnobaaDoor
