/-
  DERIVED. GIVEN WITH THE SEED: THE CARDS: each row of YtgpahglmhnnobaaGreatDoorRows.lean that lists a variable, with what it lists TIED to the program's text (the seventh form; the later family's looks); each row that meets fmt, with fmt's text TOLD by the authors' own Lean function (tested against real Go, not proved from fmt's source: count such statements apart). THE CARD IS WHAT COUNTS. Prove the row's statement (the work); the ties are given (YtgpahglmhnnobaaGreatDoorTie.lean); close each card by the builder's one call (the guide's Derived/Test/ToyasCard.lean, 'card_holds'). Laid BY PROGRAM, IN A SANDBOX (cutbox-door.mjs). By AI agents, Wed Nov 11 2026. No macro, syntax, notation, axiom, sorry.
-/
import Derived.Test.YtgpahglmhnnobaaGreatDoorRows
import GoSem.ClaimSeven
namespace Go.Proofs.YtgpahglmhnnobaaGreatDoor
namespace Rows

/-- THE TIED CARD OF 'satchellaw16.SlotsPacks'. -/
def slotsPacksCard : Claim7 := { stood := { row := slotsPacksRow, standIns := [], harness := (true, "f6b02619ead558e057e06e8df26ec3d7bf3ecd677765a774cf81a7f58872427e"), looks := false }, kinds := [], alts := [], laidByText := true, laidKinds := [.data, .pinned], laidTests := true, laidLooks := .later }
def SlotsPacksCardSaid : Prop := Claim7.holds Tryz.pinned (.plain (OpenSpec.ofChange slotsPacksSpec)) slotsPacksCard

/-- THE TIED CARD OF 'satchellaw16.SlotsUnpacks'. -/
def slotsUnpacksCard : Claim7 := { stood := { row := slotsUnpacksRow, standIns := [], harness := (true, "f6b02619ead558e057e06e8df26ec3d7bf3ecd677765a774cf81a7f58872427e"), looks := false }, kinds := [], alts := [], laidByText := true, laidKinds := [.data, .pinned], laidTests := true, laidLooks := .later }
def SlotsUnpacksCardSaid : Prop := Claim7.holds Tryz.pinned (.plain (OpenSpec.ofChange slotsUnpacksSpec)) slotsUnpacksCard

/-- THE TIED CARD OF 'satchellaw16.SlotsOwn'. -/
def slotsOwnCard : Claim7 := { stood := { row := slotsOwnRow, standIns := [], harness := (true, "f6b02619ead558e057e06e8df26ec3d7bf3ecd677765a774cf81a7f58872427e"), looks := false }, kinds := [], alts := [], laidByText := true, laidKinds := [.data, .pinned], laidTests := true, laidLooks := .later }
def SlotsOwnCardSaid : Prop := Claim7.holds Tryz.pinned (.plain (OpenSpec.ofChange slotsOwnSpec)) slotsOwnCard

/-- THE SECOND FORM's CARD OF 'satchellaw16.SlotsPacks'. -/
def slotsPacksUptoCard : Claim7 := { stood := { row := slotsPacksUptoRow, standIns := [], harness := (true, "f6b02619ead558e057e06e8df26ec3d7bf3ecd677765a774cf81a7f58872427e"), looks := false }, kinds := [], alts := [], laidByText := true, laidKinds := [.data, .pinned], laidTests := true, laidLooks := .later }
def SlotsPacksUptoCardSaid : Prop := Claim7.holds Tryz.pinned (.plain (OpenSpec.upto slotsPacksSpec)) slotsPacksUptoCard

/-- THE SECOND FORM's CARD OF 'satchellaw16.SlotsUnpacks'. -/
def slotsUnpacksUptoCard : Claim7 := { stood := { row := slotsUnpacksUptoRow, standIns := [], harness := (true, "f6b02619ead558e057e06e8df26ec3d7bf3ecd677765a774cf81a7f58872427e"), looks := false }, kinds := [], alts := [], laidByText := true, laidKinds := [.data, .pinned], laidTests := true, laidLooks := .later }
def SlotsUnpacksUptoCardSaid : Prop := Claim7.holds Tryz.pinned (.plain (OpenSpec.upto slotsUnpacksSpec)) slotsUnpacksUptoCard

/-- THE SECOND FORM's CARD OF 'satchellaw16.SlotsOwn'. -/
def slotsOwnUptoCard : Claim7 := { stood := { row := slotsOwnUptoRow, standIns := [], harness := (true, "f6b02619ead558e057e06e8df26ec3d7bf3ecd677765a774cf81a7f58872427e"), looks := false }, kinds := [], alts := [], laidByText := true, laidKinds := [.data, .pinned], laidTests := true, laidLooks := .later }
def SlotsOwnUptoCardSaid : Prop := Claim7.holds Tryz.pinned (.plain (OpenSpec.upto slotsOwnSpec)) slotsOwnUptoCard
end Rows
end Go.Proofs.YtgpahglmhnnobaaGreatDoor
