/-
  DERIVED. GIVEN WITH THE SEED: THE CARDS: each row of YtcclcecjidlojaaDoorRows.lean that lists a variable, with what it lists TIED to the program's text (the seventh form; the later family's looks); each row that meets fmt, with fmt's text TOLD by the authors' own Lean function (tested against real Go, not proved from fmt's source: count such statements apart). THE CARD IS WHAT COUNTS. Prove the row's statement (the work); the ties are given (YtcclcecjidlojaaDoorTie.lean); close each card by the builder's one call (the guide's Derived/Test/ToyasCard.lean, 'card_holds'). Laid BY PROGRAM, IN A SANDBOX (cutbox-door.mjs). By AI agents, Wed Nov 11 2026. No macro, syntax, notation, axiom, sorry.
-/
import Derived.Test.YtcclcecjidlojaaDoorRows
import GoSem.ClaimSeven
namespace Go.Proofs.YtcclcecjidlojaaDoor
namespace Rows

/-- THE TIED CARD OF 'satchellaw09.RecfileNames'. -/
def recfileNamesCard : Claim7 := { stood := { row := recfileNamesRow, standIns := [], harness := (true, "2a1379db36e6839ed338f0d535c07b0c6b6e9c9f2afe6b7baed27ce1ea3d57e9"), looks := false }, kinds := [], alts := [], laidByText := true, laidKinds := [.data, .data, .pinned], laidTests := true, laidLooks := .later }
def RecfileNamesCardSaid : Prop := Claim7.holds Tryd.pinned (.plain (OpenSpec.ofChange recfileNamesSpec)) recfileNamesCard

/-- THE TIED CARD OF 'satchellaw09.RecfileNews'. -/
def recfileNewsCard : Claim7 := { stood := { row := recfileNewsRow, standIns := [], harness := (true, "2a1379db36e6839ed338f0d535c07b0c6b6e9c9f2afe6b7baed27ce1ea3d57e9"), looks := false }, kinds := [], alts := [], laidByText := true, laidKinds := [.data, .data, .pinned], laidTests := true, laidLooks := .later }
def RecfileNewsCardSaid : Prop := Claim7.holds Tryd.pinned (.plain (OpenSpec.ofChange recfileNewsSpec)) recfileNewsCard

/-- THE TIED CARD OF 'satchellaw09.RecfileOpens'. -/
def recfileOpensCard : Claim7 := { stood := { row := recfileOpensRow, standIns := [], harness := (true, "2a1379db36e6839ed338f0d535c07b0c6b6e9c9f2afe6b7baed27ce1ea3d57e9"), looks := false }, kinds := [], alts := [], laidByText := true, laidKinds := [.data, .data, .pinned], laidTests := true, laidLooks := .later }
def RecfileOpensCardSaid : Prop := Claim7.holds Tryd.pinned (.plain (OpenSpec.ofChange recfileOpensSpec)) recfileOpensCard

/-- THE TIED CARD OF 'satchellaw09.RecfilePlays'. -/
def recfilePlaysCard : Claim7 := { stood := { row := recfilePlaysRow, standIns := [], harness := (true, "2a1379db36e6839ed338f0d535c07b0c6b6e9c9f2afe6b7baed27ce1ea3d57e9"), looks := false }, kinds := [], alts := [], laidByText := true, laidKinds := [.data, .data, .pinned], laidTests := true, laidLooks := .later }
def RecfilePlaysCardSaid : Prop := Claim7.holds Tryd.pinned (.plain (OpenSpec.ofChange recfilePlaysSpec)) recfilePlaysCard

/-- THE TIED CARD OF 'satchellaw09.RecfileThere'. -/
def recfileThereCard : Claim7 := { stood := { row := recfileThereRow, standIns := [], harness := (true, "2a1379db36e6839ed338f0d535c07b0c6b6e9c9f2afe6b7baed27ce1ea3d57e9"), looks := false }, kinds := [], alts := [], laidByText := true, laidKinds := [.data, .data, .pinned], laidTests := true, laidLooks := .later }
def RecfileThereCardSaid : Prop := Claim7.holds Tryd.pinned (.plain (OpenSpec.ofChange recfileThereSpec)) recfileThereCard

/-- THE TIED CARD OF 'satchellaw09.RecfileSpoilt'. -/
def recfileSpoiltCard : Claim7 := { stood := { row := recfileSpoiltRow, standIns := [], harness := (true, "2a1379db36e6839ed338f0d535c07b0c6b6e9c9f2afe6b7baed27ce1ea3d57e9"), looks := false }, kinds := [], alts := [], laidByText := true, laidKinds := [.data, .data, .pinned], laidTests := true, laidLooks := .later }
def RecfileSpoiltCardSaid : Prop := Claim7.holds Tryd.pinned (.plain (OpenSpec.ofChange recfileSpoiltSpec)) recfileSpoiltCard

/-- THE TIED CARD OF 'satchellaw09.RecfileLowest'. -/
def recfileLowestCard : Claim7 := { stood := { row := recfileLowestRow, standIns := [], harness := (true, "2a1379db36e6839ed338f0d535c07b0c6b6e9c9f2afe6b7baed27ce1ea3d57e9"), looks := false }, kinds := [], alts := [], laidByText := true, laidKinds := [.data, .data, .pinned], laidTests := true, laidLooks := .later }
def RecfileLowestCardSaid : Prop := Claim7.holds Tryd.pinned (.plain (OpenSpec.ofChange recfileLowestSpec)) recfileLowestCard

/-- THE TIED CARD OF 'satchellaw09.RecfileWalks'. -/
def recfileWalksCard : Claim7 := { stood := { row := recfileWalksRow, standIns := [], harness := (true, "2a1379db36e6839ed338f0d535c07b0c6b6e9c9f2afe6b7baed27ce1ea3d57e9"), looks := false }, kinds := [], alts := [], laidByText := true, laidKinds := [.data, .data, .pinned], laidTests := true, laidLooks := .later }
def RecfileWalksCardSaid : Prop := Claim7.holds Tryd.pinned (.plain (OpenSpec.ofChange recfileWalksSpec)) recfileWalksCard

/-- THE SECOND FORM's CARD OF 'satchellaw09.RecfileNames'. -/
def recfileNamesUptoCard : Claim7 := { stood := { row := recfileNamesUptoRow, standIns := [], harness := (true, "2a1379db36e6839ed338f0d535c07b0c6b6e9c9f2afe6b7baed27ce1ea3d57e9"), looks := false }, kinds := [], alts := [], laidByText := true, laidKinds := [.data, .data, .pinned], laidTests := true, laidLooks := .later }
def RecfileNamesUptoCardSaid : Prop := Claim7.holds Tryd.pinned (.plain (OpenSpec.upto recfileNamesSpec)) recfileNamesUptoCard

/-- THE SECOND FORM's CARD OF 'satchellaw09.RecfileNews'. -/
def recfileNewsUptoCard : Claim7 := { stood := { row := recfileNewsUptoRow, standIns := [], harness := (true, "2a1379db36e6839ed338f0d535c07b0c6b6e9c9f2afe6b7baed27ce1ea3d57e9"), looks := false }, kinds := [], alts := [], laidByText := true, laidKinds := [.data, .data, .pinned], laidTests := true, laidLooks := .later }
def RecfileNewsUptoCardSaid : Prop := Claim7.holds Tryd.pinned (.plain (OpenSpec.upto recfileNewsSpec)) recfileNewsUptoCard

/-- THE SECOND FORM's CARD OF 'satchellaw09.RecfileOpens'. -/
def recfileOpensUptoCard : Claim7 := { stood := { row := recfileOpensUptoRow, standIns := [], harness := (true, "2a1379db36e6839ed338f0d535c07b0c6b6e9c9f2afe6b7baed27ce1ea3d57e9"), looks := false }, kinds := [], alts := [], laidByText := true, laidKinds := [.data, .data, .pinned], laidTests := true, laidLooks := .later }
def RecfileOpensUptoCardSaid : Prop := Claim7.holds Tryd.pinned (.plain (OpenSpec.upto recfileOpensSpec)) recfileOpensUptoCard

/-- THE SECOND FORM's CARD OF 'satchellaw09.RecfilePlays'. -/
def recfilePlaysUptoCard : Claim7 := { stood := { row := recfilePlaysUptoRow, standIns := [], harness := (true, "2a1379db36e6839ed338f0d535c07b0c6b6e9c9f2afe6b7baed27ce1ea3d57e9"), looks := false }, kinds := [], alts := [], laidByText := true, laidKinds := [.data, .data, .pinned], laidTests := true, laidLooks := .later }
def RecfilePlaysUptoCardSaid : Prop := Claim7.holds Tryd.pinned (.plain (OpenSpec.upto recfilePlaysSpec)) recfilePlaysUptoCard

/-- THE SECOND FORM's CARD OF 'satchellaw09.RecfileThere'. -/
def recfileThereUptoCard : Claim7 := { stood := { row := recfileThereUptoRow, standIns := [], harness := (true, "2a1379db36e6839ed338f0d535c07b0c6b6e9c9f2afe6b7baed27ce1ea3d57e9"), looks := false }, kinds := [], alts := [], laidByText := true, laidKinds := [.data, .data, .pinned], laidTests := true, laidLooks := .later }
def RecfileThereUptoCardSaid : Prop := Claim7.holds Tryd.pinned (.plain (OpenSpec.upto recfileThereSpec)) recfileThereUptoCard

/-- THE SECOND FORM's CARD OF 'satchellaw09.RecfileSpoilt'. -/
def recfileSpoiltUptoCard : Claim7 := { stood := { row := recfileSpoiltUptoRow, standIns := [], harness := (true, "2a1379db36e6839ed338f0d535c07b0c6b6e9c9f2afe6b7baed27ce1ea3d57e9"), looks := false }, kinds := [], alts := [], laidByText := true, laidKinds := [.data, .data, .pinned], laidTests := true, laidLooks := .later }
def RecfileSpoiltUptoCardSaid : Prop := Claim7.holds Tryd.pinned (.plain (OpenSpec.upto recfileSpoiltSpec)) recfileSpoiltUptoCard

/-- THE SECOND FORM's CARD OF 'satchellaw09.RecfileLowest'. -/
def recfileLowestUptoCard : Claim7 := { stood := { row := recfileLowestUptoRow, standIns := [], harness := (true, "2a1379db36e6839ed338f0d535c07b0c6b6e9c9f2afe6b7baed27ce1ea3d57e9"), looks := false }, kinds := [], alts := [], laidByText := true, laidKinds := [.data, .data, .pinned], laidTests := true, laidLooks := .later }
def RecfileLowestUptoCardSaid : Prop := Claim7.holds Tryd.pinned (.plain (OpenSpec.upto recfileLowestSpec)) recfileLowestUptoCard

/-- THE SECOND FORM's CARD OF 'satchellaw09.RecfileWalks'. -/
def recfileWalksUptoCard : Claim7 := { stood := { row := recfileWalksUptoRow, standIns := [], harness := (true, "2a1379db36e6839ed338f0d535c07b0c6b6e9c9f2afe6b7baed27ce1ea3d57e9"), looks := false }, kinds := [], alts := [], laidByText := true, laidKinds := [.data, .data, .pinned], laidTests := true, laidLooks := .later }
def RecfileWalksUptoCardSaid : Prop := Claim7.holds Tryd.pinned (.plain (OpenSpec.upto recfileWalksSpec)) recfileWalksUptoCard
end Rows
end Go.Proofs.YtcclcecjidlojaaDoor
