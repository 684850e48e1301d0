/-
  DERIVED. GIVEN WITH THE SEED: THE CARDS: each row of YtkdlehekignnhaaDoorRows.lean that lists a variable, with what it lists TIED to the program's text (the seventh form; the later family's looks); each row that meets fmt, with fmt's text TOLD by the authors' own Lean function (tested against real Go, not proved from fmt's source: count such statements apart). THE CARD IS WHAT COUNTS. Prove the row's statement (the work); the ties are given (YtkdlehekignnhaaDoorTie.lean); close each card by the builder's one call (the guide's Derived/Test/ToyasCard.lean, 'card_holds'). Laid BY PROGRAM, IN A SANDBOX (cutbox-door.mjs). By AI agents, Wed Nov 11 2026. No macro, syntax, notation, axiom, sorry.
-/
import Derived.Test.YtkdlehekignnhaaDoorRows
import GoSem.ClaimSeven
namespace Go.Proofs.YtkdlehekignnhaaDoor
namespace Rows

/-- THE TIED CARD OF 'satchellaw19.FrameNames'. -/
def frameNamesCard : Claim7 := { stood := { row := frameNamesRow, standIns := [], harness := (true, "80b01f9602aa806085f0681185f36b5ee95d6796b35fb01c34ca876f102b1260"), looks := false }, kinds := [], alts := [], laidByText := true, laidKinds := [.data], laidTests := true, laidLooks := .later }
def FrameNamesCardSaid : Prop := Claim7.holds Tryd.pinned (.plain (OpenSpec.ofChange frameNamesSpec)) frameNamesCard

/-- THE TIED CARD OF 'satchellaw19.FramePacks'. -/
def framePacksCard : Claim7 := { stood := { row := framePacksRow, standIns := [], harness := (true, "80b01f9602aa806085f0681185f36b5ee95d6796b35fb01c34ca876f102b1260"), looks := false }, kinds := [], alts := [], laidByText := true, laidKinds := [.data], laidTests := true, laidLooks := .later }
def FramePacksCardSaid : Prop := Claim7.holds Tryd.pinned (.plain (OpenSpec.ofChange framePacksSpec)) framePacksCard

/-- THE TIED CARD OF 'satchellaw19.FrameSplits'. -/
def frameSplitsCard : Claim7 := { stood := { row := frameSplitsRow, standIns := [], harness := (true, "80b01f9602aa806085f0681185f36b5ee95d6796b35fb01c34ca876f102b1260"), looks := false }, kinds := [], alts := [], laidByText := true, laidKinds := [.data], laidTests := true, laidLooks := .later }
def FrameSplitsCardSaid : Prop := Claim7.holds Tryd.pinned (.plain (OpenSpec.ofChange frameSplitsSpec)) frameSplitsCard

/-- THE TIED CARD OF 'satchellaw19.FrameGoes'. -/
def frameGoesCard : Claim7 := { stood := { row := frameGoesRow, standIns := [], harness := (true, "80b01f9602aa806085f0681185f36b5ee95d6796b35fb01c34ca876f102b1260"), looks := false }, kinds := [], alts := [], laidByText := true, laidKinds := [.data], laidTests := true, laidLooks := .later }
def FrameGoesCardSaid : Prop := Claim7.holds Tryd.pinned (.plain (OpenSpec.ofChange frameGoesSpec)) frameGoesCard

/-- THE TIED CARD OF 'satchellaw19.FrameReads'. -/
def frameReadsCard : Claim7 := { stood := { row := frameReadsRow, standIns := [], harness := (true, "80b01f9602aa806085f0681185f36b5ee95d6796b35fb01c34ca876f102b1260"), looks := false }, kinds := [], alts := [], laidByText := true, laidKinds := [.data], laidTests := true, laidLooks := .later }
def FrameReadsCardSaid : Prop := Claim7.holds Tryd.pinned (.plain (OpenSpec.ofChange frameReadsSpec)) frameReadsCard

/-- THE TIED CARD OF 'satchellaw19.FrameThere'. -/
def frameThereCard : Claim7 := { stood := { row := frameThereRow, standIns := [], harness := (true, "80b01f9602aa806085f0681185f36b5ee95d6796b35fb01c34ca876f102b1260"), looks := false }, kinds := [], alts := [], laidByText := true, laidKinds := [.data], laidTests := true, laidLooks := .later }
def FrameThereCardSaid : Prop := Claim7.holds Tryd.pinned (.plain (OpenSpec.ofChange frameThereSpec)) frameThereCard

/-- THE TIED CARD OF 'satchellaw19.FrameBurst'. -/
def frameBurstCard : Claim7 := { stood := { row := frameBurstRow, standIns := [], harness := (true, "80b01f9602aa806085f0681185f36b5ee95d6796b35fb01c34ca876f102b1260"), looks := false }, kinds := [], alts := [], laidByText := true, laidKinds := [.data], laidTests := true, laidLooks := .later }
def FrameBurstCardSaid : Prop := Claim7.holds Tryd.pinned (.plain (OpenSpec.ofChange frameBurstSpec)) frameBurstCard

/-- THE TIED CARD OF 'satchellaw19.FrameOwn'. -/
def frameOwnCard : Claim7 := { stood := { row := frameOwnRow, standIns := [], harness := (true, "80b01f9602aa806085f0681185f36b5ee95d6796b35fb01c34ca876f102b1260"), looks := false }, kinds := [], alts := [], laidByText := true, laidKinds := [.data], laidTests := true, laidLooks := .later }
def FrameOwnCardSaid : Prop := Claim7.holds Tryd.pinned (.plain (OpenSpec.ofChange frameOwnSpec)) frameOwnCard

/-- THE SECOND FORM's CARD OF 'satchellaw19.FrameNames'. -/
def frameNamesUptoCard : Claim7 := { stood := { row := frameNamesUptoRow, standIns := [], harness := (true, "80b01f9602aa806085f0681185f36b5ee95d6796b35fb01c34ca876f102b1260"), looks := false }, kinds := [], alts := [], laidByText := true, laidKinds := [.data], laidTests := true, laidLooks := .later }
def FrameNamesUptoCardSaid : Prop := Claim7.holds Tryd.pinned (.plain (OpenSpec.upto frameNamesSpec)) frameNamesUptoCard

/-- THE SECOND FORM's CARD OF 'satchellaw19.FramePacks'. -/
def framePacksUptoCard : Claim7 := { stood := { row := framePacksUptoRow, standIns := [], harness := (true, "80b01f9602aa806085f0681185f36b5ee95d6796b35fb01c34ca876f102b1260"), looks := false }, kinds := [], alts := [], laidByText := true, laidKinds := [.data], laidTests := true, laidLooks := .later }
def FramePacksUptoCardSaid : Prop := Claim7.holds Tryd.pinned (.plain (OpenSpec.upto framePacksSpec)) framePacksUptoCard

/-- THE SECOND FORM's CARD OF 'satchellaw19.FrameSplits'. -/
def frameSplitsUptoCard : Claim7 := { stood := { row := frameSplitsUptoRow, standIns := [], harness := (true, "80b01f9602aa806085f0681185f36b5ee95d6796b35fb01c34ca876f102b1260"), looks := false }, kinds := [], alts := [], laidByText := true, laidKinds := [.data], laidTests := true, laidLooks := .later }
def FrameSplitsUptoCardSaid : Prop := Claim7.holds Tryd.pinned (.plain (OpenSpec.upto frameSplitsSpec)) frameSplitsUptoCard

/-- THE SECOND FORM's CARD OF 'satchellaw19.FrameGoes'. -/
def frameGoesUptoCard : Claim7 := { stood := { row := frameGoesUptoRow, standIns := [], harness := (true, "80b01f9602aa806085f0681185f36b5ee95d6796b35fb01c34ca876f102b1260"), looks := false }, kinds := [], alts := [], laidByText := true, laidKinds := [.data], laidTests := true, laidLooks := .later }
def FrameGoesUptoCardSaid : Prop := Claim7.holds Tryd.pinned (.plain (OpenSpec.upto frameGoesSpec)) frameGoesUptoCard

/-- THE SECOND FORM's CARD OF 'satchellaw19.FrameReads'. -/
def frameReadsUptoCard : Claim7 := { stood := { row := frameReadsUptoRow, standIns := [], harness := (true, "80b01f9602aa806085f0681185f36b5ee95d6796b35fb01c34ca876f102b1260"), looks := false }, kinds := [], alts := [], laidByText := true, laidKinds := [.data], laidTests := true, laidLooks := .later }
def FrameReadsUptoCardSaid : Prop := Claim7.holds Tryd.pinned (.plain (OpenSpec.upto frameReadsSpec)) frameReadsUptoCard

/-- THE SECOND FORM's CARD OF 'satchellaw19.FrameThere'. -/
def frameThereUptoCard : Claim7 := { stood := { row := frameThereUptoRow, standIns := [], harness := (true, "80b01f9602aa806085f0681185f36b5ee95d6796b35fb01c34ca876f102b1260"), looks := false }, kinds := [], alts := [], laidByText := true, laidKinds := [.data], laidTests := true, laidLooks := .later }
def FrameThereUptoCardSaid : Prop := Claim7.holds Tryd.pinned (.plain (OpenSpec.upto frameThereSpec)) frameThereUptoCard

/-- THE SECOND FORM's CARD OF 'satchellaw19.FrameBurst'. -/
def frameBurstUptoCard : Claim7 := { stood := { row := frameBurstUptoRow, standIns := [], harness := (true, "80b01f9602aa806085f0681185f36b5ee95d6796b35fb01c34ca876f102b1260"), looks := false }, kinds := [], alts := [], laidByText := true, laidKinds := [.data], laidTests := true, laidLooks := .later }
def FrameBurstUptoCardSaid : Prop := Claim7.holds Tryd.pinned (.plain (OpenSpec.upto frameBurstSpec)) frameBurstUptoCard

/-- THE SECOND FORM's CARD OF 'satchellaw19.FrameOwn'. -/
def frameOwnUptoCard : Claim7 := { stood := { row := frameOwnUptoRow, standIns := [], harness := (true, "80b01f9602aa806085f0681185f36b5ee95d6796b35fb01c34ca876f102b1260"), looks := false }, kinds := [], alts := [], laidByText := true, laidKinds := [.data], laidTests := true, laidLooks := .later }
def FrameOwnUptoCardSaid : Prop := Claim7.holds Tryd.pinned (.plain (OpenSpec.upto frameOwnSpec)) frameOwnUptoCard
end Rows
end Go.Proofs.YtkdlehekignnhaaDoor
