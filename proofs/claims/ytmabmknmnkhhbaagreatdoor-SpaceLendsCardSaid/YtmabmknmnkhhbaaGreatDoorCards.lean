/-
  DERIVED. GIVEN WITH THE SEED: THE CARDS: each row of YtmabmknmnkhhbaaGreatDoorRows.lean that lists a variable, with what it lists TIED to the program's text (the seventh form; the later family's looks); each row that meets fmt, with fmt's text TOLD by the authors' own Lean function (tested against real Go, not proved from fmt's source: count such statements apart). THE CARD IS WHAT COUNTS. Prove the row's statement (the work); the ties are given (YtmabmknmnkhhbaaGreatDoorTie.lean); close each card by the builder's one call (the guide's Derived/Test/ToyasCard.lean, 'card_holds'). Laid BY PROGRAM, IN A SANDBOX (cutbox-door.mjs). By AI agents, Wed Nov 11 2026. No macro, syntax, notation, axiom, sorry.
-/
import Derived.Test.YtmabmknmnkhhbaaGreatDoorRows
import GoSem.ClaimSeven
namespace Go.Proofs.YtmabmknmnkhhbaaGreatDoor
namespace Rows

/-- THE TIED CARD OF 'demesnelaw12.SpaceBoots'. -/
def spaceBootsCard : Claim7 := { stood := { row := spaceBootsRow, standIns := [], harness := (true, "a47a28a7c6d7ff40323a5e2f13c7e9e75c586a0c4fb8b4823996e2b6607dec9c"), looks := true }, kinds := [], alts := [], laidByText := true, laidKinds := [.data], laidTests := true, laidLooks := .later }
def SpaceBootsCardSaid : Prop := Claim7.holds Tryz.pinned (.plain (OpenSpec.ofChange spaceBootsSpec)) spaceBootsCard

/-- THE TIED CARD OF 'demesnelaw12.SpaceLends'. -/
def spaceLendsCard : Claim7 := { stood := { row := spaceLendsRow, standIns := [], harness := (true, "a47a28a7c6d7ff40323a5e2f13c7e9e75c586a0c4fb8b4823996e2b6607dec9c"), looks := true }, kinds := [], alts := [], laidByText := true, laidKinds := [.data], laidTests := true, laidLooks := .later }
def SpaceLendsCardSaid : Prop := Claim7.holds Tryz.pinned (.plain (OpenSpec.ofChange spaceLendsSpec)) spaceLendsCard

/-- THE TIED CARD OF 'demesnelaw12.SpaceMaps'. -/
def spaceMapsCard : Claim7 := { stood := { row := spaceMapsRow, standIns := [], harness := (true, "a47a28a7c6d7ff40323a5e2f13c7e9e75c586a0c4fb8b4823996e2b6607dec9c"), looks := true }, kinds := [], alts := [], laidByText := true, laidKinds := [.data], laidTests := true, laidLooks := .later }
def SpaceMapsCardSaid : Prop := Claim7.holds Tryz.pinned (.plain (OpenSpec.ofChange spaceMapsSpec)) spaceMapsCard

/-- THE TIED CARD OF 'demesnelaw12.SpaceTags'. -/
def spaceTagsCard : Claim7 := { stood := { row := spaceTagsRow, standIns := [], harness := (true, "a47a28a7c6d7ff40323a5e2f13c7e9e75c586a0c4fb8b4823996e2b6607dec9c"), looks := true }, kinds := [], alts := [], laidByText := true, laidKinds := [.data], laidTests := true, laidLooks := .later }
def SpaceTagsCardSaid : Prop := Claim7.holds Tryz.pinned (.plain (OpenSpec.ofChange spaceTagsSpec)) spaceTagsCard

/-- THE SECOND FORM's CARD OF 'demesnelaw12.SpaceBoots'. -/
def spaceBootsUptoCard : Claim7 := { stood := { row := spaceBootsUptoRow, standIns := [], harness := (true, "a47a28a7c6d7ff40323a5e2f13c7e9e75c586a0c4fb8b4823996e2b6607dec9c"), looks := true }, kinds := [], alts := [], laidByText := true, laidKinds := [.data], laidTests := true, laidLooks := .later }
def SpaceBootsUptoCardSaid : Prop := Claim7.holds Tryz.pinned (.plain (OpenSpec.upto spaceBootsSpec)) spaceBootsUptoCard

/-- THE SECOND FORM's CARD OF 'demesnelaw12.SpaceLends'. -/
def spaceLendsUptoCard : Claim7 := { stood := { row := spaceLendsUptoRow, standIns := [], harness := (true, "a47a28a7c6d7ff40323a5e2f13c7e9e75c586a0c4fb8b4823996e2b6607dec9c"), looks := true }, kinds := [], alts := [], laidByText := true, laidKinds := [.data], laidTests := true, laidLooks := .later }
def SpaceLendsUptoCardSaid : Prop := Claim7.holds Tryz.pinned (.plain (OpenSpec.upto spaceLendsSpec)) spaceLendsUptoCard

/-- THE SECOND FORM's CARD OF 'demesnelaw12.SpaceMaps'. -/
def spaceMapsUptoCard : Claim7 := { stood := { row := spaceMapsUptoRow, standIns := [], harness := (true, "a47a28a7c6d7ff40323a5e2f13c7e9e75c586a0c4fb8b4823996e2b6607dec9c"), looks := true }, kinds := [], alts := [], laidByText := true, laidKinds := [.data], laidTests := true, laidLooks := .later }
def SpaceMapsUptoCardSaid : Prop := Claim7.holds Tryz.pinned (.plain (OpenSpec.upto spaceMapsSpec)) spaceMapsUptoCard

/-- THE SECOND FORM's CARD OF 'demesnelaw12.SpaceTags'. -/
def spaceTagsUptoCard : Claim7 := { stood := { row := spaceTagsUptoRow, standIns := [], harness := (true, "a47a28a7c6d7ff40323a5e2f13c7e9e75c586a0c4fb8b4823996e2b6607dec9c"), looks := true }, kinds := [], alts := [], laidByText := true, laidKinds := [.data], laidTests := true, laidLooks := .later }
def SpaceTagsUptoCardSaid : Prop := Claim7.holds Tryz.pinned (.plain (OpenSpec.upto spaceTagsSpec)) spaceTagsUptoCard
end Rows
end Go.Proofs.YtmabmknmnkhhbaaGreatDoor
