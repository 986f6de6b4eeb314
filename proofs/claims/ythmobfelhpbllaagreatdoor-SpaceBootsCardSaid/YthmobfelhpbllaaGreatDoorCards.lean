/-
  DERIVED. GIVEN WITH THE SEED: THE CARDS: each row of YthmobfelhpbllaaGreatDoorRows.lean that lists a variable, with what it lists TIED to the program's text (the seventh form; the later family's looks); each row that meets fmt, with fmt's text TOLD by the authors' own Lean function (tested against real Go, not proved from fmt's source: count such statements apart). THE CARD IS WHAT COUNTS. Prove the row's statement (the work); the ties are given (YthmobfelhpbllaaGreatDoorTie.lean); close each card by the builder's one call (the guide's Derived/Test/ToyasCard.lean, 'card_holds'). Laid BY PROGRAM, IN A SANDBOX (cutbox-door.mjs). By AI agents, Wed Nov 11 2026. No macro, syntax, notation, axiom, sorry.
-/
import Derived.Test.YthmobfelhpbllaaGreatDoorRows
import GoSem.ClaimSeven
namespace Go.Proofs.YthmobfelhpbllaaGreatDoor
namespace Rows

/-- THE TIED CARD OF 'demesnelaw12.SpaceTags'. -/
def spaceTagsCard : Claim7 := { stood := { row := spaceTagsRow, standIns := [], harness := (true, "221282a1b92435b0fa0ff5763a43b8c3d1f8dd54f5d6e60e9b564bbf2eec004e"), looks := true }, kinds := [], alts := [], laidByText := true, laidKinds := [.data], laidTests := true, laidLooks := .later }
def SpaceTagsCardSaid : Prop := Claim7.holds Tryz.pinned (.plain (OpenSpec.ofChange spaceTagsSpec)) spaceTagsCard

/-- THE TIED CARD OF 'demesnelaw12.SpaceMaps'. -/
def spaceMapsCard : Claim7 := { stood := { row := spaceMapsRow, standIns := [], harness := (true, "221282a1b92435b0fa0ff5763a43b8c3d1f8dd54f5d6e60e9b564bbf2eec004e"), looks := true }, kinds := [], alts := [], laidByText := true, laidKinds := [.data], laidTests := true, laidLooks := .later }
def SpaceMapsCardSaid : Prop := Claim7.holds Tryz.pinned (.plain (OpenSpec.ofChange spaceMapsSpec)) spaceMapsCard

/-- THE TIED CARD OF 'demesnelaw12.SpaceLends'. -/
def spaceLendsCard : Claim7 := { stood := { row := spaceLendsRow, standIns := [], harness := (true, "221282a1b92435b0fa0ff5763a43b8c3d1f8dd54f5d6e60e9b564bbf2eec004e"), looks := true }, kinds := [], alts := [], laidByText := true, laidKinds := [.data], laidTests := true, laidLooks := .later }
def SpaceLendsCardSaid : Prop := Claim7.holds Tryz.pinned (.plain (OpenSpec.ofChange spaceLendsSpec)) spaceLendsCard

/-- THE TIED CARD OF 'demesnelaw12.SpaceBoots'. -/
def spaceBootsCard : Claim7 := { stood := { row := spaceBootsRow, standIns := [], harness := (true, "221282a1b92435b0fa0ff5763a43b8c3d1f8dd54f5d6e60e9b564bbf2eec004e"), looks := true }, kinds := [], alts := [], laidByText := true, laidKinds := [.data], laidTests := true, laidLooks := .later }
def SpaceBootsCardSaid : Prop := Claim7.holds Tryz.pinned (.plain (OpenSpec.ofChange spaceBootsSpec)) spaceBootsCard

/-- THE SECOND FORM's CARD OF 'demesnelaw12.SpaceTags'. -/
def spaceTagsUptoCard : Claim7 := { stood := { row := spaceTagsUptoRow, standIns := [], harness := (true, "221282a1b92435b0fa0ff5763a43b8c3d1f8dd54f5d6e60e9b564bbf2eec004e"), looks := true }, kinds := [], alts := [], laidByText := true, laidKinds := [.data], laidTests := true, laidLooks := .later }
def SpaceTagsUptoCardSaid : Prop := Claim7.holds Tryz.pinned (.plain (OpenSpec.upto spaceTagsSpec)) spaceTagsUptoCard

/-- THE SECOND FORM's CARD OF 'demesnelaw12.SpaceMaps'. -/
def spaceMapsUptoCard : Claim7 := { stood := { row := spaceMapsUptoRow, standIns := [], harness := (true, "221282a1b92435b0fa0ff5763a43b8c3d1f8dd54f5d6e60e9b564bbf2eec004e"), looks := true }, kinds := [], alts := [], laidByText := true, laidKinds := [.data], laidTests := true, laidLooks := .later }
def SpaceMapsUptoCardSaid : Prop := Claim7.holds Tryz.pinned (.plain (OpenSpec.upto spaceMapsSpec)) spaceMapsUptoCard

/-- THE SECOND FORM's CARD OF 'demesnelaw12.SpaceLends'. -/
def spaceLendsUptoCard : Claim7 := { stood := { row := spaceLendsUptoRow, standIns := [], harness := (true, "221282a1b92435b0fa0ff5763a43b8c3d1f8dd54f5d6e60e9b564bbf2eec004e"), looks := true }, kinds := [], alts := [], laidByText := true, laidKinds := [.data], laidTests := true, laidLooks := .later }
def SpaceLendsUptoCardSaid : Prop := Claim7.holds Tryz.pinned (.plain (OpenSpec.upto spaceLendsSpec)) spaceLendsUptoCard

/-- THE SECOND FORM's CARD OF 'demesnelaw12.SpaceBoots'. -/
def spaceBootsUptoCard : Claim7 := { stood := { row := spaceBootsUptoRow, standIns := [], harness := (true, "221282a1b92435b0fa0ff5763a43b8c3d1f8dd54f5d6e60e9b564bbf2eec004e"), looks := true }, kinds := [], alts := [], laidByText := true, laidKinds := [.data], laidTests := true, laidLooks := .later }
def SpaceBootsUptoCardSaid : Prop := Claim7.holds Tryz.pinned (.plain (OpenSpec.upto spaceBootsSpec)) spaceBootsUptoCard
end Rows
end Go.Proofs.YthmobfelhpbllaaGreatDoor
