/-
  DERIVED. GIVEN WITH THE SEED: THE CARDS: each row of YtnjoiknfaibheabDoorRows.lean that lists a variable, with what it lists TIED to the program's text (the seventh form; the later family's looks); each row that meets fmt, with fmt's text TOLD by the authors' own Lean function (tested against real Go, not proved from fmt's source: count such statements apart). THE CARD IS WHAT COUNTS. Prove the row's statement (the work); the ties are given (YtnjoiknfaibheabDoorTie.lean); close each card by the builder's one call (the guide's Derived/Test/ToyasCard.lean, 'card_holds'). Laid BY PROGRAM, IN A SANDBOX (cutbox-door.mjs). By AI agents, Wed Nov 11 2026. No macro, syntax, notation, axiom, sorry.
-/
import Derived.Test.YtnjoiknfaibheabDoorRows
import GoSem.ClaimSeven
namespace Go.Proofs.YtnjoiknfaibheabDoor
namespace Rows

/-- THE TIED CARD OF 'demesnelaw03.PteNext'. -/
def pteNextCard : Claim7 := { stood := { row := pteNextRow, standIns := [], harness := (true, "9ed83ff48ac6890a3ed9680d7f8e0cf9fe25f4c2e3898ec45edd79a0e356e5a9"), looks := false }, kinds := [], alts := [], laidByText := true, laidKinds := [.data], laidTests := true, laidLooks := .later }
def PteNextCardSaid : Prop := Claim7.holds Tryd.pinned (.plain (OpenSpec.ofChange pteNextSpec)) pteNextCard

/-- THE TIED CARD OF 'demesnelaw03.PteBits'. -/
def pteBitsCard : Claim7 := { stood := { row := pteBitsRow, standIns := [], harness := (true, "9ed83ff48ac6890a3ed9680d7f8e0cf9fe25f4c2e3898ec45edd79a0e356e5a9"), looks := false }, kinds := [], alts := [], laidByText := true, laidKinds := [.data], laidTests := true, laidLooks := .later }
def PteBitsCardSaid : Prop := Claim7.holds Tryd.pinned (.plain (OpenSpec.ofChange pteBitsSpec)) pteBitsCard

/-- THE TIED CARD OF 'demesnelaw03.PteFrames'. -/
def pteFramesCard : Claim7 := { stood := { row := pteFramesRow, standIns := [], harness := (true, "9ed83ff48ac6890a3ed9680d7f8e0cf9fe25f4c2e3898ec45edd79a0e356e5a9"), looks := false }, kinds := [], alts := [], laidByText := true, laidKinds := [.data], laidTests := true, laidLooks := .later }
def PteFramesCardSaid : Prop := Claim7.holds Tryd.pinned (.plain (OpenSpec.ofChange pteFramesSpec)) pteFramesCard

/-- THE SECOND FORM's CARD OF 'demesnelaw03.PteNext'. -/
def pteNextUptoCard : Claim7 := { stood := { row := pteNextUptoRow, standIns := [], harness := (true, "9ed83ff48ac6890a3ed9680d7f8e0cf9fe25f4c2e3898ec45edd79a0e356e5a9"), looks := false }, kinds := [], alts := [], laidByText := true, laidKinds := [.data], laidTests := true, laidLooks := .later }
def PteNextUptoCardSaid : Prop := Claim7.holds Tryd.pinned (.plain (OpenSpec.upto pteNextSpec)) pteNextUptoCard

/-- THE SECOND FORM's CARD OF 'demesnelaw03.PteBits'. -/
def pteBitsUptoCard : Claim7 := { stood := { row := pteBitsUptoRow, standIns := [], harness := (true, "9ed83ff48ac6890a3ed9680d7f8e0cf9fe25f4c2e3898ec45edd79a0e356e5a9"), looks := false }, kinds := [], alts := [], laidByText := true, laidKinds := [.data], laidTests := true, laidLooks := .later }
def PteBitsUptoCardSaid : Prop := Claim7.holds Tryd.pinned (.plain (OpenSpec.upto pteBitsSpec)) pteBitsUptoCard

/-- THE SECOND FORM's CARD OF 'demesnelaw03.PteFrames'. -/
def pteFramesUptoCard : Claim7 := { stood := { row := pteFramesUptoRow, standIns := [], harness := (true, "9ed83ff48ac6890a3ed9680d7f8e0cf9fe25f4c2e3898ec45edd79a0e356e5a9"), looks := false }, kinds := [], alts := [], laidByText := true, laidKinds := [.data], laidTests := true, laidLooks := .later }
def PteFramesUptoCardSaid : Prop := Claim7.holds Tryd.pinned (.plain (OpenSpec.upto pteFramesSpec)) pteFramesUptoCard
end Rows
end Go.Proofs.YtnjoiknfaibheabDoor
