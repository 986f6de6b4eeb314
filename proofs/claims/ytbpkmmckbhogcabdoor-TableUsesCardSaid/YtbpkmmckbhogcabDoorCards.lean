/-
  DERIVED. GIVEN WITH THE SEED: THE CARDS: each row of YtbpkmmckbhogcabDoorRows.lean that lists a variable, with what it lists TIED to the program's text (the seventh form; the later family's looks); each row that meets fmt, with fmt's text TOLD by the authors' own Lean function (tested against real Go, not proved from fmt's source: count such statements apart). THE CARD IS WHAT COUNTS. Prove the row's statement (the work); the ties are given (YtbpkmmckbhogcabDoorTie.lean); close each card by the builder's one call (the guide's Derived/Test/ToyasCard.lean, 'card_holds'). Laid BY PROGRAM, IN A SANDBOX (cutbox-door.mjs). By AI agents, Wed Nov 11 2026. No macro, syntax, notation, axiom, sorry.
-/
import Derived.Test.YtbpkmmckbhogcabDoorRows
import GoSem.ClaimSeven
namespace Go.Proofs.YtbpkmmckbhogcabDoor
namespace Rows

/-- THE TIED CARD OF 'demesnelaw09.TableUses'. -/
def tableUsesCard : Claim7 := { stood := { row := tableUsesRow, standIns := [], harness := (true, "c8641612d6384a53c6a5134efa2f8d70789bd57a053cff0ec062e36e772c1c87"), looks := true }, kinds := [], alts := [], laidByText := true, laidKinds := [.data], laidTests := true, laidLooks := .later }
def TableUsesCardSaid : Prop := Claim7.holds Tryd.pinned (.plain (OpenSpec.ofChange tableUsesSpec)) tableUsesCard

/-- THE TIED CARD OF 'demesnelaw09.TableKernel'. -/
def tableKernelCard : Claim7 := { stood := { row := tableKernelRow, standIns := [], harness := (true, "c8641612d6384a53c6a5134efa2f8d70789bd57a053cff0ec062e36e772c1c87"), looks := true }, kinds := [], alts := [], laidByText := true, laidKinds := [.data], laidTests := true, laidLooks := .later }
def TableKernelCardSaid : Prop := Claim7.holds Tryd.pinned (.plain (OpenSpec.ofChange tableKernelSpec)) tableKernelCard

/-- THE TIED CARD OF 'demesnetop.DemesneAlike'. -/
def demesneAlikeCard : Claim7 := { stood := { row := demesneAlikeRow, standIns := [], harness := (true, "c8641612d6384a53c6a5134efa2f8d70789bd57a053cff0ec062e36e772c1c87"), looks := true }, kinds := [], alts := [], laidByText := true, laidKinds := [.data], laidTests := true, laidLooks := .later }
def DemesneAlikeCardSaid : Prop := Claim7.holds Tryd.pinned (.plain (OpenSpec.ofChange demesneAlikeSpec)) demesneAlikeCard

/-- THE SECOND FORM's CARD OF 'demesnelaw09.TableUses'. -/
def tableUsesUptoCard : Claim7 := { stood := { row := tableUsesUptoRow, standIns := [], harness := (true, "c8641612d6384a53c6a5134efa2f8d70789bd57a053cff0ec062e36e772c1c87"), looks := true }, kinds := [], alts := [], laidByText := true, laidKinds := [.data], laidTests := true, laidLooks := .later }
def TableUsesUptoCardSaid : Prop := Claim7.holds Tryd.pinned (.plain (OpenSpec.upto tableUsesSpec)) tableUsesUptoCard

/-- THE SECOND FORM's CARD OF 'demesnelaw09.TableKernel'. -/
def tableKernelUptoCard : Claim7 := { stood := { row := tableKernelUptoRow, standIns := [], harness := (true, "c8641612d6384a53c6a5134efa2f8d70789bd57a053cff0ec062e36e772c1c87"), looks := true }, kinds := [], alts := [], laidByText := true, laidKinds := [.data], laidTests := true, laidLooks := .later }
def TableKernelUptoCardSaid : Prop := Claim7.holds Tryd.pinned (.plain (OpenSpec.upto tableKernelSpec)) tableKernelUptoCard

/-- THE SECOND FORM's CARD OF 'demesnetop.DemesneAlike'. -/
def demesneAlikeUptoCard : Claim7 := { stood := { row := demesneAlikeUptoRow, standIns := [], harness := (true, "c8641612d6384a53c6a5134efa2f8d70789bd57a053cff0ec062e36e772c1c87"), looks := true }, kinds := [], alts := [], laidByText := true, laidKinds := [.data], laidTests := true, laidLooks := .later }
def DemesneAlikeUptoCardSaid : Prop := Claim7.holds Tryd.pinned (.plain (OpenSpec.upto demesneAlikeSpec)) demesneAlikeUptoCard
end Rows
end Go.Proofs.YtbpkmmckbhogcabDoor
