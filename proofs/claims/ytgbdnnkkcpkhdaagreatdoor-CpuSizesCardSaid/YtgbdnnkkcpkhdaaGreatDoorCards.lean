/-
  DERIVED. GIVEN WITH THE SEED: THE CARDS: each row of YtgbdnnkkcpkhdaaGreatDoorRows.lean that lists a variable, with what it lists TIED to the program's text (the seventh form; the later family's looks); each row that meets fmt, with fmt's text TOLD by the authors' own Lean function (tested against real Go, not proved from fmt's source: count such statements apart). THE CARD IS WHAT COUNTS. Prove the row's statement (the work); the ties are given (YtgbdnnkkcpkhdaaGreatDoorTie.lean); close each card by the builder's one call (the guide's Derived/Test/ToyasCard.lean, 'card_holds'). Laid BY PROGRAM, IN A SANDBOX (cutbox-door.mjs). By AI agents, Wed Nov 11 2026. No macro, syntax, notation, axiom, sorry.
-/
import Derived.Test.YtgbdnnkkcpkhdaaGreatDoorRows
import GoSem.ClaimSeven
namespace Go.Proofs.YtgbdnnkkcpkhdaaGreatDoor
namespace Rows

/-- THE TIED CARD OF 'demesnelaw13.CpuSizes'. -/
def cpuSizesCard : Claim7 := { stood := { row := cpuSizesRow, standIns := [], harness := (true, "5bdc7b716c7eb2f1cc315d08d3b84835796251faeed87eeb0a4fbf2b53d32d40"), looks := true }, kinds := [], alts := [], laidByText := true, laidKinds := [.data], laidTests := true, laidLooks := .later }
def CpuSizesCardSaid : Prop := Claim7.holds Tryz.pinned (.plain (OpenSpec.ofChange cpuSizesSpec)) cpuSizesCard

/-- THE SECOND FORM's CARD OF 'demesnelaw13.CpuSizes'. -/
def cpuSizesUptoCard : Claim7 := { stood := { row := cpuSizesUptoRow, standIns := [], harness := (true, "5bdc7b716c7eb2f1cc315d08d3b84835796251faeed87eeb0a4fbf2b53d32d40"), looks := true }, kinds := [], alts := [], laidByText := true, laidKinds := [.data], laidTests := true, laidLooks := .later }
def CpuSizesUptoCardSaid : Prop := Claim7.holds Tryz.pinned (.plain (OpenSpec.upto cpuSizesSpec)) cpuSizesUptoCard
end Rows
end Go.Proofs.YtgbdnnkkcpkhdaaGreatDoor
