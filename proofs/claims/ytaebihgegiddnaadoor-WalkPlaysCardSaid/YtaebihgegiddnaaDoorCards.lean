/-
  DERIVED. GIVEN WITH THE SEED: THE CARDS: each row of YtaebihgegiddnaaDoorRows.lean that lists a variable, with what it lists TIED to the program's text (the seventh form; the later family's looks); each row that meets fmt, with fmt's text TOLD by the authors' own Lean function (tested against real Go, not proved from fmt's source: count such statements apart). THE CARD IS WHAT COUNTS. Prove the row's statement (the work); the ties are given (YtaebihgegiddnaaDoorTie.lean); close each card by the builder's one call (the guide's Derived/Test/ToyasCard.lean, 'card_holds'). Laid BY PROGRAM, IN A SANDBOX (cutbox-door.mjs). By AI agents, Wed Nov 11 2026. No macro, syntax, notation, axiom, sorry.
-/
import Derived.Test.YtaebihgegiddnaaDoorRows
import GoSem.ClaimSeven
namespace Go.Proofs.YtaebihgegiddnaaDoor
namespace Rows

/-- THE TIED CARD OF 'demesnelaw04.WalkPlays'. -/
def walkPlaysCard : Claim7 := { stood := { row := walkPlaysRow, standIns := [], harness := (true, "8ff7d9be87bf16557d1e3a5cb4e9ef98d17157286c65b8d8089154d80088c6c8"), looks := true }, kinds := [], alts := [], laidByText := true, laidKinds := [.data], laidTests := true, laidLooks := .later }
def WalkPlaysCardSaid : Prop := Claim7.holds Tryd.pinned (.plain (OpenSpec.ofChange walkPlaysSpec)) walkPlaysCard

/-- THE TIED CARD OF 'demesnetop.DemesneTables'. -/
def demesneTablesCard : Claim7 := { stood := { row := demesneTablesRow, standIns := [], harness := (true, "8ff7d9be87bf16557d1e3a5cb4e9ef98d17157286c65b8d8089154d80088c6c8"), looks := true }, kinds := [], alts := [], laidByText := true, laidKinds := [.data], laidTests := true, laidLooks := .later }
def DemesneTablesCardSaid : Prop := Claim7.holds Tryd.pinned (.plain (OpenSpec.ofChange demesneTablesSpec)) demesneTablesCard

/-- THE SECOND FORM's CARD OF 'demesnelaw04.WalkPlays'. -/
def walkPlaysUptoCard : Claim7 := { stood := { row := walkPlaysUptoRow, standIns := [], harness := (true, "8ff7d9be87bf16557d1e3a5cb4e9ef98d17157286c65b8d8089154d80088c6c8"), looks := true }, kinds := [], alts := [], laidByText := true, laidKinds := [.data], laidTests := true, laidLooks := .later }
def WalkPlaysUptoCardSaid : Prop := Claim7.holds Tryd.pinned (.plain (OpenSpec.upto walkPlaysSpec)) walkPlaysUptoCard

/-- THE SECOND FORM's CARD OF 'demesnetop.DemesneTables'. -/
def demesneTablesUptoCard : Claim7 := { stood := { row := demesneTablesUptoRow, standIns := [], harness := (true, "8ff7d9be87bf16557d1e3a5cb4e9ef98d17157286c65b8d8089154d80088c6c8"), looks := true }, kinds := [], alts := [], laidByText := true, laidKinds := [.data], laidTests := true, laidLooks := .later }
def DemesneTablesUptoCardSaid : Prop := Claim7.holds Tryd.pinned (.plain (OpenSpec.upto demesneTablesSpec)) demesneTablesUptoCard
end Rows
end Go.Proofs.YtaebihgegiddnaaDoor
