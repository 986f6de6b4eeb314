/-
  DERIVED. GIVEN WITH THE SEED: THE CARDS: each row of YtkbkikbcpllknabDoorRows.lean that lists a variable, with what it lists TIED to the program's text (the seventh form; the later family's looks); each row that meets fmt, with fmt's text TOLD by the authors' own Lean function (tested against real Go, not proved from fmt's source: count such statements apart). THE CARD IS WHAT COUNTS. Prove the row's statement (the work); the ties are given (YtkbkikbcpllknabDoorTie.lean); close each card by the builder's one call (the guide's Derived/Test/ToyasCard.lean, 'card_holds'). Laid BY PROGRAM, IN A SANDBOX (cutbox-door.mjs). By AI agents, Wed Nov 11 2026. No macro, syntax, notation, axiom, sorry.
-/
import Derived.Test.YtkbkikbcpllknabDoorRows
import GoSem.ClaimSeven
namespace Go.Proofs.YtkbkikbcpllknabDoor
namespace Rows

/-- THE TIED CARD OF 'demesnelaw04.WalkLarge'. -/
def walkLargeCard : Claim7 := { stood := { row := walkLargeRow, standIns := [], harness := (true, "55063500961b4ca9307a97c709944f6f63bdc8680f67eae42bf68c0142f2b71d"), looks := true }, kinds := [], alts := [], laidByText := true, laidKinds := [.data], laidTests := true, laidLooks := .later }
def WalkLargeCardSaid : Prop := Claim7.holds Tryd.pinned (.plain (OpenSpec.ofChange walkLargeSpec)) walkLargeCard

/-- THE TIED CARD OF 'demesnetop.DemesneTables'. -/
def demesneTablesCard : Claim7 := { stood := { row := demesneTablesRow, standIns := [], harness := (true, "55063500961b4ca9307a97c709944f6f63bdc8680f67eae42bf68c0142f2b71d"), looks := true }, kinds := [], alts := [], laidByText := true, laidKinds := [.data], laidTests := true, laidLooks := .later }
def DemesneTablesCardSaid : Prop := Claim7.holds Tryd.pinned (.plain (OpenSpec.ofChange demesneTablesSpec)) demesneTablesCard

/-- THE SECOND FORM's CARD OF 'demesnelaw04.WalkLarge'. -/
def walkLargeUptoCard : Claim7 := { stood := { row := walkLargeUptoRow, standIns := [], harness := (true, "55063500961b4ca9307a97c709944f6f63bdc8680f67eae42bf68c0142f2b71d"), looks := true }, kinds := [], alts := [], laidByText := true, laidKinds := [.data], laidTests := true, laidLooks := .later }
def WalkLargeUptoCardSaid : Prop := Claim7.holds Tryd.pinned (.plain (OpenSpec.upto walkLargeSpec)) walkLargeUptoCard

/-- THE SECOND FORM's CARD OF 'demesnetop.DemesneTables'. -/
def demesneTablesUptoCard : Claim7 := { stood := { row := demesneTablesUptoRow, standIns := [], harness := (true, "55063500961b4ca9307a97c709944f6f63bdc8680f67eae42bf68c0142f2b71d"), looks := true }, kinds := [], alts := [], laidByText := true, laidKinds := [.data], laidTests := true, laidLooks := .later }
def DemesneTablesUptoCardSaid : Prop := Claim7.holds Tryd.pinned (.plain (OpenSpec.upto demesneTablesSpec)) demesneTablesUptoCard
end Rows
end Go.Proofs.YtkbkikbcpllknabDoor
