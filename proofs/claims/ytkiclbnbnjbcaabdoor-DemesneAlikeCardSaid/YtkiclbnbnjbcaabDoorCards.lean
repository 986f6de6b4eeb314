/-
  DERIVED. GIVEN WITH THE SEED: THE CARDS: each row of YtkiclbnbnjbcaabDoorRows.lean that lists a variable, with what it lists TIED to the program's text (the seventh form; the later family's looks); each row that meets fmt, with fmt's text TOLD by the authors' own Lean function (tested against real Go, not proved from fmt's source: count such statements apart). THE CARD IS WHAT COUNTS. Prove the row's statement (the work); the ties are given (YtkiclbnbnjbcaabDoorTie.lean); close each card by the builder's one call (the guide's Derived/Test/ToyasCard.lean, 'card_holds'). Laid BY PROGRAM, IN A SANDBOX (cutbox-door.mjs). By AI agents, Wed Nov 11 2026. No macro, syntax, notation, axiom, sorry.
-/
import Derived.Test.YtkiclbnbnjbcaabDoorRows
import GoSem.ClaimSeven
namespace Go.Proofs.YtkiclbnbnjbcaabDoor
namespace Rows

/-- THE TIED CARD OF 'demesnetop.DemesneAlike'. -/
def demesneAlikeCard : Claim7 := { stood := { row := demesneAlikeRow, standIns := [], harness := (true, "dcdf1d4237d8ac3888537850c06b418794931e1c7f2206f8bee54c97e8eb03b1"), looks := true }, kinds := [], alts := [], laidByText := true, laidKinds := [.data], laidTests := true, laidLooks := .later }
def DemesneAlikeCardSaid : Prop := Claim7.holds Tryd.pinned (.plain (OpenSpec.ofChange demesneAlikeSpec)) demesneAlikeCard

/-- THE SECOND FORM's CARD OF 'demesnetop.DemesneAlike'. -/
def demesneAlikeUptoCard : Claim7 := { stood := { row := demesneAlikeUptoRow, standIns := [], harness := (true, "dcdf1d4237d8ac3888537850c06b418794931e1c7f2206f8bee54c97e8eb03b1"), looks := true }, kinds := [], alts := [], laidByText := true, laidKinds := [.data], laidTests := true, laidLooks := .later }
def DemesneAlikeUptoCardSaid : Prop := Claim7.holds Tryd.pinned (.plain (OpenSpec.upto demesneAlikeSpec)) demesneAlikeUptoCard
end Rows
end Go.Proofs.YtkiclbnbnjbcaabDoor
