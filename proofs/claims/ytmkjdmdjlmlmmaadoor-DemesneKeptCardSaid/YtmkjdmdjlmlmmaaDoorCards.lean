/-
  DERIVED. GIVEN WITH THE SEED: THE CARDS: each row of YtmkjdmdjlmlmmaaDoorRows.lean that lists a variable, with what it lists TIED to the program's text (the seventh form; the later family's looks); each row that meets fmt, with fmt's text TOLD by the authors' own Lean function (tested against real Go, not proved from fmt's source: count such statements apart). THE CARD IS WHAT COUNTS. Prove the row's statement (the work); the ties are given (YtmkjdmdjlmlmmaaDoorTie.lean); close each card by the builder's one call (the guide's Derived/Test/ToyasCard.lean, 'card_holds'). Laid BY PROGRAM, IN A SANDBOX (cutbox-door.mjs). By AI agents, Wed Nov 11 2026. No macro, syntax, notation, axiom, sorry.
-/
import Derived.Test.YtmkjdmdjlmlmmaaDoorRows
import GoSem.ClaimSeven
namespace Go.Proofs.YtmkjdmdjlmlmmaaDoor
namespace Rows

/-- THE TIED CARD OF 'demesnetop.DemesneKept'. -/
def demesneKeptCard : Claim7 := { stood := { row := demesneKeptRow, standIns := [], harness := (true, "a91074681435731a6c766ce77da0918316bc3d897541bd53f664bd0acd76c49b"), looks := true }, kinds := [], alts := [], laidByText := true, laidKinds := [.data], laidTests := true, laidLooks := .later }
def DemesneKeptCardSaid : Prop := Claim7.holds Tryd.pinned (.plain (OpenSpec.ofChange demesneKeptSpec)) demesneKeptCard

/-- THE SECOND FORM's CARD OF 'demesnetop.DemesneKept'. -/
def demesneKeptUptoCard : Claim7 := { stood := { row := demesneKeptUptoRow, standIns := [], harness := (true, "a91074681435731a6c766ce77da0918316bc3d897541bd53f664bd0acd76c49b"), looks := true }, kinds := [], alts := [], laidByText := true, laidKinds := [.data], laidTests := true, laidLooks := .later }
def DemesneKeptUptoCardSaid : Prop := Claim7.holds Tryd.pinned (.plain (OpenSpec.upto demesneKeptSpec)) demesneKeptUptoCard
end Rows
end Go.Proofs.YtmkjdmdjlmlmmaaDoor
