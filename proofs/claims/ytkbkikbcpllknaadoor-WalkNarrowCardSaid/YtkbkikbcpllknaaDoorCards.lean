/-
  DERIVED. GIVEN WITH THE SEED: THE CARDS: each row of YtkbkikbcpllknaaDoorRows.lean that lists a variable, with what it lists TIED to the program's text (the seventh form; the later family's looks); each row that meets fmt, with fmt's text TOLD by the authors' own Lean function (tested against real Go, not proved from fmt's source: count such statements apart). THE CARD IS WHAT COUNTS. Prove the row's statement (the work); the ties are given (YtkbkikbcpllknaaDoorTie.lean); close each card by the builder's one call (the guide's Derived/Test/ToyasCard.lean, 'card_holds'). Laid BY PROGRAM, IN A SANDBOX (cutbox-door.mjs). By AI agents, Wed Nov 11 2026. No macro, syntax, notation, axiom, sorry.
-/
import Derived.Test.YtkbkikbcpllknaaDoorRows
import GoSem.ClaimSeven
namespace Go.Proofs.YtkbkikbcpllknaaDoor
namespace Rows

/-- THE TIED CARD OF 'demesnelaw04.WalkPlays'. -/
def walkPlaysCard : Claim7 := { stood := { row := walkPlaysRow, standIns := [], harness := (true, "2a6e59ec9e225d64675e460dcd5b1b0b3cd5b025de7b313b17a7fe5eb85b0249"), looks := true }, kinds := [], alts := [], laidByText := true, laidKinds := [.data], laidTests := true, laidLooks := .later }
def WalkPlaysCardSaid : Prop := Claim7.holds Tryd.pinned (.plain (OpenSpec.ofChange walkPlaysSpec)) walkPlaysCard

/-- THE TIED CARD OF 'demesnelaw04.WalkMays'. -/
def walkMaysCard : Claim7 := { stood := { row := walkMaysRow, standIns := [], harness := (true, "2a6e59ec9e225d64675e460dcd5b1b0b3cd5b025de7b313b17a7fe5eb85b0249"), looks := true }, kinds := [], alts := [], laidByText := true, laidKinds := [.data], laidTests := true, laidLooks := .later }
def WalkMaysCardSaid : Prop := Claim7.holds Tryd.pinned (.plain (OpenSpec.ofChange walkMaysSpec)) walkMaysCard

/-- THE TIED CARD OF 'demesnelaw04.WalkAgain'. -/
def walkAgainCard : Claim7 := { stood := { row := walkAgainRow, standIns := [], harness := (true, "2a6e59ec9e225d64675e460dcd5b1b0b3cd5b025de7b313b17a7fe5eb85b0249"), looks := true }, kinds := [], alts := [], laidByText := true, laidKinds := [.data], laidTests := true, laidLooks := .later }
def WalkAgainCardSaid : Prop := Claim7.holds Tryd.pinned (.plain (OpenSpec.ofChange walkAgainSpec)) walkAgainCard

/-- THE TIED CARD OF 'demesnelaw04.WalkMarks'. -/
def walkMarksCard : Claim7 := { stood := { row := walkMarksRow, standIns := [], harness := (true, "2a6e59ec9e225d64675e460dcd5b1b0b3cd5b025de7b313b17a7fe5eb85b0249"), looks := true }, kinds := [], alts := [], laidByText := true, laidKinds := [.data], laidTests := true, laidLooks := .later }
def WalkMarksCardSaid : Prop := Claim7.holds Tryd.pinned (.plain (OpenSpec.ofChange walkMarksSpec)) walkMarksCard

/-- THE TIED CARD OF 'demesnelaw04.WalkNarrow'. -/
def walkNarrowCard : Claim7 := { stood := { row := walkNarrowRow, standIns := [], harness := (true, "2a6e59ec9e225d64675e460dcd5b1b0b3cd5b025de7b313b17a7fe5eb85b0249"), looks := true }, kinds := [], alts := [], laidByText := true, laidKinds := [.data], laidTests := true, laidLooks := .later }
def WalkNarrowCardSaid : Prop := Claim7.holds Tryd.pinned (.plain (OpenSpec.ofChange walkNarrowSpec)) walkNarrowCard

/-- THE TIED CARD OF 'demesnelaw04.WalkPages'. -/
def walkPagesCard : Claim7 := { stood := { row := walkPagesRow, standIns := [], harness := (true, "2a6e59ec9e225d64675e460dcd5b1b0b3cd5b025de7b313b17a7fe5eb85b0249"), looks := true }, kinds := [], alts := [], laidByText := true, laidKinds := [.data], laidTests := true, laidLooks := .later }
def WalkPagesCardSaid : Prop := Claim7.holds Tryd.pinned (.plain (OpenSpec.ofChange walkPagesSpec)) walkPagesCard

/-- THE SECOND FORM's CARD OF 'demesnelaw04.WalkPlays'. -/
def walkPlaysUptoCard : Claim7 := { stood := { row := walkPlaysUptoRow, standIns := [], harness := (true, "2a6e59ec9e225d64675e460dcd5b1b0b3cd5b025de7b313b17a7fe5eb85b0249"), looks := true }, kinds := [], alts := [], laidByText := true, laidKinds := [.data], laidTests := true, laidLooks := .later }
def WalkPlaysUptoCardSaid : Prop := Claim7.holds Tryd.pinned (.plain (OpenSpec.upto walkPlaysSpec)) walkPlaysUptoCard

/-- THE SECOND FORM's CARD OF 'demesnelaw04.WalkMays'. -/
def walkMaysUptoCard : Claim7 := { stood := { row := walkMaysUptoRow, standIns := [], harness := (true, "2a6e59ec9e225d64675e460dcd5b1b0b3cd5b025de7b313b17a7fe5eb85b0249"), looks := true }, kinds := [], alts := [], laidByText := true, laidKinds := [.data], laidTests := true, laidLooks := .later }
def WalkMaysUptoCardSaid : Prop := Claim7.holds Tryd.pinned (.plain (OpenSpec.upto walkMaysSpec)) walkMaysUptoCard

/-- THE SECOND FORM's CARD OF 'demesnelaw04.WalkAgain'. -/
def walkAgainUptoCard : Claim7 := { stood := { row := walkAgainUptoRow, standIns := [], harness := (true, "2a6e59ec9e225d64675e460dcd5b1b0b3cd5b025de7b313b17a7fe5eb85b0249"), looks := true }, kinds := [], alts := [], laidByText := true, laidKinds := [.data], laidTests := true, laidLooks := .later }
def WalkAgainUptoCardSaid : Prop := Claim7.holds Tryd.pinned (.plain (OpenSpec.upto walkAgainSpec)) walkAgainUptoCard

/-- THE SECOND FORM's CARD OF 'demesnelaw04.WalkMarks'. -/
def walkMarksUptoCard : Claim7 := { stood := { row := walkMarksUptoRow, standIns := [], harness := (true, "2a6e59ec9e225d64675e460dcd5b1b0b3cd5b025de7b313b17a7fe5eb85b0249"), looks := true }, kinds := [], alts := [], laidByText := true, laidKinds := [.data], laidTests := true, laidLooks := .later }
def WalkMarksUptoCardSaid : Prop := Claim7.holds Tryd.pinned (.plain (OpenSpec.upto walkMarksSpec)) walkMarksUptoCard

/-- THE SECOND FORM's CARD OF 'demesnelaw04.WalkNarrow'. -/
def walkNarrowUptoCard : Claim7 := { stood := { row := walkNarrowUptoRow, standIns := [], harness := (true, "2a6e59ec9e225d64675e460dcd5b1b0b3cd5b025de7b313b17a7fe5eb85b0249"), looks := true }, kinds := [], alts := [], laidByText := true, laidKinds := [.data], laidTests := true, laidLooks := .later }
def WalkNarrowUptoCardSaid : Prop := Claim7.holds Tryd.pinned (.plain (OpenSpec.upto walkNarrowSpec)) walkNarrowUptoCard

/-- THE SECOND FORM's CARD OF 'demesnelaw04.WalkPages'. -/
def walkPagesUptoCard : Claim7 := { stood := { row := walkPagesUptoRow, standIns := [], harness := (true, "2a6e59ec9e225d64675e460dcd5b1b0b3cd5b025de7b313b17a7fe5eb85b0249"), looks := true }, kinds := [], alts := [], laidByText := true, laidKinds := [.data], laidTests := true, laidLooks := .later }
def WalkPagesUptoCardSaid : Prop := Claim7.holds Tryd.pinned (.plain (OpenSpec.upto walkPagesSpec)) walkPagesUptoCard
end Rows
end Go.Proofs.YtkbkikbcpllknaaDoor
