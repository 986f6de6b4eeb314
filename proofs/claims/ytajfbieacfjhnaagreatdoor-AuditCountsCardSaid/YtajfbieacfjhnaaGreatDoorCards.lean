/-
  DERIVED. GIVEN WITH THE SEED: THE CARDS: each row of YtajfbieacfjhnaaGreatDoorRows.lean that lists a variable, with what it lists TIED to the program's text (the seventh form; the later family's looks); each row that meets fmt, with fmt's text TOLD by the authors' own Lean function (tested against real Go, not proved from fmt's source: count such statements apart). THE CARD IS WHAT COUNTS. Prove the row's statement (the work); the ties are given (YtajfbieacfjhnaaGreatDoorTie.lean); close each card by the builder's one call (the guide's Derived/Test/ToyasCard.lean, 'card_holds'). Laid BY PROGRAM, IN A SANDBOX (cutbox-door.mjs). By AI agents, Wed Nov 11 2026. No macro, syntax, notation, axiom, sorry.
-/
import Derived.Test.YtajfbieacfjhnaaGreatDoorRows
import GoSem.ClaimSeven
namespace Go.Proofs.YtajfbieacfjhnaaGreatDoor
namespace Rows

/-- THE TIED CARD OF 'demesnelaw20.AuditCounts'. -/
def auditCountsCard : Claim7 := { stood := { row := auditCountsRow, standIns := [], harness := (true, "e15e4586846bf2ce074db05960c1ec1dcd57f48b999ba9d2a78598767a4abaca"), looks := true }, kinds := [], alts := [], laidByText := true, laidKinds := [.data], laidTests := true, laidLooks := .later }
def AuditCountsCardSaid : Prop := Claim7.holds Tryz.pinned (.plain (OpenSpec.ofChange auditCountsSpec)) auditCountsCard

/-- THE TIED CARD OF 'demesnelaw20.AuditBoots'. -/
def auditBootsCard : Claim7 := { stood := { row := auditBootsRow, standIns := [], harness := (true, "e15e4586846bf2ce074db05960c1ec1dcd57f48b999ba9d2a78598767a4abaca"), looks := true }, kinds := [], alts := [], laidByText := true, laidKinds := [.data], laidTests := true, laidLooks := .later }
def AuditBootsCardSaid : Prop := Claim7.holds Tryz.pinned (.plain (OpenSpec.ofChange auditBootsSpec)) auditBootsCard

/-- THE SECOND FORM's CARD OF 'demesnelaw20.AuditCounts'. -/
def auditCountsUptoCard : Claim7 := { stood := { row := auditCountsUptoRow, standIns := [], harness := (true, "e15e4586846bf2ce074db05960c1ec1dcd57f48b999ba9d2a78598767a4abaca"), looks := true }, kinds := [], alts := [], laidByText := true, laidKinds := [.data], laidTests := true, laidLooks := .later }
def AuditCountsUptoCardSaid : Prop := Claim7.holds Tryz.pinned (.plain (OpenSpec.upto auditCountsSpec)) auditCountsUptoCard

/-- THE SECOND FORM's CARD OF 'demesnelaw20.AuditBoots'. -/
def auditBootsUptoCard : Claim7 := { stood := { row := auditBootsUptoRow, standIns := [], harness := (true, "e15e4586846bf2ce074db05960c1ec1dcd57f48b999ba9d2a78598767a4abaca"), looks := true }, kinds := [], alts := [], laidByText := true, laidKinds := [.data], laidTests := true, laidLooks := .later }
def AuditBootsUptoCardSaid : Prop := Claim7.holds Tryz.pinned (.plain (OpenSpec.upto auditBootsSpec)) auditBootsUptoCard
end Rows
end Go.Proofs.YtajfbieacfjhnaaGreatDoor
