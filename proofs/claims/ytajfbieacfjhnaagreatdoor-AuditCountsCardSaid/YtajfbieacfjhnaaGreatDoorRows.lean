/-
  NARROWER THAN 'FOR EVERY INPUT', by the rows' own cells (each row's printed sentence says how): AuditCounts: laid · AuditBoots: laid.
  DERIVED. THE GIVEN ROWS OF THIS SEAT. 2 by the template 'for every input the law returns true; each argument reads behind the call as it read before'; 0 by the template 'total and deterministic' (their statements: YtajfbieacfjhnaaGreatDoorTotals.lean).
  GIVEN WITH THE SEED: the statements are not yours to turn. If you find one false, say at which input.
  Laid BY PROGRAM, IN A SANDBOX (cutbox-rows.mjs): the forced cells as the released guide's own fill.sh prints them over the translation 01de28df06786901… (all of the seat's roots in one cut). By AI agents, Wed Nov 11 2026. No macro, syntax, notation, axiom, sorry.
-/
import Derived.Test.YtajfbieacfjhnaaGreatDoorChecked
import GoSem.Claim
import GoSem.ClaimJoined
import GoSem.ClaimMapViews
import Derived.JoinedTies
import Derived.KernelRfl
namespace Go.Proofs.YtajfbieacfjhnaaGreatDoor
/- THE CELL 'sum', in the pinned program and in every row, IS THE sha256 OF THE DUMP (.gsa) THAT YtajfbieacfjhnaaGreatDoorProg.lean LOADS. Nothing in Lean hashes anything: it is a label: what it is worth is what the hold of that sum in a sandbox is worth. -/
noncomputable def Tryz.pinned : Pinned := { name := "ytajfbieacfjhnaagreatdoor", sum := "01de28df067869012e1c7fcc7cde80dbea04630dbdbed45bde53ded7dd49d5ea", checked := Tryz.checked }
namespace Rows
def none {H : Type} : Left H := { results := [], args := [] }

/- WHAT THE LISTED PACKAGE-LEVEL VARIABLES READ AS WHEN THE CALL BEGINS. Each datum BY PROGRAM (the guide's laid-datum.mjs) off the statement by which the dump's own 'gosem.cut.vars' lays the variable. In a bare row this is a premise. The card (YtajfbieacfjhnaaGreatDoorCards.lean) ties it to the program's text. -/
def laid_demesne_pte_flagBits {H : Type} : DataW H := .agg [.lit (.int .i64 0), .lit (.int .i64 1), .lit (.int .i64 2), .lit (.int .i64 5), .lit (.int .i64 6), .lit (.int .i64 7), .lit (.int .i64 8), .lit (.int .i64 63)]

/-- 'demesnelaw20.AuditCounts': WHATEVER THE INPUT: true; the input reads as it did. -/
def auditCountsSpec : ChangeSpec := { name := "auditCounts", fn := fun _ => fun
  | [d] => { results := [.lit (.bool true)], args := [d] }
  | _ => none }
def auditCountsRow : OpenClaim := { program := "ytajfbieacfjhnaagreatdoor", sum := "01de28df067869012e1c7fcc7cde80dbea04630dbdbed45bde53ded7dd49d5ea", func := "demesne/demesnelaw20.AuditCounts", spec := "auditCounts", unfollowed := true, recurses := true, named := ["demesne/pte.flagBits"], apart := false, laid := [("demesne/pte.flagBits", laid_demesne_pte_flagBits)] }
def AuditCountsSaid : Prop := auditCountsRow.holds Tryz.pinned (OpenSpec.ofChange auditCountsSpec)

/-- ITS FALSE NEIGHBOUR: 'it returns false'. Refute it at one input. -/
def auditCountsWrong : ChangeSpec := { name := "auditCounts", fn := fun _ => fun
  | [d] => { results := [.lit (.bool false)], args := [d] }
  | _ => none }
def AuditCountsWrongFalsely : Prop := auditCountsRow.holds Tryz.pinned (OpenSpec.ofChange auditCountsWrong)

/-- 'demesnelaw20.AuditBoots': WHATEVER THE INPUT: true; the input reads as it did. -/
def auditBootsSpec : ChangeSpec := { name := "auditBoots", fn := fun _ => fun
  | [d] => { results := [.lit (.bool true)], args := [d] }
  | _ => none }
def auditBootsRow : OpenClaim := { program := "ytajfbieacfjhnaagreatdoor", sum := "01de28df067869012e1c7fcc7cde80dbea04630dbdbed45bde53ded7dd49d5ea", func := "demesne/demesnelaw20.AuditBoots", spec := "auditBoots", unfollowed := true, recurses := true, named := ["demesne/pte.flagBits"], apart := false, laid := [("demesne/pte.flagBits", laid_demesne_pte_flagBits)] }
def AuditBootsSaid : Prop := auditBootsRow.holds Tryz.pinned (OpenSpec.ofChange auditBootsSpec)

/-- ITS FALSE NEIGHBOUR: 'it returns false'. Refute it at one input. -/
def auditBootsWrong : ChangeSpec := { name := "auditBoots", fn := fun _ => fun
  | [d] => { results := [.lit (.bool false)], args := [d] }
  | _ => none }
def AuditBootsWrongFalsely : Prop := auditBootsRow.holds Tryz.pinned (OpenSpec.ofChange auditBootsWrong)

/- THE SECOND FORM. 'bulk': how many values and letters a reading holds, each counted each time it is reached (what is shared counts as often as it is met; a slice's spare places count too). A statement '..UptoSaid' is the law's where the arguments, and the package variables that the reading takes, are together of bulk at most 1048576: NARROWER than '..Said'. Prove '..Said' where nothing that the law and all that it calls make is longer than what came in: it says more and counts as full. Else prove '..UptoSaid'. A law counts once. -/
mutual
def uptoBulk {H : Type} : DataW H → Nat
  | .lit (.string bytes) => bytes.length + 1
  | .lit _ => 1
  | .nil => 1
  | .ptr d => uptoBulk d + 1
  | .slice elems spare => uptoBulkAll elems + uptoBulkAll spare + 1
  | .agg parts => uptoBulkAll parts + 1
  | .iface _ d => uptoBulk d + 1
  | .map entries => uptoBulkEntries entries + 1
  | .held _ => 1
def uptoBulkAll {H : Type} : List (DataW H) → Nat
  | [] => 0
  | d :: r => uptoBulk d + uptoBulkAll r
def uptoBulkEntries {H : Type} : List (Lit × DataW H) → Nat
  | [] => 0
  | x :: r => uptoBulkEntry x + uptoBulkEntries r
def uptoBulkEntry {H : Type} : Lit × DataW H → Nat
  | (.string bytes, d) => bytes.length + uptoBulk d + 1
  | (_, d) => uptoBulk d + 1
 end
def uptoSmall : (H : Type) → List (DataW H) → Bool := fun _ ds => decide (uptoBulkAll ds ≤ 1048576)
def OpenSpec.upto (s : _root_.Go.ChangeSpec) : _root_.Go.OpenSpec := { _root_.Go.OpenSpec.ofChange s with cond := some uptoSmall }

/-- 'demesnelaw20.AuditCounts', WHERE WHAT IT READS IS OF BULK AT MOST 1048576: true; the input reads as it did. -/
def auditCountsUptoRow : OpenClaim := { program := "ytajfbieacfjhnaagreatdoor", sum := "01de28df067869012e1c7fcc7cde80dbea04630dbdbed45bde53ded7dd49d5ea", func := "demesne/demesnelaw20.AuditCounts", spec := "auditCounts", unfollowed := true, recurses := true, named := ["demesne/pte.flagBits"], apart := false, laid := [("demesne/pte.flagBits", laid_demesne_pte_flagBits)], narrowed := true }
def AuditCountsUptoSaid : Prop := auditCountsUptoRow.holds Tryz.pinned (OpenSpec.upto auditCountsSpec)

/-- 'demesnelaw20.AuditBoots', WHERE WHAT IT READS IS OF BULK AT MOST 1048576: true; the input reads as it did. -/
def auditBootsUptoRow : OpenClaim := { program := "ytajfbieacfjhnaagreatdoor", sum := "01de28df067869012e1c7fcc7cde80dbea04630dbdbed45bde53ded7dd49d5ea", func := "demesne/demesnelaw20.AuditBoots", spec := "auditBoots", unfollowed := true, recurses := true, named := ["demesne/pte.flagBits"], apart := false, laid := [("demesne/pte.flagBits", laid_demesne_pte_flagBits)], narrowed := true }
def AuditBootsUptoSaid : Prop := auditBootsUptoRow.holds Tryz.pinned (OpenSpec.upto auditBootsSpec)

end Rows
end Go.Proofs.YtajfbieacfjhnaaGreatDoor
