/-
  NARROWER THAN 'FOR EVERY INPUT', by the rows' own cells (each row's printed sentence says how): PtePacks: laid · PteReserved: laid · PteAddresses: laid · PteBack: laid · PteThere: laid · PteFree: laid.
  DERIVED. THE GIVEN ROWS OF THIS SEAT. 6 by the template 'for every input the law returns true; each argument reads behind the call as it read before'; 0 by the template 'total and deterministic' (their statements: YtnjoiknfaibheaaDoorTotals.lean).
  GIVEN WITH THE SEED: the statements are not yours to turn. If you find one false, say at which input.
  Laid BY PROGRAM, IN A SANDBOX (cutbox-rows.mjs): the forced cells as the released guide's own fill.sh prints them over the translation b172d6dcc9076715… (all of the seat's roots in one cut). By AI agents, Wed Nov 11 2026. No macro, syntax, notation, axiom, sorry.
-/
import Derived.Test.YtnjoiknfaibheaaDoorChecked
import GoSem.Claim
import GoSem.ClaimJoined
import GoSem.ClaimMapViews
import Derived.JoinedTies
import Derived.KernelRfl
namespace Go.Proofs.YtnjoiknfaibheaaDoor
/- THE CELL 'sum', in the pinned program and in every row, IS THE sha256 OF THE DUMP (.gsa) THAT YtnjoiknfaibheaaDoorProg.lean LOADS. Nothing in Lean hashes anything: it is a label: what it is worth is what the hold of that sum in a sandbox is worth. -/
noncomputable def Tryd.pinned : Pinned := { name := "ytnjoiknfaibheaadoor", sum := "b172d6dcc907671536935008f570141f305c1e62139bd8c60e91cf03e2fe41b0", checked := Tryd.checked }
namespace Rows
def none {H : Type} : Left H := { results := [], args := [] }

/- WHAT THE LISTED PACKAGE-LEVEL VARIABLES READ AS WHEN THE CALL BEGINS. Each datum BY PROGRAM (the guide's laid-datum.mjs) off the statement by which the dump's own 'gosem.cut.vars' lays the variable. In a bare row this is a premise. The card (YtnjoiknfaibheaaDoorCards.lean) ties it to the program's text. -/
def laid_demesne_pte_flagBits {H : Type} : DataW H := .agg [.lit (.int .i64 0), .lit (.int .i64 1), .lit (.int .i64 2), .lit (.int .i64 5), .lit (.int .i64 6), .lit (.int .i64 7), .lit (.int .i64 8), .lit (.int .i64 63)]

/-- 'demesnelaw03.PtePacks': WHATEVER THE INPUT: true; the input reads as it did. -/
def ptePacksSpec : ChangeSpec := { name := "ptePacks", fn := fun _ => fun
  | [d1, d2] => { results := [.lit (.bool true)], args := [d1, d2] }
  | _ => none }
def ptePacksRow : OpenClaim := { program := "ytnjoiknfaibheaadoor", sum := "b172d6dcc907671536935008f570141f305c1e62139bd8c60e91cf03e2fe41b0", func := "demesne/demesnelaw03.PtePacks", spec := "ptePacks", named := ["demesne/pte.flagBits"], apart := false, laid := [("demesne/pte.flagBits", laid_demesne_pte_flagBits)] }
def PtePacksSaid : Prop := ptePacksRow.holds Tryd.pinned (OpenSpec.ofChange ptePacksSpec)

/-- ITS FALSE NEIGHBOUR: 'it returns false'. Refute it at one input. -/
def ptePacksWrong : ChangeSpec := { name := "ptePacks", fn := fun _ => fun
  | [d1, d2] => { results := [.lit (.bool false)], args := [d1, d2] }
  | _ => none }
def PtePacksWrongFalsely : Prop := ptePacksRow.holds Tryd.pinned (OpenSpec.ofChange ptePacksWrong)

/-- 'demesnelaw03.PteReserved': WHATEVER THE INPUT: true; the input reads as it did. -/
def pteReservedSpec : ChangeSpec := { name := "pteReserved", fn := fun _ => fun
  | [d1, d2] => { results := [.lit (.bool true)], args := [d1, d2] }
  | _ => none }
def pteReservedRow : OpenClaim := { program := "ytnjoiknfaibheaadoor", sum := "b172d6dcc907671536935008f570141f305c1e62139bd8c60e91cf03e2fe41b0", func := "demesne/demesnelaw03.PteReserved", spec := "pteReserved", named := ["demesne/pte.flagBits"], apart := false, laid := [("demesne/pte.flagBits", laid_demesne_pte_flagBits)] }
def PteReservedSaid : Prop := pteReservedRow.holds Tryd.pinned (OpenSpec.ofChange pteReservedSpec)

/-- ITS FALSE NEIGHBOUR: 'it returns false'. Refute it at one input. -/
def pteReservedWrong : ChangeSpec := { name := "pteReserved", fn := fun _ => fun
  | [d1, d2] => { results := [.lit (.bool false)], args := [d1, d2] }
  | _ => none }
def PteReservedWrongFalsely : Prop := pteReservedRow.holds Tryd.pinned (OpenSpec.ofChange pteReservedWrong)

/-- 'demesnelaw03.PteAddresses': WHATEVER THE INPUT: true; the input reads as it did. -/
def pteAddressesSpec : ChangeSpec := { name := "pteAddresses", fn := fun _ => fun
  | [d1, d2, d3, d4, d5, d6] => { results := [.lit (.bool true)], args := [d1, d2, d3, d4, d5, d6] }
  | _ => none }
def pteAddressesRow : OpenClaim := { program := "ytnjoiknfaibheaadoor", sum := "b172d6dcc907671536935008f570141f305c1e62139bd8c60e91cf03e2fe41b0", func := "demesne/demesnelaw03.PteAddresses", spec := "pteAddresses", named := ["demesne/pte.flagBits"], apart := false, laid := [("demesne/pte.flagBits", laid_demesne_pte_flagBits)] }
def PteAddressesSaid : Prop := pteAddressesRow.holds Tryd.pinned (OpenSpec.ofChange pteAddressesSpec)

/-- ITS FALSE NEIGHBOUR: 'it returns false'. Refute it at one input. -/
def pteAddressesWrong : ChangeSpec := { name := "pteAddresses", fn := fun _ => fun
  | [d1, d2, d3, d4, d5, d6] => { results := [.lit (.bool false)], args := [d1, d2, d3, d4, d5, d6] }
  | _ => none }
def PteAddressesWrongFalsely : Prop := pteAddressesRow.holds Tryd.pinned (OpenSpec.ofChange pteAddressesWrong)

/-- 'demesnelaw03.PteBack': WHATEVER THE INPUT: true; the input reads as it did. -/
def pteBackSpec : ChangeSpec := { name := "pteBack", fn := fun _ => fun
  | [d1, d2] => { results := [.lit (.bool true)], args := [d1, d2] }
  | _ => none }
def pteBackRow : OpenClaim := { program := "ytnjoiknfaibheaadoor", sum := "b172d6dcc907671536935008f570141f305c1e62139bd8c60e91cf03e2fe41b0", func := "demesne/demesnelaw03.PteBack", spec := "pteBack", named := ["demesne/pte.flagBits"], apart := false, laid := [("demesne/pte.flagBits", laid_demesne_pte_flagBits)] }
def PteBackSaid : Prop := pteBackRow.holds Tryd.pinned (OpenSpec.ofChange pteBackSpec)

/-- ITS FALSE NEIGHBOUR: 'it returns false'. Refute it at one input. -/
def pteBackWrong : ChangeSpec := { name := "pteBack", fn := fun _ => fun
  | [d1, d2] => { results := [.lit (.bool false)], args := [d1, d2] }
  | _ => none }
def PteBackWrongFalsely : Prop := pteBackRow.holds Tryd.pinned (OpenSpec.ofChange pteBackWrong)

/-- 'demesnelaw03.PteThere': WHATEVER THE INPUT: true; the input reads as it did. -/
def pteThereSpec : ChangeSpec := { name := "pteThere", fn := fun _ => fun
  | [d1, d2, d3] => { results := [.lit (.bool true)], args := [d1, d2, d3] }
  | _ => none }
def pteThereRow : OpenClaim := { program := "ytnjoiknfaibheaadoor", sum := "b172d6dcc907671536935008f570141f305c1e62139bd8c60e91cf03e2fe41b0", func := "demesne/demesnelaw03.PteThere", spec := "pteThere", named := ["demesne/pte.flagBits"], apart := false, laid := [("demesne/pte.flagBits", laid_demesne_pte_flagBits)] }
def PteThereSaid : Prop := pteThereRow.holds Tryd.pinned (OpenSpec.ofChange pteThereSpec)

/-- ITS FALSE NEIGHBOUR: 'it returns false'. Refute it at one input. -/
def pteThereWrong : ChangeSpec := { name := "pteThere", fn := fun _ => fun
  | [d1, d2, d3] => { results := [.lit (.bool false)], args := [d1, d2, d3] }
  | _ => none }
def PteThereWrongFalsely : Prop := pteThereRow.holds Tryd.pinned (OpenSpec.ofChange pteThereWrong)

/-- 'demesnelaw03.PteFree': WHATEVER THE INPUT: true; the input reads as it did. -/
def pteFreeSpec : ChangeSpec := { name := "pteFree", fn := fun _ => fun
  | [d1, d2, d3] => { results := [.lit (.bool true)], args := [d1, d2, d3] }
  | _ => none }
def pteFreeRow : OpenClaim := { program := "ytnjoiknfaibheaadoor", sum := "b172d6dcc907671536935008f570141f305c1e62139bd8c60e91cf03e2fe41b0", func := "demesne/demesnelaw03.PteFree", spec := "pteFree", named := ["demesne/pte.flagBits"], apart := false, laid := [("demesne/pte.flagBits", laid_demesne_pte_flagBits)] }
def PteFreeSaid : Prop := pteFreeRow.holds Tryd.pinned (OpenSpec.ofChange pteFreeSpec)

/-- ITS FALSE NEIGHBOUR: 'it returns false'. Refute it at one input. -/
def pteFreeWrong : ChangeSpec := { name := "pteFree", fn := fun _ => fun
  | [d1, d2, d3] => { results := [.lit (.bool false)], args := [d1, d2, d3] }
  | _ => none }
def PteFreeWrongFalsely : Prop := pteFreeRow.holds Tryd.pinned (OpenSpec.ofChange pteFreeWrong)

/- THE SECOND FORM. 'bulk': how many values and letters a reading holds, each counted each time it is reached (what is shared counts as often as it is met; a slice's spare places count too). A statement '..UptoSaid' is the law's where the arguments, and the package variables that the reading takes, are together of bulk at most 1048576: NARROWER than '..Said'. Prove '..Said' where nothing that the law and all that it calls make is longer than what came in: it says more and counts as full. Else prove '..UptoSaid'. A law counts once. -/
mutual
def uptoBulk {H : Type} : DataW H → Nat
  | .lit (.string bytes) => bytes.length + 1
  | .lit _ => 1
  | .nil => 1
  | .ptr d => uptoBulk d + 1
  | .slice elems spare => uptoBulkAll elems + uptoBulkAll spare + 1
  | .agg parts => uptoBulkAll parts + 1
  | .iface _ d => uptoBulk d + 1
  | .map entries => uptoBulkEntries entries + 1
  | .held _ => 1
def uptoBulkAll {H : Type} : List (DataW H) → Nat
  | [] => 0
  | d :: r => uptoBulk d + uptoBulkAll r
def uptoBulkEntries {H : Type} : List (Lit × DataW H) → Nat
  | [] => 0
  | x :: r => uptoBulkEntry x + uptoBulkEntries r
def uptoBulkEntry {H : Type} : Lit × DataW H → Nat
  | (.string bytes, d) => bytes.length + uptoBulk d + 1
  | (_, d) => uptoBulk d + 1
 end
def uptoSmall : (H : Type) → List (DataW H) → Bool := fun _ ds => decide (uptoBulkAll ds ≤ 1048576)
def OpenSpec.upto (s : _root_.Go.ChangeSpec) : _root_.Go.OpenSpec := { _root_.Go.OpenSpec.ofChange s with cond := some uptoSmall }

/-- 'demesnelaw03.PtePacks', WHERE WHAT IT READS IS OF BULK AT MOST 1048576: true; the input reads as it did. -/
def ptePacksUptoRow : OpenClaim := { program := "ytnjoiknfaibheaadoor", sum := "b172d6dcc907671536935008f570141f305c1e62139bd8c60e91cf03e2fe41b0", func := "demesne/demesnelaw03.PtePacks", spec := "ptePacks", named := ["demesne/pte.flagBits"], apart := false, laid := [("demesne/pte.flagBits", laid_demesne_pte_flagBits)], narrowed := true }
def PtePacksUptoSaid : Prop := ptePacksUptoRow.holds Tryd.pinned (OpenSpec.upto ptePacksSpec)

/-- 'demesnelaw03.PteReserved', WHERE WHAT IT READS IS OF BULK AT MOST 1048576: true; the input reads as it did. -/
def pteReservedUptoRow : OpenClaim := { program := "ytnjoiknfaibheaadoor", sum := "b172d6dcc907671536935008f570141f305c1e62139bd8c60e91cf03e2fe41b0", func := "demesne/demesnelaw03.PteReserved", spec := "pteReserved", named := ["demesne/pte.flagBits"], apart := false, laid := [("demesne/pte.flagBits", laid_demesne_pte_flagBits)], narrowed := true }
def PteReservedUptoSaid : Prop := pteReservedUptoRow.holds Tryd.pinned (OpenSpec.upto pteReservedSpec)

/-- 'demesnelaw03.PteAddresses', WHERE WHAT IT READS IS OF BULK AT MOST 1048576: true; the input reads as it did. -/
def pteAddressesUptoRow : OpenClaim := { program := "ytnjoiknfaibheaadoor", sum := "b172d6dcc907671536935008f570141f305c1e62139bd8c60e91cf03e2fe41b0", func := "demesne/demesnelaw03.PteAddresses", spec := "pteAddresses", named := ["demesne/pte.flagBits"], apart := false, laid := [("demesne/pte.flagBits", laid_demesne_pte_flagBits)], narrowed := true }
def PteAddressesUptoSaid : Prop := pteAddressesUptoRow.holds Tryd.pinned (OpenSpec.upto pteAddressesSpec)

/-- 'demesnelaw03.PteBack', WHERE WHAT IT READS IS OF BULK AT MOST 1048576: true; the input reads as it did. -/
def pteBackUptoRow : OpenClaim := { program := "ytnjoiknfaibheaadoor", sum := "b172d6dcc907671536935008f570141f305c1e62139bd8c60e91cf03e2fe41b0", func := "demesne/demesnelaw03.PteBack", spec := "pteBack", named := ["demesne/pte.flagBits"], apart := false, laid := [("demesne/pte.flagBits", laid_demesne_pte_flagBits)], narrowed := true }
def PteBackUptoSaid : Prop := pteBackUptoRow.holds Tryd.pinned (OpenSpec.upto pteBackSpec)

/-- 'demesnelaw03.PteThere', WHERE WHAT IT READS IS OF BULK AT MOST 1048576: true; the input reads as it did. -/
def pteThereUptoRow : OpenClaim := { program := "ytnjoiknfaibheaadoor", sum := "b172d6dcc907671536935008f570141f305c1e62139bd8c60e91cf03e2fe41b0", func := "demesne/demesnelaw03.PteThere", spec := "pteThere", named := ["demesne/pte.flagBits"], apart := false, laid := [("demesne/pte.flagBits", laid_demesne_pte_flagBits)], narrowed := true }
def PteThereUptoSaid : Prop := pteThereUptoRow.holds Tryd.pinned (OpenSpec.upto pteThereSpec)

/-- 'demesnelaw03.PteFree', WHERE WHAT IT READS IS OF BULK AT MOST 1048576: true; the input reads as it did. -/
def pteFreeUptoRow : OpenClaim := { program := "ytnjoiknfaibheaadoor", sum := "b172d6dcc907671536935008f570141f305c1e62139bd8c60e91cf03e2fe41b0", func := "demesne/demesnelaw03.PteFree", spec := "pteFree", named := ["demesne/pte.flagBits"], apart := false, laid := [("demesne/pte.flagBits", laid_demesne_pte_flagBits)], narrowed := true }
def PteFreeUptoSaid : Prop := pteFreeUptoRow.holds Tryd.pinned (OpenSpec.upto pteFreeSpec)

end Rows
end Go.Proofs.YtnjoiknfaibheaaDoor
