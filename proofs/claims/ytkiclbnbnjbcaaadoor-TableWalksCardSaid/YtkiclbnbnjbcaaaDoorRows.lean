/-
  NARROWER THAN 'FOR EVERY INPUT', by the rows' own cells (each row's printed sentence says how): TablePlays: laid · TableWalks: laid · TableBack: laid · TableApart: laid · TableWhole: laid · TableNear: laid.
  DERIVED. THE GIVEN ROWS OF THIS SEAT. 6 by the template 'for every input the law returns true; each argument reads behind the call as it read before'; 0 by the template 'total and deterministic' (their statements: YtkiclbnbnjbcaaaDoorTotals.lean).
  GIVEN WITH THE SEED: the statements are not yours to turn. If you find one false, say at which input.
  Laid BY PROGRAM, IN A SANDBOX (cutbox-rows.mjs): the forced cells as the released guide's own fill.sh prints them over the translation 458732d0178284d7… (all of the seat's roots in one cut). By AI agents, Wed Nov 11 2026. No macro, syntax, notation, axiom, sorry.
-/
import Derived.Test.YtkiclbnbnjbcaaaDoorChecked
import GoSem.Claim
import GoSem.ClaimJoined
import GoSem.ClaimMapViews
import Derived.JoinedTies
import Derived.KernelRfl
namespace Go.Proofs.YtkiclbnbnjbcaaaDoor
/- THE CELL 'sum', in the pinned program and in every row, IS THE sha256 OF THE DUMP (.gsa) THAT YtkiclbnbnjbcaaaDoorProg.lean LOADS. Nothing in Lean hashes anything: it is a label: what it is worth is what the hold of that sum in a sandbox is worth. -/
noncomputable def Tryd.pinned : Pinned := { name := "ytkiclbnbnjbcaaadoor", sum := "458732d0178284d71c4514d635cd403a1a549deafd81be948dda42d3c0bb2454", checked := Tryd.checked }
namespace Rows
def none {H : Type} : Left H := { results := [], args := [] }

/- WHAT THE LISTED PACKAGE-LEVEL VARIABLES READ AS WHEN THE CALL BEGINS. Each datum BY PROGRAM (the guide's laid-datum.mjs) off the statement by which the dump's own 'gosem.cut.vars' lays the variable. In a bare row this is a premise. The card (YtkiclbnbnjbcaaaDoorCards.lean) ties it to the program's text. -/
def laid_demesne_pte_flagBits {H : Type} : DataW H := .agg [.lit (.int .i64 0), .lit (.int .i64 1), .lit (.int .i64 2), .lit (.int .i64 5), .lit (.int .i64 6), .lit (.int .i64 7), .lit (.int .i64 8), .lit (.int .i64 63)]

/-- 'demesnelaw09.TablePlays': WHATEVER THE INPUT: true; the input reads as it did. -/
def tablePlaysSpec : ChangeSpec := { name := "tablePlays", fn := fun _ => fun
  | [d1, d2] => { results := [.lit (.bool true)], args := [d1, d2] }
  | _ => none }
def tablePlaysRow : OpenClaim := { program := "ytkiclbnbnjbcaaadoor", sum := "458732d0178284d71c4514d635cd403a1a549deafd81be948dda42d3c0bb2454", func := "demesne/demesnelaw09.TablePlays", spec := "tablePlays", unfollowed := true, recurses := true, named := ["demesne/pte.flagBits"], apart := false, laid := [("demesne/pte.flagBits", laid_demesne_pte_flagBits)] }
def TablePlaysSaid : Prop := tablePlaysRow.holds Tryd.pinned (OpenSpec.ofChange tablePlaysSpec)

/-- ITS FALSE NEIGHBOUR: 'it returns false'. Refute it at one input. -/
def tablePlaysWrong : ChangeSpec := { name := "tablePlays", fn := fun _ => fun
  | [d1, d2] => { results := [.lit (.bool false)], args := [d1, d2] }
  | _ => none }
def TablePlaysWrongFalsely : Prop := tablePlaysRow.holds Tryd.pinned (OpenSpec.ofChange tablePlaysWrong)

/-- 'demesnelaw09.TableWalks': WHATEVER THE INPUT: true; the input reads as it did. -/
def tableWalksSpec : ChangeSpec := { name := "tableWalks", fn := fun _ => fun
  | [d1, d2, d3] => { results := [.lit (.bool true)], args := [d1, d2, d3] }
  | _ => none }
def tableWalksRow : OpenClaim := { program := "ytkiclbnbnjbcaaadoor", sum := "458732d0178284d71c4514d635cd403a1a549deafd81be948dda42d3c0bb2454", func := "demesne/demesnelaw09.TableWalks", spec := "tableWalks", unfollowed := true, recurses := true, named := ["demesne/pte.flagBits"], apart := false, laid := [("demesne/pte.flagBits", laid_demesne_pte_flagBits)] }
def TableWalksSaid : Prop := tableWalksRow.holds Tryd.pinned (OpenSpec.ofChange tableWalksSpec)

/-- ITS FALSE NEIGHBOUR: 'it returns false'. Refute it at one input. -/
def tableWalksWrong : ChangeSpec := { name := "tableWalks", fn := fun _ => fun
  | [d1, d2, d3] => { results := [.lit (.bool false)], args := [d1, d2, d3] }
  | _ => none }
def TableWalksWrongFalsely : Prop := tableWalksRow.holds Tryd.pinned (OpenSpec.ofChange tableWalksWrong)

/-- 'demesnelaw09.TableBack': WHATEVER THE INPUT: true; the input reads as it did. -/
def tableBackSpec : ChangeSpec := { name := "tableBack", fn := fun _ => fun
  | [d1, d2] => { results := [.lit (.bool true)], args := [d1, d2] }
  | _ => none }
def tableBackRow : OpenClaim := { program := "ytkiclbnbnjbcaaadoor", sum := "458732d0178284d71c4514d635cd403a1a549deafd81be948dda42d3c0bb2454", func := "demesne/demesnelaw09.TableBack", spec := "tableBack", unfollowed := true, recurses := true, named := ["demesne/pte.flagBits"], apart := false, laid := [("demesne/pte.flagBits", laid_demesne_pte_flagBits)] }
def TableBackSaid : Prop := tableBackRow.holds Tryd.pinned (OpenSpec.ofChange tableBackSpec)

/-- ITS FALSE NEIGHBOUR: 'it returns false'. Refute it at one input. -/
def tableBackWrong : ChangeSpec := { name := "tableBack", fn := fun _ => fun
  | [d1, d2] => { results := [.lit (.bool false)], args := [d1, d2] }
  | _ => none }
def TableBackWrongFalsely : Prop := tableBackRow.holds Tryd.pinned (OpenSpec.ofChange tableBackWrong)

/-- 'demesnelaw09.TableApart': WHATEVER THE INPUT: true; the input reads as it did. -/
def tableApartSpec : ChangeSpec := { name := "tableApart", fn := fun _ => fun
  | [d1, d2] => { results := [.lit (.bool true)], args := [d1, d2] }
  | _ => none }
def tableApartRow : OpenClaim := { program := "ytkiclbnbnjbcaaadoor", sum := "458732d0178284d71c4514d635cd403a1a549deafd81be948dda42d3c0bb2454", func := "demesne/demesnelaw09.TableApart", spec := "tableApart", unfollowed := true, recurses := true, named := ["demesne/pte.flagBits"], apart := false, laid := [("demesne/pte.flagBits", laid_demesne_pte_flagBits)] }
def TableApartSaid : Prop := tableApartRow.holds Tryd.pinned (OpenSpec.ofChange tableApartSpec)

/-- ITS FALSE NEIGHBOUR: 'it returns false'. Refute it at one input. -/
def tableApartWrong : ChangeSpec := { name := "tableApart", fn := fun _ => fun
  | [d1, d2] => { results := [.lit (.bool false)], args := [d1, d2] }
  | _ => none }
def TableApartWrongFalsely : Prop := tableApartRow.holds Tryd.pinned (OpenSpec.ofChange tableApartWrong)

/-- 'demesnelaw09.TableWhole': WHATEVER THE INPUT: true; the input reads as it did. -/
def tableWholeSpec : ChangeSpec := { name := "tableWhole", fn := fun _ => fun
  | [d1, d2, d3] => { results := [.lit (.bool true)], args := [d1, d2, d3] }
  | _ => none }
def tableWholeRow : OpenClaim := { program := "ytkiclbnbnjbcaaadoor", sum := "458732d0178284d71c4514d635cd403a1a549deafd81be948dda42d3c0bb2454", func := "demesne/demesnelaw09.TableWhole", spec := "tableWhole", unfollowed := true, recurses := true, named := ["demesne/pte.flagBits"], apart := false, laid := [("demesne/pte.flagBits", laid_demesne_pte_flagBits)] }
def TableWholeSaid : Prop := tableWholeRow.holds Tryd.pinned (OpenSpec.ofChange tableWholeSpec)

/-- ITS FALSE NEIGHBOUR: 'it returns false'. Refute it at one input. -/
def tableWholeWrong : ChangeSpec := { name := "tableWhole", fn := fun _ => fun
  | [d1, d2, d3] => { results := [.lit (.bool false)], args := [d1, d2, d3] }
  | _ => none }
def TableWholeWrongFalsely : Prop := tableWholeRow.holds Tryd.pinned (OpenSpec.ofChange tableWholeWrong)

/-- 'demesnelaw09.TableNear': WHATEVER THE INPUT: true; the input reads as it did. -/
def tableNearSpec : ChangeSpec := { name := "tableNear", fn := fun _ => fun
  | [d1, d2, d3] => { results := [.lit (.bool true)], args := [d1, d2, d3] }
  | _ => none }
def tableNearRow : OpenClaim := { program := "ytkiclbnbnjbcaaadoor", sum := "458732d0178284d71c4514d635cd403a1a549deafd81be948dda42d3c0bb2454", func := "demesne/demesnelaw09.TableNear", spec := "tableNear", unfollowed := true, recurses := true, named := ["demesne/pte.flagBits"], apart := false, laid := [("demesne/pte.flagBits", laid_demesne_pte_flagBits)] }
def TableNearSaid : Prop := tableNearRow.holds Tryd.pinned (OpenSpec.ofChange tableNearSpec)

/-- ITS FALSE NEIGHBOUR: 'it returns false'. Refute it at one input. -/
def tableNearWrong : ChangeSpec := { name := "tableNear", fn := fun _ => fun
  | [d1, d2, d3] => { results := [.lit (.bool false)], args := [d1, d2, d3] }
  | _ => none }
def TableNearWrongFalsely : Prop := tableNearRow.holds Tryd.pinned (OpenSpec.ofChange tableNearWrong)

/- THE SECOND FORM. 'bulk': how many values and letters a reading holds, each counted each time it is reached (what is shared counts as often as it is met; a slice's spare places count too). A statement '..UptoSaid' is the law's where the arguments, and the package variables that the reading takes, are together of bulk at most 1048576: NARROWER than '..Said'. Prove '..Said' where nothing that the law and all that it calls make is longer than what came in: it says more and counts as full. Else prove '..UptoSaid'. A law counts once. -/
mutual
def uptoBulk {H : Type} : DataW H → Nat
  | .lit (.string bytes) => bytes.length + 1
  | .lit _ => 1
  | .nil => 1
  | .ptr d => uptoBulk d + 1
  | .slice elems spare => uptoBulkAll elems + uptoBulkAll spare + 1
  | .agg parts => uptoBulkAll parts + 1
  | .iface _ d => uptoBulk d + 1
  | .map entries => uptoBulkEntries entries + 1
  | .held _ => 1
def uptoBulkAll {H : Type} : List (DataW H) → Nat
  | [] => 0
  | d :: r => uptoBulk d + uptoBulkAll r
def uptoBulkEntries {H : Type} : List (Lit × DataW H) → Nat
  | [] => 0
  | x :: r => uptoBulkEntry x + uptoBulkEntries r
def uptoBulkEntry {H : Type} : Lit × DataW H → Nat
  | (.string bytes, d) => bytes.length + uptoBulk d + 1
  | (_, d) => uptoBulk d + 1
 end
def uptoSmall : (H : Type) → List (DataW H) → Bool := fun _ ds => decide (uptoBulkAll ds ≤ 1048576)
def OpenSpec.upto (s : _root_.Go.ChangeSpec) : _root_.Go.OpenSpec := { _root_.Go.OpenSpec.ofChange s with cond := some uptoSmall }

/-- 'demesnelaw09.TablePlays', WHERE WHAT IT READS IS OF BULK AT MOST 1048576: true; the input reads as it did. -/
def tablePlaysUptoRow : OpenClaim := { program := "ytkiclbnbnjbcaaadoor", sum := "458732d0178284d71c4514d635cd403a1a549deafd81be948dda42d3c0bb2454", func := "demesne/demesnelaw09.TablePlays", spec := "tablePlays", unfollowed := true, recurses := true, named := ["demesne/pte.flagBits"], apart := false, laid := [("demesne/pte.flagBits", laid_demesne_pte_flagBits)], narrowed := true }
def TablePlaysUptoSaid : Prop := tablePlaysUptoRow.holds Tryd.pinned (OpenSpec.upto tablePlaysSpec)

/-- 'demesnelaw09.TableWalks', WHERE WHAT IT READS IS OF BULK AT MOST 1048576: true; the input reads as it did. -/
def tableWalksUptoRow : OpenClaim := { program := "ytkiclbnbnjbcaaadoor", sum := "458732d0178284d71c4514d635cd403a1a549deafd81be948dda42d3c0bb2454", func := "demesne/demesnelaw09.TableWalks", spec := "tableWalks", unfollowed := true, recurses := true, named := ["demesne/pte.flagBits"], apart := false, laid := [("demesne/pte.flagBits", laid_demesne_pte_flagBits)], narrowed := true }
def TableWalksUptoSaid : Prop := tableWalksUptoRow.holds Tryd.pinned (OpenSpec.upto tableWalksSpec)

/-- 'demesnelaw09.TableBack', WHERE WHAT IT READS IS OF BULK AT MOST 1048576: true; the input reads as it did. -/
def tableBackUptoRow : OpenClaim := { program := "ytkiclbnbnjbcaaadoor", sum := "458732d0178284d71c4514d635cd403a1a549deafd81be948dda42d3c0bb2454", func := "demesne/demesnelaw09.TableBack", spec := "tableBack", unfollowed := true, recurses := true, named := ["demesne/pte.flagBits"], apart := false, laid := [("demesne/pte.flagBits", laid_demesne_pte_flagBits)], narrowed := true }
def TableBackUptoSaid : Prop := tableBackUptoRow.holds Tryd.pinned (OpenSpec.upto tableBackSpec)

/-- 'demesnelaw09.TableApart', WHERE WHAT IT READS IS OF BULK AT MOST 1048576: true; the input reads as it did. -/
def tableApartUptoRow : OpenClaim := { program := "ytkiclbnbnjbcaaadoor", sum := "458732d0178284d71c4514d635cd403a1a549deafd81be948dda42d3c0bb2454", func := "demesne/demesnelaw09.TableApart", spec := "tableApart", unfollowed := true, recurses := true, named := ["demesne/pte.flagBits"], apart := false, laid := [("demesne/pte.flagBits", laid_demesne_pte_flagBits)], narrowed := true }
def TableApartUptoSaid : Prop := tableApartUptoRow.holds Tryd.pinned (OpenSpec.upto tableApartSpec)

/-- 'demesnelaw09.TableWhole', WHERE WHAT IT READS IS OF BULK AT MOST 1048576: true; the input reads as it did. -/
def tableWholeUptoRow : OpenClaim := { program := "ytkiclbnbnjbcaaadoor", sum := "458732d0178284d71c4514d635cd403a1a549deafd81be948dda42d3c0bb2454", func := "demesne/demesnelaw09.TableWhole", spec := "tableWhole", unfollowed := true, recurses := true, named := ["demesne/pte.flagBits"], apart := false, laid := [("demesne/pte.flagBits", laid_demesne_pte_flagBits)], narrowed := true }
def TableWholeUptoSaid : Prop := tableWholeUptoRow.holds Tryd.pinned (OpenSpec.upto tableWholeSpec)

/-- 'demesnelaw09.TableNear', WHERE WHAT IT READS IS OF BULK AT MOST 1048576: true; the input reads as it did. -/
def tableNearUptoRow : OpenClaim := { program := "ytkiclbnbnjbcaaadoor", sum := "458732d0178284d71c4514d635cd403a1a549deafd81be948dda42d3c0bb2454", func := "demesne/demesnelaw09.TableNear", spec := "tableNear", unfollowed := true, recurses := true, named := ["demesne/pte.flagBits"], apart := false, laid := [("demesne/pte.flagBits", laid_demesne_pte_flagBits)], narrowed := true }
def TableNearUptoSaid : Prop := tableNearUptoRow.holds Tryd.pinned (OpenSpec.upto tableNearSpec)

end Rows
end Go.Proofs.YtkiclbnbnjbcaaaDoor
