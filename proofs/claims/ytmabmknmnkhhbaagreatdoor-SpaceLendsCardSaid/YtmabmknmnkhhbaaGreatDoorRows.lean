/-
  NARROWER THAN 'FOR EVERY INPUT', by the rows' own cells (each row's printed sentence says how): SpaceBoots: laid · SpaceLends: laid · SpaceMaps: laid · SpaceTags: laid.
  DERIVED. THE GIVEN ROWS OF THIS SEAT. 4 by the template 'for every input the law returns true; each argument reads behind the call as it read before'; 0 by the template 'total and deterministic' (their statements: YtmabmknmnkhhbaaGreatDoorTotals.lean).
  GIVEN WITH THE SEED: the statements are not yours to turn. If you find one false, say at which input.
  Laid BY PROGRAM, IN A SANDBOX (cutbox-rows.mjs): the forced cells as the released guide's own fill.sh prints them over the translation b5167bd089547b10… (all of the seat's roots in one cut). By AI agents, Wed Nov 11 2026. No macro, syntax, notation, axiom, sorry.
-/
import Derived.Test.YtmabmknmnkhhbaaGreatDoorChecked
import GoSem.Claim
import GoSem.ClaimJoined
import GoSem.ClaimMapViews
import Derived.JoinedTies
import Derived.KernelRfl
namespace Go.Proofs.YtmabmknmnkhhbaaGreatDoor
/- THE CELL 'sum', in the pinned program and in every row, IS THE sha256 OF THE DUMP (.gsa) THAT YtmabmknmnkhhbaaGreatDoorProg.lean LOADS. Nothing in Lean hashes anything: it is a label: what it is worth is what the hold of that sum in a sandbox is worth. -/
noncomputable def Tryz.pinned : Pinned := { name := "ytmabmknmnkhhbaagreatdoor", sum := "b5167bd089547b10648cde70994cf3075941a16252c10eb65e36f88ec81df757", checked := Tryz.checked }
namespace Rows
def none {H : Type} : Left H := { results := [], args := [] }

/- WHAT THE LISTED PACKAGE-LEVEL VARIABLES READ AS WHEN THE CALL BEGINS. Each datum BY PROGRAM (the guide's laid-datum.mjs) off the statement by which the dump's own 'gosem.cut.vars' lays the variable. In a bare row this is a premise. The card (YtmabmknmnkhhbaaGreatDoorCards.lean) ties it to the program's text. -/
def laid_demesne_pte_flagBits {H : Type} : DataW H := .agg [.lit (.int .i64 0), .lit (.int .i64 1), .lit (.int .i64 2), .lit (.int .i64 5), .lit (.int .i64 6), .lit (.int .i64 7), .lit (.int .i64 8), .lit (.int .i64 63)]

/-- 'demesnelaw12.SpaceBoots': WHATEVER THE INPUT: true; the input reads as it did. -/
def spaceBootsSpec : ChangeSpec := { name := "spaceBoots", fn := fun _ => fun
  | [d] => { results := [.lit (.bool true)], args := [d] }
  | _ => none }
def spaceBootsRow : OpenClaim := { program := "ytmabmknmnkhhbaagreatdoor", sum := "b5167bd089547b10648cde70994cf3075941a16252c10eb65e36f88ec81df757", func := "demesne/demesnelaw12.SpaceBoots", spec := "spaceBoots", unfollowed := true, recurses := true, named := ["demesne/pte.flagBits"], apart := false, laid := [("demesne/pte.flagBits", laid_demesne_pte_flagBits)] }
def SpaceBootsSaid : Prop := spaceBootsRow.holds Tryz.pinned (OpenSpec.ofChange spaceBootsSpec)

/-- ITS FALSE NEIGHBOUR: 'it returns false'. Refute it at one input. -/
def spaceBootsWrong : ChangeSpec := { name := "spaceBoots", fn := fun _ => fun
  | [d] => { results := [.lit (.bool false)], args := [d] }
  | _ => none }
def SpaceBootsWrongFalsely : Prop := spaceBootsRow.holds Tryz.pinned (OpenSpec.ofChange spaceBootsWrong)

/-- 'demesnelaw12.SpaceLends': WHATEVER THE INPUT: true; the input reads as it did. -/
def spaceLendsSpec : ChangeSpec := { name := "spaceLends", fn := fun _ => fun
  | [d1, d2, d3, d4, d5] => { results := [.lit (.bool true)], args := [d1, d2, d3, d4, d5] }
  | _ => none }
def spaceLendsRow : OpenClaim := { program := "ytmabmknmnkhhbaagreatdoor", sum := "b5167bd089547b10648cde70994cf3075941a16252c10eb65e36f88ec81df757", func := "demesne/demesnelaw12.SpaceLends", spec := "spaceLends", unfollowed := true, recurses := true, named := ["demesne/pte.flagBits"], apart := false, laid := [("demesne/pte.flagBits", laid_demesne_pte_flagBits)] }
def SpaceLendsSaid : Prop := spaceLendsRow.holds Tryz.pinned (OpenSpec.ofChange spaceLendsSpec)

/-- ITS FALSE NEIGHBOUR: 'it returns false'. Refute it at one input. -/
def spaceLendsWrong : ChangeSpec := { name := "spaceLends", fn := fun _ => fun
  | [d1, d2, d3, d4, d5] => { results := [.lit (.bool false)], args := [d1, d2, d3, d4, d5] }
  | _ => none }
def SpaceLendsWrongFalsely : Prop := spaceLendsRow.holds Tryz.pinned (OpenSpec.ofChange spaceLendsWrong)

/-- 'demesnelaw12.SpaceMaps': WHATEVER THE INPUT: true; the input reads as it did. -/
def spaceMapsSpec : ChangeSpec := { name := "spaceMaps", fn := fun _ => fun
  | [d1, d2, d3, d4] => { results := [.lit (.bool true)], args := [d1, d2, d3, d4] }
  | _ => none }
def spaceMapsRow : OpenClaim := { program := "ytmabmknmnkhhbaagreatdoor", sum := "b5167bd089547b10648cde70994cf3075941a16252c10eb65e36f88ec81df757", func := "demesne/demesnelaw12.SpaceMaps", spec := "spaceMaps", unfollowed := true, recurses := true, named := ["demesne/pte.flagBits"], apart := false, laid := [("demesne/pte.flagBits", laid_demesne_pte_flagBits)] }
def SpaceMapsSaid : Prop := spaceMapsRow.holds Tryz.pinned (OpenSpec.ofChange spaceMapsSpec)

/-- ITS FALSE NEIGHBOUR: 'it returns false'. Refute it at one input. -/
def spaceMapsWrong : ChangeSpec := { name := "spaceMaps", fn := fun _ => fun
  | [d1, d2, d3, d4] => { results := [.lit (.bool false)], args := [d1, d2, d3, d4] }
  | _ => none }
def SpaceMapsWrongFalsely : Prop := spaceMapsRow.holds Tryz.pinned (OpenSpec.ofChange spaceMapsWrong)

/-- 'demesnelaw12.SpaceTags': WHATEVER THE INPUT: true; the input reads as it did. -/
def spaceTagsSpec : ChangeSpec := { name := "spaceTags", fn := fun _ => fun
  | [d1, d2] => { results := [.lit (.bool true)], args := [d1, d2] }
  | _ => none }
def spaceTagsRow : OpenClaim := { program := "ytmabmknmnkhhbaagreatdoor", sum := "b5167bd089547b10648cde70994cf3075941a16252c10eb65e36f88ec81df757", func := "demesne/demesnelaw12.SpaceTags", spec := "spaceTags", unfollowed := true, recurses := true, named := ["demesne/pte.flagBits"], apart := false, laid := [("demesne/pte.flagBits", laid_demesne_pte_flagBits)] }
def SpaceTagsSaid : Prop := spaceTagsRow.holds Tryz.pinned (OpenSpec.ofChange spaceTagsSpec)

/-- ITS FALSE NEIGHBOUR: 'it returns false'. Refute it at one input. -/
def spaceTagsWrong : ChangeSpec := { name := "spaceTags", fn := fun _ => fun
  | [d1, d2] => { results := [.lit (.bool false)], args := [d1, d2] }
  | _ => none }
def SpaceTagsWrongFalsely : Prop := spaceTagsRow.holds Tryz.pinned (OpenSpec.ofChange spaceTagsWrong)

/- THE SECOND FORM. 'bulk': how many values and letters a reading holds, each counted each time it is reached (what is shared counts as often as it is met; a slice's spare places count too). A statement '..UptoSaid' is the law's where the arguments, and the package variables that the reading takes, are together of bulk at most 1048576: NARROWER than '..Said'. Prove '..Said' where nothing that the law and all that it calls make is longer than what came in: it says more and counts as full. Else prove '..UptoSaid'. A law counts once. -/
mutual
def uptoBulk {H : Type} : DataW H → Nat
  | .lit (.string bytes) => bytes.length + 1
  | .lit _ => 1
  | .nil => 1
  | .ptr d => uptoBulk d + 1
  | .slice elems spare => uptoBulkAll elems + uptoBulkAll spare + 1
  | .agg parts => uptoBulkAll parts + 1
  | .iface _ d => uptoBulk d + 1
  | .map entries => uptoBulkEntries entries + 1
  | .held _ => 1
def uptoBulkAll {H : Type} : List (DataW H) → Nat
  | [] => 0
  | d :: r => uptoBulk d + uptoBulkAll r
def uptoBulkEntries {H : Type} : List (Lit × DataW H) → Nat
  | [] => 0
  | x :: r => uptoBulkEntry x + uptoBulkEntries r
def uptoBulkEntry {H : Type} : Lit × DataW H → Nat
  | (.string bytes, d) => bytes.length + uptoBulk d + 1
  | (_, d) => uptoBulk d + 1
 end
def uptoSmall : (H : Type) → List (DataW H) → Bool := fun _ ds => decide (uptoBulkAll ds ≤ 1048576)
def OpenSpec.upto (s : _root_.Go.ChangeSpec) : _root_.Go.OpenSpec := { _root_.Go.OpenSpec.ofChange s with cond := some uptoSmall }

/-- 'demesnelaw12.SpaceBoots', WHERE WHAT IT READS IS OF BULK AT MOST 1048576: true; the input reads as it did. -/
def spaceBootsUptoRow : OpenClaim := { program := "ytmabmknmnkhhbaagreatdoor", sum := "b5167bd089547b10648cde70994cf3075941a16252c10eb65e36f88ec81df757", func := "demesne/demesnelaw12.SpaceBoots", spec := "spaceBoots", unfollowed := true, recurses := true, named := ["demesne/pte.flagBits"], apart := false, laid := [("demesne/pte.flagBits", laid_demesne_pte_flagBits)], narrowed := true }
def SpaceBootsUptoSaid : Prop := spaceBootsUptoRow.holds Tryz.pinned (OpenSpec.upto spaceBootsSpec)

/-- 'demesnelaw12.SpaceLends', WHERE WHAT IT READS IS OF BULK AT MOST 1048576: true; the input reads as it did. -/
def spaceLendsUptoRow : OpenClaim := { program := "ytmabmknmnkhhbaagreatdoor", sum := "b5167bd089547b10648cde70994cf3075941a16252c10eb65e36f88ec81df757", func := "demesne/demesnelaw12.SpaceLends", spec := "spaceLends", unfollowed := true, recurses := true, named := ["demesne/pte.flagBits"], apart := false, laid := [("demesne/pte.flagBits", laid_demesne_pte_flagBits)], narrowed := true }
def SpaceLendsUptoSaid : Prop := spaceLendsUptoRow.holds Tryz.pinned (OpenSpec.upto spaceLendsSpec)

/-- 'demesnelaw12.SpaceMaps', WHERE WHAT IT READS IS OF BULK AT MOST 1048576: true; the input reads as it did. -/
def spaceMapsUptoRow : OpenClaim := { program := "ytmabmknmnkhhbaagreatdoor", sum := "b5167bd089547b10648cde70994cf3075941a16252c10eb65e36f88ec81df757", func := "demesne/demesnelaw12.SpaceMaps", spec := "spaceMaps", unfollowed := true, recurses := true, named := ["demesne/pte.flagBits"], apart := false, laid := [("demesne/pte.flagBits", laid_demesne_pte_flagBits)], narrowed := true }
def SpaceMapsUptoSaid : Prop := spaceMapsUptoRow.holds Tryz.pinned (OpenSpec.upto spaceMapsSpec)

/-- 'demesnelaw12.SpaceTags', WHERE WHAT IT READS IS OF BULK AT MOST 1048576: true; the input reads as it did. -/
def spaceTagsUptoRow : OpenClaim := { program := "ytmabmknmnkhhbaagreatdoor", sum := "b5167bd089547b10648cde70994cf3075941a16252c10eb65e36f88ec81df757", func := "demesne/demesnelaw12.SpaceTags", spec := "spaceTags", unfollowed := true, recurses := true, named := ["demesne/pte.flagBits"], apart := false, laid := [("demesne/pte.flagBits", laid_demesne_pte_flagBits)], narrowed := true }
def SpaceTagsUptoSaid : Prop := spaceTagsUptoRow.holds Tryz.pinned (OpenSpec.upto spaceTagsSpec)

end Rows
end Go.Proofs.YtmabmknmnkhhbaaGreatDoor
