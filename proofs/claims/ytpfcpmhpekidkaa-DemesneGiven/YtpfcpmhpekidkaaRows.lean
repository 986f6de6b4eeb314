/-
  No cell of these rows narrows 'for every input' (looked for: loops, veiled, ifaces, maps, wideKeys, modest, calm, conditions, laid).
  DERIVED. THE GIVEN ROWS OF THIS SEAT. 2 by the template 'for every input the law returns true; each argument reads behind the call as it read before'; 0 by the template 'total and deterministic' (their statements: YtpfcpmhpekidkaaTotals.lean).
  GIVEN WITH THE SEED: the statements are not yours to turn. If you find one false, say at which input.
  Laid BY PROGRAM, IN A SANDBOX (cutbox-rows.mjs): the forced cells as the released guide's own fill.sh prints them over the translation e69480b867052ae6… (all of the seat's roots in one cut). By AI agents, Wed Nov 11 2026. No macro, syntax, notation, axiom, sorry.
-/
import Derived.Test.YtpfcpmhpekidkaaChecked
import GoSem.Claim
import GoSem.ClaimJoined
import GoSem.ClaimMapViews
import Derived.JoinedTies
import Derived.KernelRfl
namespace Go.Proofs.Ytpfcpmhpekidkaa
/- THE CELL 'sum', in the pinned program and in every row, IS THE sha256 OF THE DUMP (.gsa) THAT YtpfcpmhpekidkaaProg.lean LOADS. Nothing in Lean hashes anything: it is a label: what it is worth is what the hold of that sum in a sandbox is worth. -/
noncomputable def Try.pinned : Pinned := { name := "ytpfcpmhpekidkaa", sum := "e69480b867052ae629f7a46a8a881568251c948eb258be058c08c8209fcfa371", checked := Try.checked }
namespace Rows
def none {H : Type} : Left H := { results := [], args := [] }

/-- 'demesnelaw06.BootmapLonger': WHATEVER THE INPUT: true; the input reads as it did. -/
def bootmapLongerSpec : ChangeSpec := { name := "bootmapLonger", fn := fun _ => fun
  | [d1, d2, d3] => { results := [.lit (.bool true)], args := [d1, d2, d3] }
  | _ => none }
def bootmapLongerRow : OpenClaim := { program := "ytpfcpmhpekidkaa", sum := "e69480b867052ae629f7a46a8a881568251c948eb258be058c08c8209fcfa371", func := "demesne/demesnelaw06.BootmapLonger", spec := "bootmapLonger", unfollowed := true, recurses := true, apart := false }
def BootmapLongerSaid : Prop := bootmapLongerRow.holds Try.pinned (OpenSpec.ofChange bootmapLongerSpec)

/-- ITS FALSE NEIGHBOUR: 'it returns false'. Refute it at one input. -/
def bootmapLongerWrong : ChangeSpec := { name := "bootmapLonger", fn := fun _ => fun
  | [d1, d2, d3] => { results := [.lit (.bool false)], args := [d1, d2, d3] }
  | _ => none }
def BootmapLongerWrongFalsely : Prop := bootmapLongerRow.holds Try.pinned (OpenSpec.ofChange bootmapLongerWrong)

/-- 'demesnetop.DemesneGiven': WHATEVER THE INPUT: true; the input reads as it did. -/
def demesneGivenSpec : ChangeSpec := { name := "demesneGiven", fn := fun _ => fun
  | [d1, d2, d3, d4] => { results := [.lit (.bool true)], args := [d1, d2, d3, d4] }
  | _ => none }
def demesneGivenRow : OpenClaim := { program := "ytpfcpmhpekidkaa", sum := "e69480b867052ae629f7a46a8a881568251c948eb258be058c08c8209fcfa371", func := "demesne/demesnetop.DemesneGiven", spec := "demesneGiven", unfollowed := true, recurses := true, apart := false }
def DemesneGivenSaid : Prop := demesneGivenRow.holds Try.pinned (OpenSpec.ofChange demesneGivenSpec)

/-- ITS FALSE NEIGHBOUR: 'it returns false'. Refute it at one input. -/
def demesneGivenWrong : ChangeSpec := { name := "demesneGiven", fn := fun _ => fun
  | [d1, d2, d3, d4] => { results := [.lit (.bool false)], args := [d1, d2, d3, d4] }
  | _ => none }
def DemesneGivenWrongFalsely : Prop := demesneGivenRow.holds Try.pinned (OpenSpec.ofChange demesneGivenWrong)

/- THE SECOND FORM. 'bulk': how many values and letters a reading holds, each counted each time it is reached (what is shared counts as often as it is met; a slice's spare places count too). A statement '..UptoSaid' is the law's where the arguments, and the package variables that the reading takes, are together of bulk at most 1048576: NARROWER than '..Said'. Prove '..Said' where nothing that the law and all that it calls make is longer than what came in: it says more and counts as full. Else prove '..UptoSaid'. A law counts once. -/
mutual
def uptoBulk {H : Type} : DataW H → Nat
  | .lit (.string bytes) => bytes.length + 1
  | .lit _ => 1
  | .nil => 1
  | .ptr d => uptoBulk d + 1
  | .slice elems spare => uptoBulkAll elems + uptoBulkAll spare + 1
  | .agg parts => uptoBulkAll parts + 1
  | .iface _ d => uptoBulk d + 1
  | .map entries => uptoBulkEntries entries + 1
  | .held _ => 1
def uptoBulkAll {H : Type} : List (DataW H) → Nat
  | [] => 0
  | d :: r => uptoBulk d + uptoBulkAll r
def uptoBulkEntries {H : Type} : List (Lit × DataW H) → Nat
  | [] => 0
  | x :: r => uptoBulkEntry x + uptoBulkEntries r
def uptoBulkEntry {H : Type} : Lit × DataW H → Nat
  | (.string bytes, d) => bytes.length + uptoBulk d + 1
  | (_, d) => uptoBulk d + 1
 end
def uptoSmall : (H : Type) → List (DataW H) → Bool := fun _ ds => decide (uptoBulkAll ds ≤ 1048576)
def OpenSpec.upto (s : _root_.Go.ChangeSpec) : _root_.Go.OpenSpec := { _root_.Go.OpenSpec.ofChange s with cond := some uptoSmall }

/-- 'demesnelaw06.BootmapLonger', WHERE WHAT IT READS IS OF BULK AT MOST 1048576: true; the input reads as it did. -/
def bootmapLongerUptoRow : OpenClaim := { program := "ytpfcpmhpekidkaa", sum := "e69480b867052ae629f7a46a8a881568251c948eb258be058c08c8209fcfa371", func := "demesne/demesnelaw06.BootmapLonger", spec := "bootmapLonger", unfollowed := true, recurses := true, apart := false, narrowed := true }
def BootmapLongerUptoSaid : Prop := bootmapLongerUptoRow.holds Try.pinned (OpenSpec.upto bootmapLongerSpec)

/-- 'demesnetop.DemesneGiven', WHERE WHAT IT READS IS OF BULK AT MOST 1048576: true; the input reads as it did. -/
def demesneGivenUptoRow : OpenClaim := { program := "ytpfcpmhpekidkaa", sum := "e69480b867052ae629f7a46a8a881568251c948eb258be058c08c8209fcfa371", func := "demesne/demesnetop.DemesneGiven", spec := "demesneGiven", unfollowed := true, recurses := true, apart := false, narrowed := true }
def DemesneGivenUptoSaid : Prop := demesneGivenUptoRow.holds Try.pinned (OpenSpec.upto demesneGivenSpec)

end Rows
end Go.Proofs.Ytpfcpmhpekidkaa
