/-
  No cell of these rows narrows 'for every input' (looked for: loops, veiled, ifaces, maps, wideKeys, modest, calm, conditions, laid).
  DERIVED. THE GIVEN ROWS OF THIS SEAT. 4 by the template 'for every input the law returns true; each argument reads behind the call as it read before'; 0 by the template 'total and deterministic' (their statements: YtpfmkhnogobioacTotals.lean).
  GIVEN WITH THE SEED: the statements are not yours to turn. If you find one false, say at which input.
  Laid BY PROGRAM, IN A SANDBOX (cutbox-rows.mjs): the forced cells as the released guide's own fill.sh prints them over the translation 0c9ac3a8bb7548d7… (all of the seat's roots in one cut). By AI agents, Wed Nov 11 2026. No macro, syntax, notation, axiom, sorry.
-/
import Derived.Test.YtpfmkhnogobioacChecked
import GoSem.Claim
import GoSem.ClaimJoined
import GoSem.ClaimMapViews
import Derived.JoinedTies
import Derived.KernelRfl
namespace Go.Proofs.Ytpfmkhnogobioac
/- THE CELL 'sum', in the pinned program and in every row, IS THE sha256 OF THE DUMP (.gsa) THAT YtpfmkhnogobioacProg.lean LOADS. Nothing in Lean hashes anything: it is a label: what it is worth is what the hold of that sum in a sandbox is worth. -/
noncomputable def Try.pinned : Pinned := { name := "ytpfmkhnogobioac", sum := "0c9ac3a8bb7548d781565637988b973b7d8af3bc32e0bc29833dcc37efe147ec", checked := Try.checked }
namespace Rows
def none {H : Type} : Left H := { results := [], args := [] }

/-- 'demesnelaw02.FltRanks': WHATEVER THE INPUT: true; the input reads as it did. -/
def fltRanksSpec : ChangeSpec := { name := "fltRanks", fn := fun _ => fun
  | [d1, d2, d3] => { results := [.lit (.bool true)], args := [d1, d2, d3] }
  | _ => none }
def fltRanksRow : OpenClaim := { program := "ytpfmkhnogobioac", sum := "0c9ac3a8bb7548d781565637988b973b7d8af3bc32e0bc29833dcc37efe147ec", func := "demesne/demesnelaw02.FltRanks", spec := "fltRanks", inPlace := ["math.Float64bits", "math.Float64frombits"], apart := false }
def FltRanksSaid : Prop := fltRanksRow.holds Try.pinned (OpenSpec.ofChange fltRanksSpec)

/-- ITS FALSE NEIGHBOUR: 'it returns false'. Refute it at one input. -/
def fltRanksWrong : ChangeSpec := { name := "fltRanks", fn := fun _ => fun
  | [d1, d2, d3] => { results := [.lit (.bool false)], args := [d1, d2, d3] }
  | _ => none }
def FltRanksWrongFalsely : Prop := fltRanksRow.holds Try.pinned (OpenSpec.ofChange fltRanksWrong)

/-- 'demesnelaw02.FltOnes': WHATEVER THE INPUT: true; the input reads as it did. -/
def fltOnesSpec : ChangeSpec := { name := "fltOnes", fn := fun _ => fun
  | [d] => { results := [.lit (.bool true)], args := [d] }
  | _ => none }
def fltOnesRow : OpenClaim := { program := "ytpfmkhnogobioac", sum := "0c9ac3a8bb7548d781565637988b973b7d8af3bc32e0bc29833dcc37efe147ec", func := "demesne/demesnelaw02.FltOnes", spec := "fltOnes", inPlace := ["math.Float64bits", "math.Float64frombits"], apart := false }
def FltOnesSaid : Prop := fltOnesRow.holds Try.pinned (OpenSpec.ofChange fltOnesSpec)

/-- ITS FALSE NEIGHBOUR: 'it returns false'. Refute it at one input. -/
def fltOnesWrong : ChangeSpec := { name := "fltOnes", fn := fun _ => fun
  | [d] => { results := [.lit (.bool false)], args := [d] }
  | _ => none }
def FltOnesWrongFalsely : Prop := fltOnesRow.holds Try.pinned (OpenSpec.ofChange fltOnesWrong)

/-- 'demesnelaw02.FltWholes': WHATEVER THE INPUT: true; the input reads as it did. -/
def fltWholesSpec : ChangeSpec := { name := "fltWholes", fn := fun _ => fun
  | [d] => { results := [.lit (.bool true)], args := [d] }
  | _ => none }
def fltWholesRow : OpenClaim := { program := "ytpfmkhnogobioac", sum := "0c9ac3a8bb7548d781565637988b973b7d8af3bc32e0bc29833dcc37efe147ec", func := "demesne/demesnelaw02.FltWholes", spec := "fltWholes", inPlace := ["math.Float64frombits", "math.archTrunc", "math.Float64bits"], apart := false }
def FltWholesSaid : Prop := fltWholesRow.holds Try.pinned (OpenSpec.ofChange fltWholesSpec)

/-- ITS FALSE NEIGHBOUR: 'it returns false'. Refute it at one input. -/
def fltWholesWrong : ChangeSpec := { name := "fltWholes", fn := fun _ => fun
  | [d] => { results := [.lit (.bool false)], args := [d] }
  | _ => none }
def FltWholesWrongFalsely : Prop := fltWholesRow.holds Try.pinned (OpenSpec.ofChange fltWholesWrong)

/-- 'demesnetop.DemesneNumbers': WHATEVER THE INPUT: true; the input reads as it did. -/
def demesneNumbersSpec : ChangeSpec := { name := "demesneNumbers", fn := fun _ => fun
  | [d1, d2, d3, d4] => { results := [.lit (.bool true)], args := [d1, d2, d3, d4] }
  | _ => none }
def demesneNumbersRow : OpenClaim := { program := "ytpfmkhnogobioac", sum := "0c9ac3a8bb7548d781565637988b973b7d8af3bc32e0bc29833dcc37efe147ec", func := "demesne/demesnetop.DemesneNumbers", spec := "demesneNumbers", inPlace := ["math.Float64bits", "math.Float64frombits"], apart := false }
def DemesneNumbersSaid : Prop := demesneNumbersRow.holds Try.pinned (OpenSpec.ofChange demesneNumbersSpec)

/-- ITS FALSE NEIGHBOUR: 'it returns false'. Refute it at one input. -/
def demesneNumbersWrong : ChangeSpec := { name := "demesneNumbers", fn := fun _ => fun
  | [d1, d2, d3, d4] => { results := [.lit (.bool false)], args := [d1, d2, d3, d4] }
  | _ => none }
def DemesneNumbersWrongFalsely : Prop := demesneNumbersRow.holds Try.pinned (OpenSpec.ofChange demesneNumbersWrong)

/- THE SECOND FORM. 'bulk': how many values and letters a reading holds, each counted each time it is reached (what is shared counts as often as it is met; a slice's spare places count too). A statement '..UptoSaid' is the law's where the arguments, and the package variables that the reading takes, are together of bulk at most 1048576: NARROWER than '..Said'. Prove '..Said' where nothing that the law and all that it calls make is longer than what came in: it says more and counts as full. Else prove '..UptoSaid'. A law counts once. -/
mutual
def uptoBulk {H : Type} : DataW H → Nat
  | .lit (.string bytes) => bytes.length + 1
  | .lit _ => 1
  | .nil => 1
  | .ptr d => uptoBulk d + 1
  | .slice elems spare => uptoBulkAll elems + uptoBulkAll spare + 1
  | .agg parts => uptoBulkAll parts + 1
  | .iface _ d => uptoBulk d + 1
  | .map entries => uptoBulkEntries entries + 1
  | .held _ => 1
def uptoBulkAll {H : Type} : List (DataW H) → Nat
  | [] => 0
  | d :: r => uptoBulk d + uptoBulkAll r
def uptoBulkEntries {H : Type} : List (Lit × DataW H) → Nat
  | [] => 0
  | x :: r => uptoBulkEntry x + uptoBulkEntries r
def uptoBulkEntry {H : Type} : Lit × DataW H → Nat
  | (.string bytes, d) => bytes.length + uptoBulk d + 1
  | (_, d) => uptoBulk d + 1
 end
def uptoSmall : (H : Type) → List (DataW H) → Bool := fun _ ds => decide (uptoBulkAll ds ≤ 1048576)
def OpenSpec.upto (s : _root_.Go.ChangeSpec) : _root_.Go.OpenSpec := { _root_.Go.OpenSpec.ofChange s with cond := some uptoSmall }

/-- 'demesnelaw02.FltRanks', WHERE WHAT IT READS IS OF BULK AT MOST 1048576: true; the input reads as it did. -/
def fltRanksUptoRow : OpenClaim := { program := "ytpfmkhnogobioac", sum := "0c9ac3a8bb7548d781565637988b973b7d8af3bc32e0bc29833dcc37efe147ec", func := "demesne/demesnelaw02.FltRanks", spec := "fltRanks", inPlace := ["math.Float64bits", "math.Float64frombits"], apart := false, narrowed := true }
def FltRanksUptoSaid : Prop := fltRanksUptoRow.holds Try.pinned (OpenSpec.upto fltRanksSpec)

/-- 'demesnelaw02.FltOnes', WHERE WHAT IT READS IS OF BULK AT MOST 1048576: true; the input reads as it did. -/
def fltOnesUptoRow : OpenClaim := { program := "ytpfmkhnogobioac", sum := "0c9ac3a8bb7548d781565637988b973b7d8af3bc32e0bc29833dcc37efe147ec", func := "demesne/demesnelaw02.FltOnes", spec := "fltOnes", inPlace := ["math.Float64bits", "math.Float64frombits"], apart := false, narrowed := true }
def FltOnesUptoSaid : Prop := fltOnesUptoRow.holds Try.pinned (OpenSpec.upto fltOnesSpec)

/-- 'demesnelaw02.FltWholes', WHERE WHAT IT READS IS OF BULK AT MOST 1048576: true; the input reads as it did. -/
def fltWholesUptoRow : OpenClaim := { program := "ytpfmkhnogobioac", sum := "0c9ac3a8bb7548d781565637988b973b7d8af3bc32e0bc29833dcc37efe147ec", func := "demesne/demesnelaw02.FltWholes", spec := "fltWholes", inPlace := ["math.Float64frombits", "math.archTrunc", "math.Float64bits"], apart := false, narrowed := true }
def FltWholesUptoSaid : Prop := fltWholesUptoRow.holds Try.pinned (OpenSpec.upto fltWholesSpec)

/-- 'demesnetop.DemesneNumbers', WHERE WHAT IT READS IS OF BULK AT MOST 1048576: true; the input reads as it did. -/
def demesneNumbersUptoRow : OpenClaim := { program := "ytpfmkhnogobioac", sum := "0c9ac3a8bb7548d781565637988b973b7d8af3bc32e0bc29833dcc37efe147ec", func := "demesne/demesnetop.DemesneNumbers", spec := "demesneNumbers", inPlace := ["math.Float64bits", "math.Float64frombits"], apart := false, narrowed := true }
def DemesneNumbersUptoSaid : Prop := demesneNumbersUptoRow.holds Try.pinned (OpenSpec.upto demesneNumbersSpec)

end Rows
end Go.Proofs.Ytpfmkhnogobioac
