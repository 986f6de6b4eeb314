/-
  No cell of these rows narrows 'for every input' (looked for: loops, veiled, ifaces, maps, wideKeys, modest, calm, conditions, laid).
  DERIVED. THE GIVEN ROWS OF THIS SEAT. 6 by the template 'for every input the law returns true; each argument reads behind the call as it read before'; 0 by the template 'total and deterministic' (their statements: YtbknofopjkdbnaaTotals.lean).
  GIVEN WITH THE SEED: the statements are not yours to turn. If you find one false, say at which input.
  Laid BY PROGRAM, IN A SANDBOX (cutbox-rows.mjs): the forced cells as the released guide's own fill.sh prints them over the translation fec9be6152fdf71b… (all of the seat's roots in one cut). By AI agents, Wed Nov 11 2026. No macro, syntax, notation, axiom, sorry.
-/
import Derived.Test.YtbknofopjkdbnaaChecked
import GoSem.Claim
import GoSem.ClaimJoined
import GoSem.ClaimMapViews
import Derived.JoinedTies
import Derived.KernelRfl
namespace Go.Proofs.Ytbknofopjkdbnaa
/- THE CELL 'sum', in the pinned program and in every row, IS THE sha256 OF THE DUMP (.gsa) THAT YtbknofopjkdbnaaProg.lean LOADS. Nothing in Lean hashes anything: it is a label: what it is worth is what the hold of that sum in a sandbox is worth. -/
noncomputable def Try.pinned : Pinned := { name := "ytbknofopjkdbnaa", sum := "fec9be6152fdf71bcac7f0c691f0ce4b6c6e5e9d2595371e5ccad483e805d80e", checked := Try.checked }
namespace Rows
def none {H : Type} : Left H := { results := [], args := [] }

/-- 'demesnelaw05.TlbPlays': WHATEVER THE INPUT: true; the input reads as it did. -/
def tlbPlaysSpec : ChangeSpec := { name := "tlbPlays", fn := fun _ => fun
  | [d1, d2, d3] => { results := [.lit (.bool true)], args := [d1, d2, d3] }
  | _ => none }
def tlbPlaysRow : OpenClaim := { program := "ytbknofopjkdbnaa", sum := "fec9be6152fdf71bcac7f0c691f0ce4b6c6e5e9d2595371e5ccad483e805d80e", func := "demesne/demesnelaw05.TlbPlays", spec := "tlbPlays", unfollowed := true, recurses := true, apart := false }
def TlbPlaysSaid : Prop := tlbPlaysRow.holds Try.pinned (OpenSpec.ofChange tlbPlaysSpec)

/-- ITS FALSE NEIGHBOUR: 'it returns false'. Refute it at one input. -/
def tlbPlaysWrong : ChangeSpec := { name := "tlbPlays", fn := fun _ => fun
  | [d1, d2, d3] => { results := [.lit (.bool false)], args := [d1, d2, d3] }
  | _ => none }
def TlbPlaysWrongFalsely : Prop := tlbPlaysRow.holds Try.pinned (OpenSpec.ofChange tlbPlaysWrong)

/-- 'demesnelaw05.TlbOne': WHATEVER THE INPUT: true; the input reads as it did. -/
def tlbOneSpec : ChangeSpec := { name := "tlbOne", fn := fun _ => fun
  | [d1, d2, d3] => { results := [.lit (.bool true)], args := [d1, d2, d3] }
  | _ => none }
def tlbOneRow : OpenClaim := { program := "ytbknofopjkdbnaa", sum := "fec9be6152fdf71bcac7f0c691f0ce4b6c6e5e9d2595371e5ccad483e805d80e", func := "demesne/demesnelaw05.TlbOne", spec := "tlbOne", unfollowed := true, recurses := true, apart := false }
def TlbOneSaid : Prop := tlbOneRow.holds Try.pinned (OpenSpec.ofChange tlbOneSpec)

/-- ITS FALSE NEIGHBOUR: 'it returns false'. Refute it at one input. -/
def tlbOneWrong : ChangeSpec := { name := "tlbOne", fn := fun _ => fun
  | [d1, d2, d3] => { results := [.lit (.bool false)], args := [d1, d2, d3] }
  | _ => none }
def TlbOneWrongFalsely : Prop := tlbOneRow.holds Try.pinned (OpenSpec.ofChange tlbOneWrong)

/-- 'demesnelaw05.TlbGone': WHATEVER THE INPUT: true; the input reads as it did. -/
def tlbGoneSpec : ChangeSpec := { name := "tlbGone", fn := fun _ => fun
  | [d1, d2, d3, d4] => { results := [.lit (.bool true)], args := [d1, d2, d3, d4] }
  | _ => none }
def tlbGoneRow : OpenClaim := { program := "ytbknofopjkdbnaa", sum := "fec9be6152fdf71bcac7f0c691f0ce4b6c6e5e9d2595371e5ccad483e805d80e", func := "demesne/demesnelaw05.TlbGone", spec := "tlbGone", unfollowed := true, recurses := true, apart := false }
def TlbGoneSaid : Prop := tlbGoneRow.holds Try.pinned (OpenSpec.ofChange tlbGoneSpec)

/-- ITS FALSE NEIGHBOUR: 'it returns false'. Refute it at one input. -/
def tlbGoneWrong : ChangeSpec := { name := "tlbGone", fn := fun _ => fun
  | [d1, d2, d3, d4] => { results := [.lit (.bool false)], args := [d1, d2, d3, d4] }
  | _ => none }
def TlbGoneWrongFalsely : Prop := tlbGoneRow.holds Try.pinned (OpenSpec.ofChange tlbGoneWrong)

/-- 'demesnelaw06.BootmapParses': WHATEVER THE INPUT: true; the input reads as it did. -/
def bootmapParsesSpec : ChangeSpec := { name := "bootmapParses", fn := fun _ => fun
  | [d] => { results := [.lit (.bool true)], args := [d] }
  | _ => none }
def bootmapParsesRow : OpenClaim := { program := "ytbknofopjkdbnaa", sum := "fec9be6152fdf71bcac7f0c691f0ce4b6c6e5e9d2595371e5ccad483e805d80e", func := "demesne/demesnelaw06.BootmapParses", spec := "bootmapParses", unfollowed := true, recurses := true, apart := false }
def BootmapParsesSaid : Prop := bootmapParsesRow.holds Try.pinned (OpenSpec.ofChange bootmapParsesSpec)

/-- ITS FALSE NEIGHBOUR: 'it returns false'. Refute it at one input. -/
def bootmapParsesWrong : ChangeSpec := { name := "bootmapParses", fn := fun _ => fun
  | [d] => { results := [.lit (.bool false)], args := [d] }
  | _ => none }
def BootmapParsesWrongFalsely : Prop := bootmapParsesRow.holds Try.pinned (OpenSpec.ofChange bootmapParsesWrong)

/-- 'demesnelaw06.BootmapRanges': WHATEVER THE INPUT: true; the input reads as it did. -/
def bootmapRangesSpec : ChangeSpec := { name := "bootmapRanges", fn := fun _ => fun
  | [d1, d2] => { results := [.lit (.bool true)], args := [d1, d2] }
  | _ => none }
def bootmapRangesRow : OpenClaim := { program := "ytbknofopjkdbnaa", sum := "fec9be6152fdf71bcac7f0c691f0ce4b6c6e5e9d2595371e5ccad483e805d80e", func := "demesne/demesnelaw06.BootmapRanges", spec := "bootmapRanges", unfollowed := true, recurses := true, apart := false }
def BootmapRangesSaid : Prop := bootmapRangesRow.holds Try.pinned (OpenSpec.ofChange bootmapRangesSpec)

/-- ITS FALSE NEIGHBOUR: 'it returns false'. Refute it at one input. -/
def bootmapRangesWrong : ChangeSpec := { name := "bootmapRanges", fn := fun _ => fun
  | [d1, d2] => { results := [.lit (.bool false)], args := [d1, d2] }
  | _ => none }
def BootmapRangesWrongFalsely : Prop := bootmapRangesRow.holds Try.pinned (OpenSpec.ofChange bootmapRangesWrong)

/-- 'demesnelaw06.BootmapFrames': WHATEVER THE INPUT: true; the input reads as it did. -/
def bootmapFramesSpec : ChangeSpec := { name := "bootmapFrames", fn := fun _ => fun
  | [d1, d2, d3] => { results := [.lit (.bool true)], args := [d1, d2, d3] }
  | _ => none }
def bootmapFramesRow : OpenClaim := { program := "ytbknofopjkdbnaa", sum := "fec9be6152fdf71bcac7f0c691f0ce4b6c6e5e9d2595371e5ccad483e805d80e", func := "demesne/demesnelaw06.BootmapFrames", spec := "bootmapFrames", unfollowed := true, recurses := true, apart := false }
def BootmapFramesSaid : Prop := bootmapFramesRow.holds Try.pinned (OpenSpec.ofChange bootmapFramesSpec)

/-- ITS FALSE NEIGHBOUR: 'it returns false'. Refute it at one input. -/
def bootmapFramesWrong : ChangeSpec := { name := "bootmapFrames", fn := fun _ => fun
  | [d1, d2, d3] => { results := [.lit (.bool false)], args := [d1, d2, d3] }
  | _ => none }
def BootmapFramesWrongFalsely : Prop := bootmapFramesRow.holds Try.pinned (OpenSpec.ofChange bootmapFramesWrong)

/- THE SECOND FORM. 'bulk': how many values and letters a reading holds, each counted each time it is reached (what is shared counts as often as it is met; a slice's spare places count too). A statement '..UptoSaid' is the law's where the arguments, and the package variables that the reading takes, are together of bulk at most 1048576: NARROWER than '..Said'. Prove '..Said' where nothing that the law and all that it calls make is longer than what came in: it says more and counts as full. Else prove '..UptoSaid'. A law counts once. -/
mutual
def uptoBulk {H : Type} : DataW H → Nat
  | .lit (.string bytes) => bytes.length + 1
  | .lit _ => 1
  | .nil => 1
  | .ptr d => uptoBulk d + 1
  | .slice elems spare => uptoBulkAll elems + uptoBulkAll spare + 1
  | .agg parts => uptoBulkAll parts + 1
  | .iface _ d => uptoBulk d + 1
  | .map entries => uptoBulkEntries entries + 1
  | .held _ => 1
def uptoBulkAll {H : Type} : List (DataW H) → Nat
  | [] => 0
  | d :: r => uptoBulk d + uptoBulkAll r
def uptoBulkEntries {H : Type} : List (Lit × DataW H) → Nat
  | [] => 0
  | x :: r => uptoBulkEntry x + uptoBulkEntries r
def uptoBulkEntry {H : Type} : Lit × DataW H → Nat
  | (.string bytes, d) => bytes.length + uptoBulk d + 1
  | (_, d) => uptoBulk d + 1
 end
def uptoSmall : (H : Type) → List (DataW H) → Bool := fun _ ds => decide (uptoBulkAll ds ≤ 1048576)
def OpenSpec.upto (s : _root_.Go.ChangeSpec) : _root_.Go.OpenSpec := { _root_.Go.OpenSpec.ofChange s with cond := some uptoSmall }

/-- 'demesnelaw05.TlbPlays', WHERE WHAT IT READS IS OF BULK AT MOST 1048576: true; the input reads as it did. -/
def tlbPlaysUptoRow : OpenClaim := { program := "ytbknofopjkdbnaa", sum := "fec9be6152fdf71bcac7f0c691f0ce4b6c6e5e9d2595371e5ccad483e805d80e", func := "demesne/demesnelaw05.TlbPlays", spec := "tlbPlays", unfollowed := true, recurses := true, apart := false, narrowed := true }
def TlbPlaysUptoSaid : Prop := tlbPlaysUptoRow.holds Try.pinned (OpenSpec.upto tlbPlaysSpec)

/-- 'demesnelaw05.TlbOne', WHERE WHAT IT READS IS OF BULK AT MOST 1048576: true; the input reads as it did. -/
def tlbOneUptoRow : OpenClaim := { program := "ytbknofopjkdbnaa", sum := "fec9be6152fdf71bcac7f0c691f0ce4b6c6e5e9d2595371e5ccad483e805d80e", func := "demesne/demesnelaw05.TlbOne", spec := "tlbOne", unfollowed := true, recurses := true, apart := false, narrowed := true }
def TlbOneUptoSaid : Prop := tlbOneUptoRow.holds Try.pinned (OpenSpec.upto tlbOneSpec)

/-- 'demesnelaw05.TlbGone', WHERE WHAT IT READS IS OF BULK AT MOST 1048576: true; the input reads as it did. -/
def tlbGoneUptoRow : OpenClaim := { program := "ytbknofopjkdbnaa", sum := "fec9be6152fdf71bcac7f0c691f0ce4b6c6e5e9d2595371e5ccad483e805d80e", func := "demesne/demesnelaw05.TlbGone", spec := "tlbGone", unfollowed := true, recurses := true, apart := false, narrowed := true }
def TlbGoneUptoSaid : Prop := tlbGoneUptoRow.holds Try.pinned (OpenSpec.upto tlbGoneSpec)

/-- 'demesnelaw06.BootmapParses', WHERE WHAT IT READS IS OF BULK AT MOST 1048576: true; the input reads as it did. -/
def bootmapParsesUptoRow : OpenClaim := { program := "ytbknofopjkdbnaa", sum := "fec9be6152fdf71bcac7f0c691f0ce4b6c6e5e9d2595371e5ccad483e805d80e", func := "demesne/demesnelaw06.BootmapParses", spec := "bootmapParses", unfollowed := true, recurses := true, apart := false, narrowed := true }
def BootmapParsesUptoSaid : Prop := bootmapParsesUptoRow.holds Try.pinned (OpenSpec.upto bootmapParsesSpec)

/-- 'demesnelaw06.BootmapRanges', WHERE WHAT IT READS IS OF BULK AT MOST 1048576: true; the input reads as it did. -/
def bootmapRangesUptoRow : OpenClaim := { program := "ytbknofopjkdbnaa", sum := "fec9be6152fdf71bcac7f0c691f0ce4b6c6e5e9d2595371e5ccad483e805d80e", func := "demesne/demesnelaw06.BootmapRanges", spec := "bootmapRanges", unfollowed := true, recurses := true, apart := false, narrowed := true }
def BootmapRangesUptoSaid : Prop := bootmapRangesUptoRow.holds Try.pinned (OpenSpec.upto bootmapRangesSpec)

/-- 'demesnelaw06.BootmapFrames', WHERE WHAT IT READS IS OF BULK AT MOST 1048576: true; the input reads as it did. -/
def bootmapFramesUptoRow : OpenClaim := { program := "ytbknofopjkdbnaa", sum := "fec9be6152fdf71bcac7f0c691f0ce4b6c6e5e9d2595371e5ccad483e805d80e", func := "demesne/demesnelaw06.BootmapFrames", spec := "bootmapFrames", unfollowed := true, recurses := true, apart := false, narrowed := true }
def BootmapFramesUptoSaid : Prop := bootmapFramesUptoRow.holds Try.pinned (OpenSpec.upto bootmapFramesSpec)

end Rows
end Go.Proofs.Ytbknofopjkdbnaa
