/-
  No cell of these rows narrows 'for every input' (looked for: loops, veiled, ifaces, maps, wideKeys, modest, calm, conditions, laid).
  DERIVED. THE GIVEN ROWS OF THIS SEAT. 5 by the template 'for every input the law returns true; each argument reads behind the call as it read before'; 0 by the template 'total and deterministic' (their statements: YtenfdcjnfgjilaaTotals.lean).
  GIVEN WITH THE SEED: the statements are not yours to turn. If you find one false, say at which input.
  Laid BY PROGRAM, IN A SANDBOX (cutbox-rows.mjs): the forced cells as the released guide's own fill.sh prints them over the translation 904b0a4fbfd577b8… (all of the seat's roots in one cut). By AI agents, Wed Nov 11 2026. No macro, syntax, notation, axiom, sorry.
-/
import Derived.Test.YtenfdcjnfgjilaaChecked
import GoSem.Claim
import GoSem.ClaimJoined
import GoSem.ClaimMapViews
import Derived.JoinedTies
import Derived.KernelRfl
namespace Go.Proofs.Ytenfdcjnfgjilaa
/- THE CELL 'sum', in the pinned program and in every row, IS THE sha256 OF THE DUMP (.gsa) THAT YtenfdcjnfgjilaaProg.lean LOADS. Nothing in Lean hashes anything: it is a label: what it is worth is what the hold of that sum in a sandbox is worth. -/
noncomputable def Try.pinned : Pinned := { name := "ytenfdcjnfgjilaa", sum := "904b0a4fbfd577b881f32156cba75b52b6791cb83847716ee201c88ce4eaeb55", checked := Try.checked }
namespace Rows
def none {H : Type} : Left H := { results := [], args := [] }

/-- 'demesnelaw14.SharePlays': WHATEVER THE INPUT: true; the input reads as it did. -/
def sharePlaysSpec : ChangeSpec := { name := "sharePlays", fn := fun _ => fun
  | [d1, d2] => { results := [.lit (.bool true)], args := [d1, d2] }
  | _ => none }
def sharePlaysRow : OpenClaim := { program := "ytenfdcjnfgjilaa", sum := "904b0a4fbfd577b881f32156cba75b52b6791cb83847716ee201c88ce4eaeb55", func := "demesne/demesnelaw14.SharePlays", spec := "sharePlays", apart := false }
def SharePlaysSaid : Prop := sharePlaysRow.holds Try.pinned (OpenSpec.ofChange sharePlaysSpec)

/-- ITS FALSE NEIGHBOUR: 'it returns false'. Refute it at one input. -/
def sharePlaysWrong : ChangeSpec := { name := "sharePlays", fn := fun _ => fun
  | [d1, d2] => { results := [.lit (.bool false)], args := [d1, d2] }
  | _ => none }
def SharePlaysWrongFalsely : Prop := sharePlaysRow.holds Try.pinned (OpenSpec.ofChange sharePlaysWrong)

/-- 'demesnelaw14.ShareApart': WHATEVER THE INPUT: true; the input reads as it did. -/
def shareApartSpec : ChangeSpec := { name := "shareApart", fn := fun _ => fun
  | [d1, d2, d3, d4] => { results := [.lit (.bool true)], args := [d1, d2, d3, d4] }
  | _ => none }
def shareApartRow : OpenClaim := { program := "ytenfdcjnfgjilaa", sum := "904b0a4fbfd577b881f32156cba75b52b6791cb83847716ee201c88ce4eaeb55", func := "demesne/demesnelaw14.ShareApart", spec := "shareApart", apart := false }
def ShareApartSaid : Prop := shareApartRow.holds Try.pinned (OpenSpec.ofChange shareApartSpec)

/-- ITS FALSE NEIGHBOUR: 'it returns false'. Refute it at one input. -/
def shareApartWrong : ChangeSpec := { name := "shareApart", fn := fun _ => fun
  | [d1, d2, d3, d4] => { results := [.lit (.bool false)], args := [d1, d2, d3, d4] }
  | _ => none }
def ShareApartWrongFalsely : Prop := shareApartRow.holds Try.pinned (OpenSpec.ofChange shareApartWrong)

/-- 'demesnelaw14.ShareMany': WHATEVER THE INPUT: true; the input reads as it did. -/
def shareManySpec : ChangeSpec := { name := "shareMany", fn := fun _ => fun
  | [d1, d2, d3] => { results := [.lit (.bool true)], args := [d1, d2, d3] }
  | _ => none }
def shareManyRow : OpenClaim := { program := "ytenfdcjnfgjilaa", sum := "904b0a4fbfd577b881f32156cba75b52b6791cb83847716ee201c88ce4eaeb55", func := "demesne/demesnelaw14.ShareMany", spec := "shareMany", apart := false }
def ShareManySaid : Prop := shareManyRow.holds Try.pinned (OpenSpec.ofChange shareManySpec)

/-- ITS FALSE NEIGHBOUR: 'it returns false'. Refute it at one input. -/
def shareManyWrong : ChangeSpec := { name := "shareMany", fn := fun _ => fun
  | [d1, d2, d3] => { results := [.lit (.bool false)], args := [d1, d2, d3] }
  | _ => none }
def ShareManyWrongFalsely : Prop := shareManyRow.holds Try.pinned (OpenSpec.ofChange shareManyWrong)

/-- 'demesnelaw14.ShareRound': WHATEVER THE INPUT: true; the input reads as it did. -/
def shareRoundSpec : ChangeSpec := { name := "shareRound", fn := fun _ => fun
  | [d1, d2, d3, d4, d5] => { results := [.lit (.bool true)], args := [d1, d2, d3, d4, d5] }
  | _ => none }
def shareRoundRow : OpenClaim := { program := "ytenfdcjnfgjilaa", sum := "904b0a4fbfd577b881f32156cba75b52b6791cb83847716ee201c88ce4eaeb55", func := "demesne/demesnelaw14.ShareRound", spec := "shareRound", apart := false }
def ShareRoundSaid : Prop := shareRoundRow.holds Try.pinned (OpenSpec.ofChange shareRoundSpec)

/-- ITS FALSE NEIGHBOUR: 'it returns false'. Refute it at one input. -/
def shareRoundWrong : ChangeSpec := { name := "shareRound", fn := fun _ => fun
  | [d1, d2, d3, d4, d5] => { results := [.lit (.bool false)], args := [d1, d2, d3, d4, d5] }
  | _ => none }
def ShareRoundWrongFalsely : Prop := shareRoundRow.holds Try.pinned (OpenSpec.ofChange shareRoundWrong)

/-- 'demesnelaw14.ShareOwners': WHATEVER THE INPUT: true; the input reads as it did. -/
def shareOwnersSpec : ChangeSpec := { name := "shareOwners", fn := fun _ => fun
  | [d1, d2, d3, d4] => { results := [.lit (.bool true)], args := [d1, d2, d3, d4] }
  | _ => none }
def shareOwnersRow : OpenClaim := { program := "ytenfdcjnfgjilaa", sum := "904b0a4fbfd577b881f32156cba75b52b6791cb83847716ee201c88ce4eaeb55", func := "demesne/demesnelaw14.ShareOwners", spec := "shareOwners", apart := false }
def ShareOwnersSaid : Prop := shareOwnersRow.holds Try.pinned (OpenSpec.ofChange shareOwnersSpec)

/-- ITS FALSE NEIGHBOUR: 'it returns false'. Refute it at one input. -/
def shareOwnersWrong : ChangeSpec := { name := "shareOwners", fn := fun _ => fun
  | [d1, d2, d3, d4] => { results := [.lit (.bool false)], args := [d1, d2, d3, d4] }
  | _ => none }
def ShareOwnersWrongFalsely : Prop := shareOwnersRow.holds Try.pinned (OpenSpec.ofChange shareOwnersWrong)

/- THE SECOND FORM. 'bulk': how many values and letters a reading holds, each counted each time it is reached (what is shared counts as often as it is met; a slice's spare places count too). A statement '..UptoSaid' is the law's where the arguments, and the package variables that the reading takes, are together of bulk at most 1048576: NARROWER than '..Said'. Prove '..Said' where nothing that the law and all that it calls make is longer than what came in: it says more and counts as full. Else prove '..UptoSaid'. A law counts once. -/
mutual
def uptoBulk {H : Type} : DataW H → Nat
  | .lit (.string bytes) => bytes.length + 1
  | .lit _ => 1
  | .nil => 1
  | .ptr d => uptoBulk d + 1
  | .slice elems spare => uptoBulkAll elems + uptoBulkAll spare + 1
  | .agg parts => uptoBulkAll parts + 1
  | .iface _ d => uptoBulk d + 1
  | .map entries => uptoBulkEntries entries + 1
  | .held _ => 1
def uptoBulkAll {H : Type} : List (DataW H) → Nat
  | [] => 0
  | d :: r => uptoBulk d + uptoBulkAll r
def uptoBulkEntries {H : Type} : List (Lit × DataW H) → Nat
  | [] => 0
  | x :: r => uptoBulkEntry x + uptoBulkEntries r
def uptoBulkEntry {H : Type} : Lit × DataW H → Nat
  | (.string bytes, d) => bytes.length + uptoBulk d + 1
  | (_, d) => uptoBulk d + 1
 end
def uptoSmall : (H : Type) → List (DataW H) → Bool := fun _ ds => decide (uptoBulkAll ds ≤ 1048576)
def OpenSpec.upto (s : _root_.Go.ChangeSpec) : _root_.Go.OpenSpec := { _root_.Go.OpenSpec.ofChange s with cond := some uptoSmall }

/-- 'demesnelaw14.SharePlays', WHERE WHAT IT READS IS OF BULK AT MOST 1048576: true; the input reads as it did. -/
def sharePlaysUptoRow : OpenClaim := { program := "ytenfdcjnfgjilaa", sum := "904b0a4fbfd577b881f32156cba75b52b6791cb83847716ee201c88ce4eaeb55", func := "demesne/demesnelaw14.SharePlays", spec := "sharePlays", apart := false, narrowed := true }
def SharePlaysUptoSaid : Prop := sharePlaysUptoRow.holds Try.pinned (OpenSpec.upto sharePlaysSpec)

/-- 'demesnelaw14.ShareApart', WHERE WHAT IT READS IS OF BULK AT MOST 1048576: true; the input reads as it did. -/
def shareApartUptoRow : OpenClaim := { program := "ytenfdcjnfgjilaa", sum := "904b0a4fbfd577b881f32156cba75b52b6791cb83847716ee201c88ce4eaeb55", func := "demesne/demesnelaw14.ShareApart", spec := "shareApart", apart := false, narrowed := true }
def ShareApartUptoSaid : Prop := shareApartUptoRow.holds Try.pinned (OpenSpec.upto shareApartSpec)

/-- 'demesnelaw14.ShareMany', WHERE WHAT IT READS IS OF BULK AT MOST 1048576: true; the input reads as it did. -/
def shareManyUptoRow : OpenClaim := { program := "ytenfdcjnfgjilaa", sum := "904b0a4fbfd577b881f32156cba75b52b6791cb83847716ee201c88ce4eaeb55", func := "demesne/demesnelaw14.ShareMany", spec := "shareMany", apart := false, narrowed := true }
def ShareManyUptoSaid : Prop := shareManyUptoRow.holds Try.pinned (OpenSpec.upto shareManySpec)

/-- 'demesnelaw14.ShareRound', WHERE WHAT IT READS IS OF BULK AT MOST 1048576: true; the input reads as it did. -/
def shareRoundUptoRow : OpenClaim := { program := "ytenfdcjnfgjilaa", sum := "904b0a4fbfd577b881f32156cba75b52b6791cb83847716ee201c88ce4eaeb55", func := "demesne/demesnelaw14.ShareRound", spec := "shareRound", apart := false, narrowed := true }
def ShareRoundUptoSaid : Prop := shareRoundUptoRow.holds Try.pinned (OpenSpec.upto shareRoundSpec)

/-- 'demesnelaw14.ShareOwners', WHERE WHAT IT READS IS OF BULK AT MOST 1048576: true; the input reads as it did. -/
def shareOwnersUptoRow : OpenClaim := { program := "ytenfdcjnfgjilaa", sum := "904b0a4fbfd577b881f32156cba75b52b6791cb83847716ee201c88ce4eaeb55", func := "demesne/demesnelaw14.ShareOwners", spec := "shareOwners", apart := false, narrowed := true }
def ShareOwnersUptoSaid : Prop := shareOwnersUptoRow.holds Try.pinned (OpenSpec.upto shareOwnersSpec)

end Rows
end Go.Proofs.Ytenfdcjnfgjilaa
