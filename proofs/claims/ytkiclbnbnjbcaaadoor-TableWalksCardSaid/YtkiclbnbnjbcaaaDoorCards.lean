/-
  DERIVED. GIVEN WITH THE SEED: THE CARDS: each row of YtkiclbnbnjbcaaaDoorRows.lean that lists a variable, with what it lists TIED to the program's text (the seventh form; the later family's looks); each row that meets fmt, with fmt's text TOLD by the authors' own Lean function (tested against real Go, not proved from fmt's source: count such statements apart). THE CARD IS WHAT COUNTS. Prove the row's statement (the work); the ties are given (YtkiclbnbnjbcaaaDoorTie.lean); close each card by the builder's one call (the guide's Derived/Test/ToyasCard.lean, 'card_holds'). Laid BY PROGRAM, IN A SANDBOX (cutbox-door.mjs). By AI agents, Wed Nov 11 2026. No macro, syntax, notation, axiom, sorry.
-/
import Derived.Test.YtkiclbnbnjbcaaaDoorRows
import GoSem.ClaimSeven
namespace Go.Proofs.YtkiclbnbnjbcaaaDoor
namespace Rows

/-- THE TIED CARD OF 'demesnelaw09.TablePlays'. -/
def tablePlaysCard : Claim7 := { stood := { row := tablePlaysRow, standIns := [], harness := (true, "64c8694732dce4494ae4c7601e39c35f2573908f76922d47bdd02e269d73e0bb"), looks := true }, kinds := [], alts := [], laidByText := true, laidKinds := [.data], laidTests := true, laidLooks := .later }
def TablePlaysCardSaid : Prop := Claim7.holds Tryd.pinned (.plain (OpenSpec.ofChange tablePlaysSpec)) tablePlaysCard

/-- THE TIED CARD OF 'demesnelaw09.TableWalks'. -/
def tableWalksCard : Claim7 := { stood := { row := tableWalksRow, standIns := [], harness := (true, "64c8694732dce4494ae4c7601e39c35f2573908f76922d47bdd02e269d73e0bb"), looks := true }, kinds := [], alts := [], laidByText := true, laidKinds := [.data], laidTests := true, laidLooks := .later }
def TableWalksCardSaid : Prop := Claim7.holds Tryd.pinned (.plain (OpenSpec.ofChange tableWalksSpec)) tableWalksCard

/-- THE TIED CARD OF 'demesnelaw09.TableBack'. -/
def tableBackCard : Claim7 := { stood := { row := tableBackRow, standIns := [], harness := (true, "64c8694732dce4494ae4c7601e39c35f2573908f76922d47bdd02e269d73e0bb"), looks := true }, kinds := [], alts := [], laidByText := true, laidKinds := [.data], laidTests := true, laidLooks := .later }
def TableBackCardSaid : Prop := Claim7.holds Tryd.pinned (.plain (OpenSpec.ofChange tableBackSpec)) tableBackCard

/-- THE TIED CARD OF 'demesnelaw09.TableApart'. -/
def tableApartCard : Claim7 := { stood := { row := tableApartRow, standIns := [], harness := (true, "64c8694732dce4494ae4c7601e39c35f2573908f76922d47bdd02e269d73e0bb"), looks := true }, kinds := [], alts := [], laidByText := true, laidKinds := [.data], laidTests := true, laidLooks := .later }
def TableApartCardSaid : Prop := Claim7.holds Tryd.pinned (.plain (OpenSpec.ofChange tableApartSpec)) tableApartCard

/-- THE TIED CARD OF 'demesnelaw09.TableWhole'. -/
def tableWholeCard : Claim7 := { stood := { row := tableWholeRow, standIns := [], harness := (true, "64c8694732dce4494ae4c7601e39c35f2573908f76922d47bdd02e269d73e0bb"), looks := true }, kinds := [], alts := [], laidByText := true, laidKinds := [.data], laidTests := true, laidLooks := .later }
def TableWholeCardSaid : Prop := Claim7.holds Tryd.pinned (.plain (OpenSpec.ofChange tableWholeSpec)) tableWholeCard

/-- THE TIED CARD OF 'demesnelaw09.TableNear'. -/
def tableNearCard : Claim7 := { stood := { row := tableNearRow, standIns := [], harness := (true, "64c8694732dce4494ae4c7601e39c35f2573908f76922d47bdd02e269d73e0bb"), looks := true }, kinds := [], alts := [], laidByText := true, laidKinds := [.data], laidTests := true, laidLooks := .later }
def TableNearCardSaid : Prop := Claim7.holds Tryd.pinned (.plain (OpenSpec.ofChange tableNearSpec)) tableNearCard

/-- THE SECOND FORM's CARD OF 'demesnelaw09.TablePlays'. -/
def tablePlaysUptoCard : Claim7 := { stood := { row := tablePlaysUptoRow, standIns := [], harness := (true, "64c8694732dce4494ae4c7601e39c35f2573908f76922d47bdd02e269d73e0bb"), looks := true }, kinds := [], alts := [], laidByText := true, laidKinds := [.data], laidTests := true, laidLooks := .later }
def TablePlaysUptoCardSaid : Prop := Claim7.holds Tryd.pinned (.plain (OpenSpec.upto tablePlaysSpec)) tablePlaysUptoCard

/-- THE SECOND FORM's CARD OF 'demesnelaw09.TableWalks'. -/
def tableWalksUptoCard : Claim7 := { stood := { row := tableWalksUptoRow, standIns := [], harness := (true, "64c8694732dce4494ae4c7601e39c35f2573908f76922d47bdd02e269d73e0bb"), looks := true }, kinds := [], alts := [], laidByText := true, laidKinds := [.data], laidTests := true, laidLooks := .later }
def TableWalksUptoCardSaid : Prop := Claim7.holds Tryd.pinned (.plain (OpenSpec.upto tableWalksSpec)) tableWalksUptoCard

/-- THE SECOND FORM's CARD OF 'demesnelaw09.TableBack'. -/
def tableBackUptoCard : Claim7 := { stood := { row := tableBackUptoRow, standIns := [], harness := (true, "64c8694732dce4494ae4c7601e39c35f2573908f76922d47bdd02e269d73e0bb"), looks := true }, kinds := [], alts := [], laidByText := true, laidKinds := [.data], laidTests := true, laidLooks := .later }
def TableBackUptoCardSaid : Prop := Claim7.holds Tryd.pinned (.plain (OpenSpec.upto tableBackSpec)) tableBackUptoCard

/-- THE SECOND FORM's CARD OF 'demesnelaw09.TableApart'. -/
def tableApartUptoCard : Claim7 := { stood := { row := tableApartUptoRow, standIns := [], harness := (true, "64c8694732dce4494ae4c7601e39c35f2573908f76922d47bdd02e269d73e0bb"), looks := true }, kinds := [], alts := [], laidByText := true, laidKinds := [.data], laidTests := true, laidLooks := .later }
def TableApartUptoCardSaid : Prop := Claim7.holds Tryd.pinned (.plain (OpenSpec.upto tableApartSpec)) tableApartUptoCard

/-- THE SECOND FORM's CARD OF 'demesnelaw09.TableWhole'. -/
def tableWholeUptoCard : Claim7 := { stood := { row := tableWholeUptoRow, standIns := [], harness := (true, "64c8694732dce4494ae4c7601e39c35f2573908f76922d47bdd02e269d73e0bb"), looks := true }, kinds := [], alts := [], laidByText := true, laidKinds := [.data], laidTests := true, laidLooks := .later }
def TableWholeUptoCardSaid : Prop := Claim7.holds Tryd.pinned (.plain (OpenSpec.upto tableWholeSpec)) tableWholeUptoCard

/-- THE SECOND FORM's CARD OF 'demesnelaw09.TableNear'. -/
def tableNearUptoCard : Claim7 := { stood := { row := tableNearUptoRow, standIns := [], harness := (true, "64c8694732dce4494ae4c7601e39c35f2573908f76922d47bdd02e269d73e0bb"), looks := true }, kinds := [], alts := [], laidByText := true, laidKinds := [.data], laidTests := true, laidLooks := .later }
def TableNearUptoCardSaid : Prop := Claim7.holds Tryd.pinned (.plain (OpenSpec.upto tableNearSpec)) tableNearUptoCard
end Rows
end Go.Proofs.YtkiclbnbnjbcaaaDoor
