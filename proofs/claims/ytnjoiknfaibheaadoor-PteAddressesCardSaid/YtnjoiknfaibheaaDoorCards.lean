/-
  DERIVED. GIVEN WITH THE SEED: THE CARDS: each row of YtnjoiknfaibheaaDoorRows.lean that lists a variable, with what it lists TIED to the program's text (the seventh form; the later family's looks); each row that meets fmt, with fmt's text TOLD by the authors' own Lean function (tested against real Go, not proved from fmt's source: count such statements apart). THE CARD IS WHAT COUNTS. Prove the row's statement (the work); the ties are given (YtnjoiknfaibheaaDoorTie.lean); close each card by the builder's one call (the guide's Derived/Test/ToyasCard.lean, 'card_holds'). Laid BY PROGRAM, IN A SANDBOX (cutbox-door.mjs). By AI agents, Wed Nov 11 2026. No macro, syntax, notation, axiom, sorry.
-/
import Derived.Test.YtnjoiknfaibheaaDoorRows
import GoSem.ClaimSeven
namespace Go.Proofs.YtnjoiknfaibheaaDoor
namespace Rows

/-- THE TIED CARD OF 'demesnelaw03.PtePacks'. -/
def ptePacksCard : Claim7 := { stood := { row := ptePacksRow, standIns := [], harness := (true, "5129a5eca379c96864e158ea4b1044541d75a34f8fa9236a7f9e539890485962"), looks := false }, kinds := [], alts := [], laidByText := true, laidKinds := [.data], laidTests := true, laidLooks := .later }
def PtePacksCardSaid : Prop := Claim7.holds Tryd.pinned (.plain (OpenSpec.ofChange ptePacksSpec)) ptePacksCard

/-- THE TIED CARD OF 'demesnelaw03.PteReserved'. -/
def pteReservedCard : Claim7 := { stood := { row := pteReservedRow, standIns := [], harness := (true, "5129a5eca379c96864e158ea4b1044541d75a34f8fa9236a7f9e539890485962"), looks := false }, kinds := [], alts := [], laidByText := true, laidKinds := [.data], laidTests := true, laidLooks := .later }
def PteReservedCardSaid : Prop := Claim7.holds Tryd.pinned (.plain (OpenSpec.ofChange pteReservedSpec)) pteReservedCard

/-- THE TIED CARD OF 'demesnelaw03.PteAddresses'. -/
def pteAddressesCard : Claim7 := { stood := { row := pteAddressesRow, standIns := [], harness := (true, "5129a5eca379c96864e158ea4b1044541d75a34f8fa9236a7f9e539890485962"), looks := false }, kinds := [], alts := [], laidByText := true, laidKinds := [.data], laidTests := true, laidLooks := .later }
def PteAddressesCardSaid : Prop := Claim7.holds Tryd.pinned (.plain (OpenSpec.ofChange pteAddressesSpec)) pteAddressesCard

/-- THE TIED CARD OF 'demesnelaw03.PteBack'. -/
def pteBackCard : Claim7 := { stood := { row := pteBackRow, standIns := [], harness := (true, "5129a5eca379c96864e158ea4b1044541d75a34f8fa9236a7f9e539890485962"), looks := false }, kinds := [], alts := [], laidByText := true, laidKinds := [.data], laidTests := true, laidLooks := .later }
def PteBackCardSaid : Prop := Claim7.holds Tryd.pinned (.plain (OpenSpec.ofChange pteBackSpec)) pteBackCard

/-- THE TIED CARD OF 'demesnelaw03.PteThere'. -/
def pteThereCard : Claim7 := { stood := { row := pteThereRow, standIns := [], harness := (true, "5129a5eca379c96864e158ea4b1044541d75a34f8fa9236a7f9e539890485962"), looks := false }, kinds := [], alts := [], laidByText := true, laidKinds := [.data], laidTests := true, laidLooks := .later }
def PteThereCardSaid : Prop := Claim7.holds Tryd.pinned (.plain (OpenSpec.ofChange pteThereSpec)) pteThereCard

/-- THE TIED CARD OF 'demesnelaw03.PteFree'. -/
def pteFreeCard : Claim7 := { stood := { row := pteFreeRow, standIns := [], harness := (true, "5129a5eca379c96864e158ea4b1044541d75a34f8fa9236a7f9e539890485962"), looks := false }, kinds := [], alts := [], laidByText := true, laidKinds := [.data], laidTests := true, laidLooks := .later }
def PteFreeCardSaid : Prop := Claim7.holds Tryd.pinned (.plain (OpenSpec.ofChange pteFreeSpec)) pteFreeCard

/-- THE SECOND FORM's CARD OF 'demesnelaw03.PtePacks'. -/
def ptePacksUptoCard : Claim7 := { stood := { row := ptePacksUptoRow, standIns := [], harness := (true, "5129a5eca379c96864e158ea4b1044541d75a34f8fa9236a7f9e539890485962"), looks := false }, kinds := [], alts := [], laidByText := true, laidKinds := [.data], laidTests := true, laidLooks := .later }
def PtePacksUptoCardSaid : Prop := Claim7.holds Tryd.pinned (.plain (OpenSpec.upto ptePacksSpec)) ptePacksUptoCard

/-- THE SECOND FORM's CARD OF 'demesnelaw03.PteReserved'. -/
def pteReservedUptoCard : Claim7 := { stood := { row := pteReservedUptoRow, standIns := [], harness := (true, "5129a5eca379c96864e158ea4b1044541d75a34f8fa9236a7f9e539890485962"), looks := false }, kinds := [], alts := [], laidByText := true, laidKinds := [.data], laidTests := true, laidLooks := .later }
def PteReservedUptoCardSaid : Prop := Claim7.holds Tryd.pinned (.plain (OpenSpec.upto pteReservedSpec)) pteReservedUptoCard

/-- THE SECOND FORM's CARD OF 'demesnelaw03.PteAddresses'. -/
def pteAddressesUptoCard : Claim7 := { stood := { row := pteAddressesUptoRow, standIns := [], harness := (true, "5129a5eca379c96864e158ea4b1044541d75a34f8fa9236a7f9e539890485962"), looks := false }, kinds := [], alts := [], laidByText := true, laidKinds := [.data], laidTests := true, laidLooks := .later }
def PteAddressesUptoCardSaid : Prop := Claim7.holds Tryd.pinned (.plain (OpenSpec.upto pteAddressesSpec)) pteAddressesUptoCard

/-- THE SECOND FORM's CARD OF 'demesnelaw03.PteBack'. -/
def pteBackUptoCard : Claim7 := { stood := { row := pteBackUptoRow, standIns := [], harness := (true, "5129a5eca379c96864e158ea4b1044541d75a34f8fa9236a7f9e539890485962"), looks := false }, kinds := [], alts := [], laidByText := true, laidKinds := [.data], laidTests := true, laidLooks := .later }
def PteBackUptoCardSaid : Prop := Claim7.holds Tryd.pinned (.plain (OpenSpec.upto pteBackSpec)) pteBackUptoCard

/-- THE SECOND FORM's CARD OF 'demesnelaw03.PteThere'. -/
def pteThereUptoCard : Claim7 := { stood := { row := pteThereUptoRow, standIns := [], harness := (true, "5129a5eca379c96864e158ea4b1044541d75a34f8fa9236a7f9e539890485962"), looks := false }, kinds := [], alts := [], laidByText := true, laidKinds := [.data], laidTests := true, laidLooks := .later }
def PteThereUptoCardSaid : Prop := Claim7.holds Tryd.pinned (.plain (OpenSpec.upto pteThereSpec)) pteThereUptoCard

/-- THE SECOND FORM's CARD OF 'demesnelaw03.PteFree'. -/
def pteFreeUptoCard : Claim7 := { stood := { row := pteFreeUptoRow, standIns := [], harness := (true, "5129a5eca379c96864e158ea4b1044541d75a34f8fa9236a7f9e539890485962"), looks := false }, kinds := [], alts := [], laidByText := true, laidKinds := [.data], laidTests := true, laidLooks := .later }
def PteFreeUptoCardSaid : Prop := Claim7.holds Tryd.pinned (.plain (OpenSpec.upto pteFreeSpec)) pteFreeUptoCard
end Rows
end Go.Proofs.YtnjoiknfaibheaaDoor
