/-
  DERIVED. GIVEN WITH THE SEED: THE CARDS: each row of YtimkgaokcldgkaaGreatDoorRows.lean that lists a variable, with what it lists TIED to the program's text (the seventh form; the later family's looks); each row that meets fmt, with fmt's text TOLD by the authors' own Lean function (tested against real Go, not proved from fmt's source: count such statements apart). THE CARD IS WHAT COUNTS. Prove the row's statement (the work); the ties are given (YtimkgaokcldgkaaGreatDoorTie.lean); close each card by the builder's one call (the guide's Derived/Test/ToyasCard.lean, 'card_holds'). Laid BY PROGRAM, IN A SANDBOX (cutbox-door.mjs). By AI agents, Wed Nov 11 2026. No macro, syntax, notation, axiom, sorry.
-/
import Derived.Test.YtimkgaokcldgkaaGreatDoorRows
import GoSem.ClaimSeven
namespace Go.Proofs.YtimkgaokcldgkaaGreatDoor
namespace Rows

/-- THE TIED CARD OF 'decorumlaw17.FrontPlays'. -/
def frontPlaysCard : Claim7 := { stood := { row := frontPlaysRow, standIns := [], harness := (true, "6d72f6e4f2582fb4c47461f6941d39b90b9ed1dec9384817eebc65386d6cb281"), looks := false }, kinds := [], alts := [], laidByText := true, laidKinds := [.data], laidTests := true, laidLooks := .later }
def FrontPlaysCardSaid : Prop := Claim7.holds Tryz.pinned (.plain (OpenSpec.ofChange frontPlaysSpec)) frontPlaysCard

/-- THE TIED CARD OF 'decorumlaw17.FrontNone'. -/
def frontNoneCard : Claim7 := { stood := { row := frontNoneRow, standIns := [], harness := (true, "6d72f6e4f2582fb4c47461f6941d39b90b9ed1dec9384817eebc65386d6cb281"), looks := false }, kinds := [], alts := [], laidByText := true, laidKinds := [.data], laidTests := true, laidLooks := .later }
def FrontNoneCardSaid : Prop := Claim7.holds Tryz.pinned (.plain (OpenSpec.ofChange frontNoneSpec)) frontNoneCard

/-- THE TIED CARD OF 'decorumlaw17.FrontOrder'. -/
def frontOrderCard : Claim7 := { stood := { row := frontOrderRow, standIns := [], harness := (true, "6d72f6e4f2582fb4c47461f6941d39b90b9ed1dec9384817eebc65386d6cb281"), looks := false }, kinds := [], alts := [], laidByText := true, laidKinds := [.data], laidTests := true, laidLooks := .later }
def FrontOrderCardSaid : Prop := Claim7.holds Tryz.pinned (.plain (OpenSpec.ofChange frontOrderSpec)) frontOrderCard

/-- THE SECOND FORM's CARD OF 'decorumlaw17.FrontPlays'. -/
def frontPlaysUptoCard : Claim7 := { stood := { row := frontPlaysUptoRow, standIns := [], harness := (true, "6d72f6e4f2582fb4c47461f6941d39b90b9ed1dec9384817eebc65386d6cb281"), looks := false }, kinds := [], alts := [], laidByText := true, laidKinds := [.data], laidTests := true, laidLooks := .later }
def FrontPlaysUptoCardSaid : Prop := Claim7.holds Tryz.pinned (.plain (OpenSpec.upto frontPlaysSpec)) frontPlaysUptoCard

/-- THE SECOND FORM's CARD OF 'decorumlaw17.FrontNone'. -/
def frontNoneUptoCard : Claim7 := { stood := { row := frontNoneUptoRow, standIns := [], harness := (true, "6d72f6e4f2582fb4c47461f6941d39b90b9ed1dec9384817eebc65386d6cb281"), looks := false }, kinds := [], alts := [], laidByText := true, laidKinds := [.data], laidTests := true, laidLooks := .later }
def FrontNoneUptoCardSaid : Prop := Claim7.holds Tryz.pinned (.plain (OpenSpec.upto frontNoneSpec)) frontNoneUptoCard

/-- THE SECOND FORM's CARD OF 'decorumlaw17.FrontOrder'. -/
def frontOrderUptoCard : Claim7 := { stood := { row := frontOrderUptoRow, standIns := [], harness := (true, "6d72f6e4f2582fb4c47461f6941d39b90b9ed1dec9384817eebc65386d6cb281"), looks := false }, kinds := [], alts := [], laidByText := true, laidKinds := [.data], laidTests := true, laidLooks := .later }
def FrontOrderUptoCardSaid : Prop := Claim7.holds Tryz.pinned (.plain (OpenSpec.upto frontOrderSpec)) frontOrderUptoCard
end Rows
end Go.Proofs.YtimkgaokcldgkaaGreatDoor
