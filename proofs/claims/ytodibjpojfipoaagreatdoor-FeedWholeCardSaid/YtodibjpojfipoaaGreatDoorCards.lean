/-
  DERIVED. GIVEN WITH THE SEED: THE CARDS: each row of YtodibjpojfipoaaGreatDoorRows.lean that lists a variable, with what it lists TIED to the program's text (the seventh form; the later family's looks); each row that meets fmt, with fmt's text TOLD by the authors' own Lean function (tested against real Go, not proved from fmt's source: count such statements apart). THE CARD IS WHAT COUNTS. Prove the row's statement (the work); the ties are given (YtodibjpojfipoaaGreatDoorTie.lean); close each card by the builder's one call (the guide's Derived/Test/ToyasCard.lean, 'card_holds'). Laid BY PROGRAM, IN A SANDBOX (cutbox-door.mjs). By AI agents, Wed Nov 11 2026. No macro, syntax, notation, axiom, sorry.
-/
import Derived.Test.YtodibjpojfipoaaGreatDoorRows
import GoSem.ClaimSeven
namespace Go.Proofs.YtodibjpojfipoaaGreatDoor
namespace Rows

/-- THE TIED CARD OF 'decorumlaw08.FeedClasses'. -/
def feedClassesCard : Claim7 := { stood := { row := feedClassesRow, standIns := [], harness := (true, "399fc06f243bed985a9b9e47d34d939db34f8450495e693cbd59ad685171c7ab"), looks := true }, kinds := [], alts := [], laidByText := true, laidKinds := [.data, .data, .data, .pinned], laidTests := true, laidLooks := .later }
def FeedClassesCardSaid : Prop := Claim7.holds Tryz.pinned (.plain (OpenSpec.ofChange feedClassesSpec)) feedClassesCard

/-- THE TIED CARD OF 'decorumlaw08.FeedRetries'. -/
def feedRetriesCard : Claim7 := { stood := { row := feedRetriesRow, standIns := [], harness := (true, "399fc06f243bed985a9b9e47d34d939db34f8450495e693cbd59ad685171c7ab"), looks := true }, kinds := [], alts := [], laidByText := true, laidKinds := [.data, .data, .data, .pinned], laidTests := true, laidLooks := .later }
def FeedRetriesCardSaid : Prop := Claim7.holds Tryz.pinned (.plain (OpenSpec.ofChange feedRetriesSpec)) feedRetriesCard

/-- THE TIED CARD OF 'decorumlaw08.FeedResets'. -/
def feedResetsCard : Claim7 := { stood := { row := feedResetsRow, standIns := [], harness := (true, "399fc06f243bed985a9b9e47d34d939db34f8450495e693cbd59ad685171c7ab"), looks := true }, kinds := [], alts := [], laidByText := true, laidKinds := [.data, .data, .data, .pinned], laidTests := true, laidLooks := .later }
def FeedResetsCardSaid : Prop := Claim7.holds Tryz.pinned (.plain (OpenSpec.ofChange feedResetsSpec)) feedResetsCard

/-- THE TIED CARD OF 'decorumlaw08.FeedWhole'. -/
def feedWholeCard : Claim7 := { stood := { row := feedWholeRow, standIns := [], harness := (true, "399fc06f243bed985a9b9e47d34d939db34f8450495e693cbd59ad685171c7ab"), looks := true }, kinds := [], alts := [], laidByText := true, laidKinds := [.data, .data, .data, .pinned], laidTests := true, laidLooks := .later }
def FeedWholeCardSaid : Prop := Claim7.holds Tryz.pinned (.plain (OpenSpec.ofChange feedWholeSpec)) feedWholeCard

/-- THE SECOND FORM's CARD OF 'decorumlaw08.FeedClasses'. -/
def feedClassesUptoCard : Claim7 := { stood := { row := feedClassesUptoRow, standIns := [], harness := (true, "399fc06f243bed985a9b9e47d34d939db34f8450495e693cbd59ad685171c7ab"), looks := true }, kinds := [], alts := [], laidByText := true, laidKinds := [.data, .data, .data, .pinned], laidTests := true, laidLooks := .later }
def FeedClassesUptoCardSaid : Prop := Claim7.holds Tryz.pinned (.plain (OpenSpec.upto feedClassesSpec)) feedClassesUptoCard

/-- THE SECOND FORM's CARD OF 'decorumlaw08.FeedRetries'. -/
def feedRetriesUptoCard : Claim7 := { stood := { row := feedRetriesUptoRow, standIns := [], harness := (true, "399fc06f243bed985a9b9e47d34d939db34f8450495e693cbd59ad685171c7ab"), looks := true }, kinds := [], alts := [], laidByText := true, laidKinds := [.data, .data, .data, .pinned], laidTests := true, laidLooks := .later }
def FeedRetriesUptoCardSaid : Prop := Claim7.holds Tryz.pinned (.plain (OpenSpec.upto feedRetriesSpec)) feedRetriesUptoCard

/-- THE SECOND FORM's CARD OF 'decorumlaw08.FeedResets'. -/
def feedResetsUptoCard : Claim7 := { stood := { row := feedResetsUptoRow, standIns := [], harness := (true, "399fc06f243bed985a9b9e47d34d939db34f8450495e693cbd59ad685171c7ab"), looks := true }, kinds := [], alts := [], laidByText := true, laidKinds := [.data, .data, .data, .pinned], laidTests := true, laidLooks := .later }
def FeedResetsUptoCardSaid : Prop := Claim7.holds Tryz.pinned (.plain (OpenSpec.upto feedResetsSpec)) feedResetsUptoCard

/-- THE SECOND FORM's CARD OF 'decorumlaw08.FeedWhole'. -/
def feedWholeUptoCard : Claim7 := { stood := { row := feedWholeUptoRow, standIns := [], harness := (true, "399fc06f243bed985a9b9e47d34d939db34f8450495e693cbd59ad685171c7ab"), looks := true }, kinds := [], alts := [], laidByText := true, laidKinds := [.data, .data, .data, .pinned], laidTests := true, laidLooks := .later }
def FeedWholeUptoCardSaid : Prop := Claim7.holds Tryz.pinned (.plain (OpenSpec.upto feedWholeSpec)) feedWholeUptoCard
end Rows
end Go.Proofs.YtodibjpojfipoaaGreatDoor
