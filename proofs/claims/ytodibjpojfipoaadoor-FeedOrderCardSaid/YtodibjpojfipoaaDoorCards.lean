/-
  DERIVED. GIVEN WITH THE SEED: THE CARDS: each row of YtodibjpojfipoaaDoorRows.lean that lists a variable, with what it lists TIED to the program's text (the seventh form; the later family's looks); each row that meets fmt, with fmt's text TOLD by the authors' own Lean function (tested against real Go, not proved from fmt's source: count such statements apart). THE CARD IS WHAT COUNTS. Prove the row's statement (the work); the ties are given (YtodibjpojfipoaaDoorTie.lean); close each card by the builder's one call (the guide's Derived/Test/ToyasCard.lean, 'card_holds'). Laid BY PROGRAM, IN A SANDBOX (cutbox-door.mjs). By AI agents, Wed Nov 11 2026. No macro, syntax, notation, axiom, sorry.
-/
import Derived.Test.YtodibjpojfipoaaDoorRows
import GoSem.ClaimSeven
namespace Go.Proofs.YtodibjpojfipoaaDoor
namespace Rows

/-- THE TIED CARD OF 'decorumlaw08.FeedLater'. -/
def feedLaterCard : Claim7 := { stood := { row := feedLaterRow, standIns := [], harness := (true, "551a6af6ae2c593a33427af6d6ee519b3faaffda5e13c6a1dc6b98dd81856f60"), looks := true }, kinds := [], alts := [], laidByText := true, laidKinds := [.data, .data, .data, .pinned], laidTests := true, laidLooks := .later }
def FeedLaterCardSaid : Prop := Claim7.holds Tryd.pinned (.plain (OpenSpec.ofChange feedLaterSpec)) feedLaterCard

/-- THE TIED CARD OF 'decorumlaw08.FeedOrder'. -/
def feedOrderCard : Claim7 := { stood := { row := feedOrderRow, standIns := [], harness := (true, "551a6af6ae2c593a33427af6d6ee519b3faaffda5e13c6a1dc6b98dd81856f60"), looks := true }, kinds := [], alts := [], laidByText := true, laidKinds := [.data, .data, .data, .pinned], laidTests := true, laidLooks := .later }
def FeedOrderCardSaid : Prop := Claim7.holds Tryd.pinned (.plain (OpenSpec.ofChange feedOrderSpec)) feedOrderCard

/-- THE TIED CARD OF 'decorumlaw08.FeedMost'. -/
def feedMostCard : Claim7 := { stood := { row := feedMostRow, standIns := [], harness := (true, "551a6af6ae2c593a33427af6d6ee519b3faaffda5e13c6a1dc6b98dd81856f60"), looks := true }, kinds := [], alts := [], laidByText := true, laidKinds := [.data, .data, .data, .pinned], laidTests := true, laidLooks := .later }
def FeedMostCardSaid : Prop := Claim7.holds Tryd.pinned (.plain (OpenSpec.ofChange feedMostSpec)) feedMostCard

/-- THE SECOND FORM's CARD OF 'decorumlaw08.FeedLater'. -/
def feedLaterUptoCard : Claim7 := { stood := { row := feedLaterUptoRow, standIns := [], harness := (true, "551a6af6ae2c593a33427af6d6ee519b3faaffda5e13c6a1dc6b98dd81856f60"), looks := true }, kinds := [], alts := [], laidByText := true, laidKinds := [.data, .data, .data, .pinned], laidTests := true, laidLooks := .later }
def FeedLaterUptoCardSaid : Prop := Claim7.holds Tryd.pinned (.plain (OpenSpec.upto feedLaterSpec)) feedLaterUptoCard

/-- THE SECOND FORM's CARD OF 'decorumlaw08.FeedOrder'. -/
def feedOrderUptoCard : Claim7 := { stood := { row := feedOrderUptoRow, standIns := [], harness := (true, "551a6af6ae2c593a33427af6d6ee519b3faaffda5e13c6a1dc6b98dd81856f60"), looks := true }, kinds := [], alts := [], laidByText := true, laidKinds := [.data, .data, .data, .pinned], laidTests := true, laidLooks := .later }
def FeedOrderUptoCardSaid : Prop := Claim7.holds Tryd.pinned (.plain (OpenSpec.upto feedOrderSpec)) feedOrderUptoCard

/-- THE SECOND FORM's CARD OF 'decorumlaw08.FeedMost'. -/
def feedMostUptoCard : Claim7 := { stood := { row := feedMostUptoRow, standIns := [], harness := (true, "551a6af6ae2c593a33427af6d6ee519b3faaffda5e13c6a1dc6b98dd81856f60"), looks := true }, kinds := [], alts := [], laidByText := true, laidKinds := [.data, .data, .data, .pinned], laidTests := true, laidLooks := .later }
def FeedMostUptoCardSaid : Prop := Claim7.holds Tryd.pinned (.plain (OpenSpec.upto feedMostSpec)) feedMostUptoCard
end Rows
end Go.Proofs.YtodibjpojfipoaaDoor
