/-
  DERIVED. GIVEN WITH THE SEED: THE CARDS: each row of YtodlecjbpmggiaaDoorRows.lean that lists a variable, with what it lists TIED to the program's text (the seventh form; the later family's looks); each row that meets fmt, with fmt's text TOLD by the authors' own Lean function (tested against real Go, not proved from fmt's source: count such statements apart). THE CARD IS WHAT COUNTS. Prove the row's statement (the work); the ties are given (YtodlecjbpmggiaaDoorTie.lean); close each card by the builder's one call (the guide's Derived/Test/ToyasCard.lean, 'card_holds'). Laid BY PROGRAM, IN A SANDBOX (cutbox-door.mjs). By AI agents, Wed Nov 11 2026. No macro, syntax, notation, axiom, sorry.
-/
import Derived.Test.YtodlecjbpmggiaaDoorRows
import GoSem.ClaimSeven
namespace Go.Proofs.YtodlecjbpmggiaaDoor
namespace Rows

/-- THE TIED CARD OF 'decorumlaw11.RobotsOpen'. -/
def robotsOpenCard : Claim7 := { stood := { row := robotsOpenRow, standIns := [], harness := (true, "7c792555f39ec3c4b9e9f2ef6098c13268dc47462a37946c82bab1a0eeb2fd8a"), looks := false }, kinds := [], alts := [], laidByText := true, laidKinds := [.data, .pinned], laidTests := true, laidLooks := .later }
def RobotsOpenCardSaid : Prop := Claim7.holds Tryd.pinned (.plain (OpenSpec.ofChange robotsOpenSpec)) robotsOpenCard

/-- THE SECOND FORM's CARD OF 'decorumlaw11.RobotsOpen'. -/
def robotsOpenUptoCard : Claim7 := { stood := { row := robotsOpenUptoRow, standIns := [], harness := (true, "7c792555f39ec3c4b9e9f2ef6098c13268dc47462a37946c82bab1a0eeb2fd8a"), looks := false }, kinds := [], alts := [], laidByText := true, laidKinds := [.data, .pinned], laidTests := true, laidLooks := .later }
def RobotsOpenUptoCardSaid : Prop := Claim7.holds Tryd.pinned (.plain (OpenSpec.upto robotsOpenSpec)) robotsOpenUptoCard
end Rows
end Go.Proofs.YtodlecjbpmggiaaDoor
