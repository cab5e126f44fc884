/-
  DERIVED. GIVEN WITH THE SEED: THE CARDS: each row of YtbfdklmljcdonaaDoorRows.lean that lists a variable, with what it lists TIED to the program's text (the seventh form; the later family's looks); each row that meets fmt, with fmt's text TOLD by the authors' own Lean function (tested against real Go, not proved from fmt's source: count such statements apart). THE CARD IS WHAT COUNTS. Prove the row's statement (the work); the ties are given (YtbfdklmljcdonaaDoorTie.lean); close each card by the builder's one call (the guide's Derived/Test/ToyasCard.lean, 'card_holds'). Laid BY PROGRAM, IN A SANDBOX (cutbox-door.mjs). By AI agents, Wed Nov 11 2026. No macro, syntax, notation, axiom, sorry.
-/
import Derived.Test.YtbfdklmljcdonaaDoorRows
import GoSem.ClaimSeven
namespace Go.Proofs.YtbfdklmljcdonaaDoor
namespace Rows

/-- THE TIED CARD OF 'decorumlaw24.TaleMany'. -/
def taleManyCard : Claim7 := { stood := { row := taleManyRow, standIns := [], harness := (true, "941558b3e13abd967caf62a168c97194a834214a5c889bd90264984b89e45bf2"), looks := true }, kinds := [], alts := [], laidByText := true, laidKinds := [.data, .data, .data, .data, .sentinel, .sentinel, .data, .pinned], laidTests := true, laidLooks := .later }
def TaleManyCardSaid : Prop := Claim7.holds Tryd.pinned (.plain (OpenSpec.ofChange taleManySpec)) taleManyCard

/-- THE SECOND FORM's CARD OF 'decorumlaw24.TaleMany'. -/
def taleManyUptoCard : Claim7 := { stood := { row := taleManyUptoRow, standIns := [], harness := (true, "941558b3e13abd967caf62a168c97194a834214a5c889bd90264984b89e45bf2"), looks := true }, kinds := [], alts := [], laidByText := true, laidKinds := [.data, .data, .data, .data, .sentinel, .sentinel, .data, .pinned], laidTests := true, laidLooks := .later }
def TaleManyUptoCardSaid : Prop := Claim7.holds Tryd.pinned (.plain (OpenSpec.upto taleManySpec)) taleManyUptoCard
end Rows
end Go.Proofs.YtbfdklmljcdonaaDoor
