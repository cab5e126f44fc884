/-
  DERIVED. GIVEN WITH THE SEED: THE CARDS: each row of YtcbllfbhifimnaaDoorRows.lean that lists a variable, with what it lists TIED to the program's text (the seventh form; the later family's looks); each row that meets fmt, with fmt's text TOLD by the authors' own Lean function (tested against real Go, not proved from fmt's source: count such statements apart). THE CARD IS WHAT COUNTS. Prove the row's statement (the work); the ties are given (YtcbllfbhifimnaaDoorTie.lean); close each card by the builder's one call (the guide's Derived/Test/ToyasCard.lean, 'card_holds'). Laid BY PROGRAM, IN A SANDBOX (cutbox-door.mjs). By AI agents, Wed Nov 11 2026. No macro, syntax, notation, axiom, sorry.
-/
import Derived.Test.YtcbllfbhifimnaaDoorRows
import GoSem.ClaimSeven
namespace Go.Proofs.YtcbllfbhifimnaaDoor
namespace Rows

/-- THE TIED CARD OF 'decorumlaw03.DateForms'. -/
def dateFormsCard : Claim7 := { stood := { row := dateFormsRow, standIns := [], harness := (true, "9092e885cacbe48ded62d207ea8993aa6eb7b351d8a6a25780b1a698ecc561ff"), looks := false }, kinds := [], alts := [], laidByText := true, laidKinds := [.data, .data, .data, .data, .data], laidTests := true, laidLooks := .later }
def DateFormsCardSaid : Prop := Claim7.holds Tryd.pinned (.plain (OpenSpec.ofChange dateFormsSpec)) dateFormsCard

/-- THE TIED CARD OF 'decorumlaw03.DateWrites'. -/
def dateWritesCard : Claim7 := { stood := { row := dateWritesRow, standIns := [], harness := (true, "9092e885cacbe48ded62d207ea8993aa6eb7b351d8a6a25780b1a698ecc561ff"), looks := false }, kinds := [], alts := [], laidByText := true, laidKinds := [.data, .data, .data, .data, .data], laidTests := true, laidLooks := .later }
def DateWritesCardSaid : Prop := Claim7.holds Tryd.pinned (.plain (OpenSpec.ofChange dateWritesSpec)) dateWritesCard

/-- THE TIED CARD OF 'decorumlaw03.DateOther'. -/
def dateOtherCard : Claim7 := { stood := { row := dateOtherRow, standIns := [], harness := (true, "9092e885cacbe48ded62d207ea8993aa6eb7b351d8a6a25780b1a698ecc561ff"), looks := false }, kinds := [], alts := [], laidByText := true, laidKinds := [.data, .data, .data, .data, .data], laidTests := true, laidLooks := .later }
def DateOtherCardSaid : Prop := Claim7.holds Tryd.pinned (.plain (OpenSpec.ofChange dateOtherSpec)) dateOtherCard

/-- THE TIED CARD OF 'decorumlaw03.DateThree'. -/
def dateThreeCard : Claim7 := { stood := { row := dateThreeRow, standIns := [], harness := (true, "9092e885cacbe48ded62d207ea8993aa6eb7b351d8a6a25780b1a698ecc561ff"), looks := false }, kinds := [], alts := [], laidByText := true, laidKinds := [.data, .data, .data, .data, .data], laidTests := true, laidLooks := .later }
def DateThreeCardSaid : Prop := Claim7.holds Tryd.pinned (.plain (OpenSpec.ofChange dateThreeSpec)) dateThreeCard

/-- THE SECOND FORM's CARD OF 'decorumlaw03.DateForms'. -/
def dateFormsUptoCard : Claim7 := { stood := { row := dateFormsUptoRow, standIns := [], harness := (true, "9092e885cacbe48ded62d207ea8993aa6eb7b351d8a6a25780b1a698ecc561ff"), looks := false }, kinds := [], alts := [], laidByText := true, laidKinds := [.data, .data, .data, .data, .data], laidTests := true, laidLooks := .later }
def DateFormsUptoCardSaid : Prop := Claim7.holds Tryd.pinned (.plain (OpenSpec.upto dateFormsSpec)) dateFormsUptoCard

/-- THE SECOND FORM's CARD OF 'decorumlaw03.DateWrites'. -/
def dateWritesUptoCard : Claim7 := { stood := { row := dateWritesUptoRow, standIns := [], harness := (true, "9092e885cacbe48ded62d207ea8993aa6eb7b351d8a6a25780b1a698ecc561ff"), looks := false }, kinds := [], alts := [], laidByText := true, laidKinds := [.data, .data, .data, .data, .data], laidTests := true, laidLooks := .later }
def DateWritesUptoCardSaid : Prop := Claim7.holds Tryd.pinned (.plain (OpenSpec.upto dateWritesSpec)) dateWritesUptoCard

/-- THE SECOND FORM's CARD OF 'decorumlaw03.DateOther'. -/
def dateOtherUptoCard : Claim7 := { stood := { row := dateOtherUptoRow, standIns := [], harness := (true, "9092e885cacbe48ded62d207ea8993aa6eb7b351d8a6a25780b1a698ecc561ff"), looks := false }, kinds := [], alts := [], laidByText := true, laidKinds := [.data, .data, .data, .data, .data], laidTests := true, laidLooks := .later }
def DateOtherUptoCardSaid : Prop := Claim7.holds Tryd.pinned (.plain (OpenSpec.upto dateOtherSpec)) dateOtherUptoCard

/-- THE SECOND FORM's CARD OF 'decorumlaw03.DateThree'. -/
def dateThreeUptoCard : Claim7 := { stood := { row := dateThreeUptoRow, standIns := [], harness := (true, "9092e885cacbe48ded62d207ea8993aa6eb7b351d8a6a25780b1a698ecc561ff"), looks := false }, kinds := [], alts := [], laidByText := true, laidKinds := [.data, .data, .data, .data, .data], laidTests := true, laidLooks := .later }
def DateThreeUptoCardSaid : Prop := Claim7.holds Tryd.pinned (.plain (OpenSpec.upto dateThreeSpec)) dateThreeUptoCard
end Rows
end Go.Proofs.YtcbllfbhifimnaaDoor
