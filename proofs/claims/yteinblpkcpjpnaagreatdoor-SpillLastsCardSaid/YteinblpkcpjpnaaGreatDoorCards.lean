/-
  DERIVED. GIVEN WITH THE SEED: THE CARDS: each row of YteinblpkcpjpnaaGreatDoorRows.lean that lists a variable, with what it lists TIED to the program's text (the seventh form; the later family's looks); each row that meets fmt, with fmt's text TOLD by the authors' own Lean function (tested against real Go, not proved from fmt's source: count such statements apart). THE CARD IS WHAT COUNTS. Prove the row's statement (the work); the ties are given (YteinblpkcpjpnaaGreatDoorTie.lean); close each card by the builder's one call (the guide's Derived/Test/ToyasCard.lean, 'card_holds'). Laid BY PROGRAM, IN A SANDBOX (cutbox-door.mjs). By AI agents, Wed Nov 11 2026. No macro, syntax, notation, axiom, sorry.
-/
import Derived.Test.YteinblpkcpjpnaaGreatDoorRows
import GoSem.ClaimSeven
namespace Go.Proofs.YteinblpkcpjpnaaGreatDoor
namespace Rows

/-- THE TIED CARD OF 'decorumlaw15.SpillLasts'. -/
def spillLastsCard : Claim7 := { stood := { row := spillLastsRow, standIns := [], harness := (true, "ace0f05cdf9f21914d6b6d52924f802b032c4aba5efa5a0912447c936cd61384"), looks := false }, kinds := [], alts := [], laidByText := true, laidKinds := [.data], laidTests := true, laidLooks := .later }
def SpillLastsCardSaid : Prop := Claim7.holds Tryz.pinned (.plain (OpenSpec.ofChange spillLastsSpec)) spillLastsCard

/-- THE TIED CARD OF 'decorumlaw15.SpillWaits'. -/
def spillWaitsCard : Claim7 := { stood := { row := spillWaitsRow, standIns := [], harness := (true, "ace0f05cdf9f21914d6b6d52924f802b032c4aba5efa5a0912447c936cd61384"), looks := false }, kinds := [], alts := [], laidByText := true, laidKinds := [.data], laidTests := true, laidLooks := .later }
def SpillWaitsCardSaid : Prop := Claim7.holds Tryz.pinned (.plain (OpenSpec.ofChange spillWaitsSpec)) spillWaitsCard

/-- THE TIED CARD OF 'decorumlaw15.SpillNone'. -/
def spillNoneCard : Claim7 := { stood := { row := spillNoneRow, standIns := [], harness := (true, "ace0f05cdf9f21914d6b6d52924f802b032c4aba5efa5a0912447c936cd61384"), looks := false }, kinds := [], alts := [], laidByText := true, laidKinds := [.data], laidTests := true, laidLooks := .later }
def SpillNoneCardSaid : Prop := Claim7.holds Tryz.pinned (.plain (OpenSpec.ofChange spillNoneSpec)) spillNoneCard

/-- THE TIED CARD OF 'decorumlaw15.SpillCompacts'. -/
def spillCompactsCard : Claim7 := { stood := { row := spillCompactsRow, standIns := [], harness := (true, "ace0f05cdf9f21914d6b6d52924f802b032c4aba5efa5a0912447c936cd61384"), looks := false }, kinds := [], alts := [], laidByText := true, laidKinds := [.data], laidTests := true, laidLooks := .later }
def SpillCompactsCardSaid : Prop := Claim7.holds Tryz.pinned (.plain (OpenSpec.ofChange spillCompactsSpec)) spillCompactsCard

/-- THE TIED CARD OF 'decorumlaw15.SpillNext'. -/
def spillNextCard : Claim7 := { stood := { row := spillNextRow, standIns := [], harness := (true, "ace0f05cdf9f21914d6b6d52924f802b032c4aba5efa5a0912447c936cd61384"), looks := false }, kinds := [], alts := [], laidByText := true, laidKinds := [.data], laidTests := true, laidLooks := .later }
def SpillNextCardSaid : Prop := Claim7.holds Tryz.pinned (.plain (OpenSpec.ofChange spillNextSpec)) spillNextCard

/-- THE SECOND FORM's CARD OF 'decorumlaw15.SpillLasts'. -/
def spillLastsUptoCard : Claim7 := { stood := { row := spillLastsUptoRow, standIns := [], harness := (true, "ace0f05cdf9f21914d6b6d52924f802b032c4aba5efa5a0912447c936cd61384"), looks := false }, kinds := [], alts := [], laidByText := true, laidKinds := [.data], laidTests := true, laidLooks := .later }
def SpillLastsUptoCardSaid : Prop := Claim7.holds Tryz.pinned (.plain (OpenSpec.upto spillLastsSpec)) spillLastsUptoCard

/-- THE SECOND FORM's CARD OF 'decorumlaw15.SpillWaits'. -/
def spillWaitsUptoCard : Claim7 := { stood := { row := spillWaitsUptoRow, standIns := [], harness := (true, "ace0f05cdf9f21914d6b6d52924f802b032c4aba5efa5a0912447c936cd61384"), looks := false }, kinds := [], alts := [], laidByText := true, laidKinds := [.data], laidTests := true, laidLooks := .later }
def SpillWaitsUptoCardSaid : Prop := Claim7.holds Tryz.pinned (.plain (OpenSpec.upto spillWaitsSpec)) spillWaitsUptoCard

/-- THE SECOND FORM's CARD OF 'decorumlaw15.SpillNone'. -/
def spillNoneUptoCard : Claim7 := { stood := { row := spillNoneUptoRow, standIns := [], harness := (true, "ace0f05cdf9f21914d6b6d52924f802b032c4aba5efa5a0912447c936cd61384"), looks := false }, kinds := [], alts := [], laidByText := true, laidKinds := [.data], laidTests := true, laidLooks := .later }
def SpillNoneUptoCardSaid : Prop := Claim7.holds Tryz.pinned (.plain (OpenSpec.upto spillNoneSpec)) spillNoneUptoCard

/-- THE SECOND FORM's CARD OF 'decorumlaw15.SpillCompacts'. -/
def spillCompactsUptoCard : Claim7 := { stood := { row := spillCompactsUptoRow, standIns := [], harness := (true, "ace0f05cdf9f21914d6b6d52924f802b032c4aba5efa5a0912447c936cd61384"), looks := false }, kinds := [], alts := [], laidByText := true, laidKinds := [.data], laidTests := true, laidLooks := .later }
def SpillCompactsUptoCardSaid : Prop := Claim7.holds Tryz.pinned (.plain (OpenSpec.upto spillCompactsSpec)) spillCompactsUptoCard

/-- THE SECOND FORM's CARD OF 'decorumlaw15.SpillNext'. -/
def spillNextUptoCard : Claim7 := { stood := { row := spillNextUptoRow, standIns := [], harness := (true, "ace0f05cdf9f21914d6b6d52924f802b032c4aba5efa5a0912447c936cd61384"), looks := false }, kinds := [], alts := [], laidByText := true, laidKinds := [.data], laidTests := true, laidLooks := .later }
def SpillNextUptoCardSaid : Prop := Claim7.holds Tryz.pinned (.plain (OpenSpec.upto spillNextSpec)) spillNextUptoCard
end Rows
end Go.Proofs.YteinblpkcpjpnaaGreatDoor
