/-
  DERIVED. GIVEN WITH THE SEED: THE CARDS: each row of YtcedckkmdpecmaaDoorRows.lean that lists a variable, with what it lists TIED to the program's text (the seventh form; the later family's looks); each row that meets fmt, with fmt's text TOLD by the authors' own Lean function (tested against real Go, not proved from fmt's source: count such statements apart). THE CARD IS WHAT COUNTS. Prove the row's statement (the work); the ties are given (YtcedckkmdpecmaaDoorTie.lean); close each card by the builder's one call (the guide's Derived/Test/ToyasCard.lean, 'card_holds'). Laid BY PROGRAM, IN A SANDBOX (cutbox-door.mjs). By AI agents, Wed Nov 11 2026. No macro, syntax, notation, axiom, sorry.
-/
import Derived.Test.YtcedckkmdpecmaaDoorRows
import GoSem.ClaimSeven
namespace Go.Proofs.YtcedckkmdpecmaaDoor
namespace Rows

/-- THE TIED CARD OF 'decorumlaw04.PctNorms'. -/
def pctNormsCard : Claim7 := { stood := { row := pctNormsRow, standIns := [], harness := (true, "81009187670822614ec92b9cf144bebff790cf00c0fc0c8ccf11ad32883d0f31"), looks := false }, kinds := [], alts := [], laidByText := true, laidKinds := [.data, .pinned], laidTests := true, laidLooks := .later }
def PctNormsCardSaid : Prop := Claim7.holds Tryd.pinned (.plain (OpenSpec.ofChange pctNormsSpec)) pctNormsCard

/-- THE TIED CARD OF 'decorumlaw04.PctDecodes'. -/
def pctDecodesCard : Claim7 := { stood := { row := pctDecodesRow, standIns := [], harness := (true, "81009187670822614ec92b9cf144bebff790cf00c0fc0c8ccf11ad32883d0f31"), looks := false }, kinds := [], alts := [], laidByText := true, laidKinds := [.data, .pinned], laidTests := true, laidLooks := .later }
def PctDecodesCardSaid : Prop := Claim7.holds Tryd.pinned (.plain (OpenSpec.ofChange pctDecodesSpec)) pctDecodesCard

/-- THE TIED CARD OF 'decorumlaw04.PctAgain'. -/
def pctAgainCard : Claim7 := { stood := { row := pctAgainRow, standIns := [], harness := (true, "81009187670822614ec92b9cf144bebff790cf00c0fc0c8ccf11ad32883d0f31"), looks := false }, kinds := [], alts := [], laidByText := true, laidKinds := [.data, .pinned], laidTests := true, laidLooks := .later }
def PctAgainCardSaid : Prop := Claim7.holds Tryd.pinned (.plain (OpenSpec.ofChange pctAgainSpec)) pctAgainCard

/-- THE TIED CARD OF 'decorumlaw04.PctParts'. -/
def pctPartsCard : Claim7 := { stood := { row := pctPartsRow, standIns := [], harness := (true, "81009187670822614ec92b9cf144bebff790cf00c0fc0c8ccf11ad32883d0f31"), looks := false }, kinds := [], alts := [], laidByText := true, laidKinds := [.data, .pinned], laidTests := true, laidLooks := .later }
def PctPartsCardSaid : Prop := Claim7.holds Tryd.pinned (.plain (OpenSpec.ofChange pctPartsSpec)) pctPartsCard

/-- THE TIED CARD OF 'decorumlaw04.PctPlain'. -/
def pctPlainCard : Claim7 := { stood := { row := pctPlainRow, standIns := [], harness := (true, "81009187670822614ec92b9cf144bebff790cf00c0fc0c8ccf11ad32883d0f31"), looks := false }, kinds := [], alts := [], laidByText := true, laidKinds := [.data, .pinned], laidTests := true, laidLooks := .later }
def PctPlainCardSaid : Prop := Claim7.holds Tryd.pinned (.plain (OpenSpec.ofChange pctPlainSpec)) pctPlainCard

/-- THE TIED CARD OF 'decorumlaw04.PctDecoded'. -/
def pctDecodedCard : Claim7 := { stood := { row := pctDecodedRow, standIns := [], harness := (true, "81009187670822614ec92b9cf144bebff790cf00c0fc0c8ccf11ad32883d0f31"), looks := false }, kinds := [], alts := [], laidByText := true, laidKinds := [.data, .pinned], laidTests := true, laidLooks := .later }
def PctDecodedCardSaid : Prop := Claim7.holds Tryd.pinned (.plain (OpenSpec.ofChange pctDecodedSpec)) pctDecodedCard

/-- THE TIED CARD OF 'decorumlaw10.MatchAny'. -/
def matchAnyCard : Claim7 := { stood := { row := matchAnyRow, standIns := [], harness := (true, "81009187670822614ec92b9cf144bebff790cf00c0fc0c8ccf11ad32883d0f31"), looks := false }, kinds := [], alts := [], laidByText := true, laidKinds := [.data, .pinned], laidTests := true, laidLooks := .later }
def MatchAnyCardSaid : Prop := Claim7.holds Tryd.pinned (.plain (OpenSpec.ofChange matchAnySpec)) matchAnyCard

/-- THE TIED CARD OF 'decorumlaw10.MatchRules'. -/
def matchRulesCard : Claim7 := { stood := { row := matchRulesRow, standIns := [], harness := (true, "81009187670822614ec92b9cf144bebff790cf00c0fc0c8ccf11ad32883d0f31"), looks := false }, kinds := [], alts := [], laidByText := true, laidKinds := [.data, .pinned], laidTests := true, laidLooks := .later }
def MatchRulesCardSaid : Prop := Claim7.holds Tryd.pinned (.plain (OpenSpec.ofChange matchRulesSpec)) matchRulesCard

/-- THE TIED CARD OF 'decorumlaw10.MatchOwn'. -/
def matchOwnCard : Claim7 := { stood := { row := matchOwnRow, standIns := [], harness := (true, "81009187670822614ec92b9cf144bebff790cf00c0fc0c8ccf11ad32883d0f31"), looks := false }, kinds := [], alts := [], laidByText := true, laidKinds := [.data, .pinned], laidTests := true, laidLooks := .later }
def MatchOwnCardSaid : Prop := Claim7.holds Tryd.pinned (.plain (OpenSpec.ofChange matchOwnSpec)) matchOwnCard

/-- THE TIED CARD OF 'decorumlaw10.MatchOrder'. -/
def matchOrderCard : Claim7 := { stood := { row := matchOrderRow, standIns := [], harness := (true, "81009187670822614ec92b9cf144bebff790cf00c0fc0c8ccf11ad32883d0f31"), looks := false }, kinds := [], alts := [], laidByText := true, laidKinds := [.data, .pinned], laidTests := true, laidLooks := .later }
def MatchOrderCardSaid : Prop := Claim7.holds Tryd.pinned (.plain (OpenSpec.ofChange matchOrderSpec)) matchOrderCard

/-- THE TIED CARD OF 'decorumlaw10.MatchLonger'. -/
def matchLongerCard : Claim7 := { stood := { row := matchLongerRow, standIns := [], harness := (true, "81009187670822614ec92b9cf144bebff790cf00c0fc0c8ccf11ad32883d0f31"), looks := false }, kinds := [], alts := [], laidByText := true, laidKinds := [.data, .pinned], laidTests := true, laidLooks := .later }
def MatchLongerCardSaid : Prop := Claim7.holds Tryd.pinned (.plain (OpenSpec.ofChange matchLongerSpec)) matchLongerCard

/-- THE SECOND FORM's CARD OF 'decorumlaw04.PctNorms'. -/
def pctNormsUptoCard : Claim7 := { stood := { row := pctNormsUptoRow, standIns := [], harness := (true, "81009187670822614ec92b9cf144bebff790cf00c0fc0c8ccf11ad32883d0f31"), looks := false }, kinds := [], alts := [], laidByText := true, laidKinds := [.data, .pinned], laidTests := true, laidLooks := .later }
def PctNormsUptoCardSaid : Prop := Claim7.holds Tryd.pinned (.plain (OpenSpec.upto pctNormsSpec)) pctNormsUptoCard

/-- THE SECOND FORM's CARD OF 'decorumlaw04.PctDecodes'. -/
def pctDecodesUptoCard : Claim7 := { stood := { row := pctDecodesUptoRow, standIns := [], harness := (true, "81009187670822614ec92b9cf144bebff790cf00c0fc0c8ccf11ad32883d0f31"), looks := false }, kinds := [], alts := [], laidByText := true, laidKinds := [.data, .pinned], laidTests := true, laidLooks := .later }
def PctDecodesUptoCardSaid : Prop := Claim7.holds Tryd.pinned (.plain (OpenSpec.upto pctDecodesSpec)) pctDecodesUptoCard

/-- THE SECOND FORM's CARD OF 'decorumlaw04.PctAgain'. -/
def pctAgainUptoCard : Claim7 := { stood := { row := pctAgainUptoRow, standIns := [], harness := (true, "81009187670822614ec92b9cf144bebff790cf00c0fc0c8ccf11ad32883d0f31"), looks := false }, kinds := [], alts := [], laidByText := true, laidKinds := [.data, .pinned], laidTests := true, laidLooks := .later }
def PctAgainUptoCardSaid : Prop := Claim7.holds Tryd.pinned (.plain (OpenSpec.upto pctAgainSpec)) pctAgainUptoCard

/-- THE SECOND FORM's CARD OF 'decorumlaw04.PctParts'. -/
def pctPartsUptoCard : Claim7 := { stood := { row := pctPartsUptoRow, standIns := [], harness := (true, "81009187670822614ec92b9cf144bebff790cf00c0fc0c8ccf11ad32883d0f31"), looks := false }, kinds := [], alts := [], laidByText := true, laidKinds := [.data, .pinned], laidTests := true, laidLooks := .later }
def PctPartsUptoCardSaid : Prop := Claim7.holds Tryd.pinned (.plain (OpenSpec.upto pctPartsSpec)) pctPartsUptoCard

/-- THE SECOND FORM's CARD OF 'decorumlaw04.PctPlain'. -/
def pctPlainUptoCard : Claim7 := { stood := { row := pctPlainUptoRow, standIns := [], harness := (true, "81009187670822614ec92b9cf144bebff790cf00c0fc0c8ccf11ad32883d0f31"), looks := false }, kinds := [], alts := [], laidByText := true, laidKinds := [.data, .pinned], laidTests := true, laidLooks := .later }
def PctPlainUptoCardSaid : Prop := Claim7.holds Tryd.pinned (.plain (OpenSpec.upto pctPlainSpec)) pctPlainUptoCard

/-- THE SECOND FORM's CARD OF 'decorumlaw04.PctDecoded'. -/
def pctDecodedUptoCard : Claim7 := { stood := { row := pctDecodedUptoRow, standIns := [], harness := (true, "81009187670822614ec92b9cf144bebff790cf00c0fc0c8ccf11ad32883d0f31"), looks := false }, kinds := [], alts := [], laidByText := true, laidKinds := [.data, .pinned], laidTests := true, laidLooks := .later }
def PctDecodedUptoCardSaid : Prop := Claim7.holds Tryd.pinned (.plain (OpenSpec.upto pctDecodedSpec)) pctDecodedUptoCard

/-- THE SECOND FORM's CARD OF 'decorumlaw10.MatchAny'. -/
def matchAnyUptoCard : Claim7 := { stood := { row := matchAnyUptoRow, standIns := [], harness := (true, "81009187670822614ec92b9cf144bebff790cf00c0fc0c8ccf11ad32883d0f31"), looks := false }, kinds := [], alts := [], laidByText := true, laidKinds := [.data, .pinned], laidTests := true, laidLooks := .later }
def MatchAnyUptoCardSaid : Prop := Claim7.holds Tryd.pinned (.plain (OpenSpec.upto matchAnySpec)) matchAnyUptoCard

/-- THE SECOND FORM's CARD OF 'decorumlaw10.MatchRules'. -/
def matchRulesUptoCard : Claim7 := { stood := { row := matchRulesUptoRow, standIns := [], harness := (true, "81009187670822614ec92b9cf144bebff790cf00c0fc0c8ccf11ad32883d0f31"), looks := false }, kinds := [], alts := [], laidByText := true, laidKinds := [.data, .pinned], laidTests := true, laidLooks := .later }
def MatchRulesUptoCardSaid : Prop := Claim7.holds Tryd.pinned (.plain (OpenSpec.upto matchRulesSpec)) matchRulesUptoCard

/-- THE SECOND FORM's CARD OF 'decorumlaw10.MatchOwn'. -/
def matchOwnUptoCard : Claim7 := { stood := { row := matchOwnUptoRow, standIns := [], harness := (true, "81009187670822614ec92b9cf144bebff790cf00c0fc0c8ccf11ad32883d0f31"), looks := false }, kinds := [], alts := [], laidByText := true, laidKinds := [.data, .pinned], laidTests := true, laidLooks := .later }
def MatchOwnUptoCardSaid : Prop := Claim7.holds Tryd.pinned (.plain (OpenSpec.upto matchOwnSpec)) matchOwnUptoCard

/-- THE SECOND FORM's CARD OF 'decorumlaw10.MatchOrder'. -/
def matchOrderUptoCard : Claim7 := { stood := { row := matchOrderUptoRow, standIns := [], harness := (true, "81009187670822614ec92b9cf144bebff790cf00c0fc0c8ccf11ad32883d0f31"), looks := false }, kinds := [], alts := [], laidByText := true, laidKinds := [.data, .pinned], laidTests := true, laidLooks := .later }
def MatchOrderUptoCardSaid : Prop := Claim7.holds Tryd.pinned (.plain (OpenSpec.upto matchOrderSpec)) matchOrderUptoCard

/-- THE SECOND FORM's CARD OF 'decorumlaw10.MatchLonger'. -/
def matchLongerUptoCard : Claim7 := { stood := { row := matchLongerUptoRow, standIns := [], harness := (true, "81009187670822614ec92b9cf144bebff790cf00c0fc0c8ccf11ad32883d0f31"), looks := false }, kinds := [], alts := [], laidByText := true, laidKinds := [.data, .pinned], laidTests := true, laidLooks := .later }
def MatchLongerUptoCardSaid : Prop := Claim7.holds Tryd.pinned (.plain (OpenSpec.upto matchLongerSpec)) matchLongerUptoCard
end Rows
end Go.Proofs.YtcedckkmdpecmaaDoor
