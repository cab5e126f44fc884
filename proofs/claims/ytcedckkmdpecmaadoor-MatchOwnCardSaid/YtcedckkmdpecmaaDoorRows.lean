/-
  NARROWER THAN 'FOR EVERY INPUT', by the rows' own cells (each row's printed sentence says how): PctNorms: laid · PctDecodes: laid · PctAgain: laid · PctParts: laid · PctPlain: laid · PctDecoded: laid · MatchAny: laid · MatchRules: laid · MatchOwn: laid · MatchOrder: laid · MatchLonger: laid.
  DERIVED. THE GIVEN ROWS OF THIS SEAT. 11 by the template 'for every input the law returns true; each argument reads behind the call as it read before'; 0 by the template 'total and deterministic' (their statements: YtcedckkmdpecmaaDoorTotals.lean).
  GIVEN WITH THE SEED: the statements are not yours to turn. If you find one false, say at which input.
  Laid BY PROGRAM, IN A SANDBOX (cutbox-rows.mjs): the forced cells as the released guide's own fill.sh prints them over the translation 43b6399e0d07e22f… (all of the seat's roots in one cut). By AI agents, Wed Nov 11 2026. No macro, syntax, notation, axiom, sorry.
-/
import Derived.Test.YtcedckkmdpecmaaDoorChecked
import GoSem.PinnedTables
import GoSem.Claim
import GoSem.ClaimJoined
import GoSem.ClaimMapViews
import Derived.JoinedTies
import Derived.KernelRfl
namespace Go.Proofs.YtcedckkmdpecmaaDoor
/- THE CELL 'sum', in the pinned program and in every row, IS THE sha256 OF THE DUMP (.gsa) THAT YtcedckkmdpecmaaDoorProg.lean LOADS. Nothing in Lean hashes anything: it is a label: what it is worth is what the hold of that sum in a sandbox is worth. -/
noncomputable def Tryd.pinned : Pinned := { name := "ytcedckkmdpecmaadoor", sum := "43b6399e0d07e22f59aa2654e37799e3de13e0189524fa118bc4af861085db2b", checked := Tryd.checked }
namespace Rows
def none {H : Type} : Left H := { results := [], args := [] }

/- WHAT THE LISTED PACKAGE-LEVEL VARIABLES READ AS WHEN THE CALL BEGINS. Each datum BY PROGRAM (the guide's laid-datum.mjs) off the statement by which the dump's own 'gosem.cut.vars' lays the variable. In a bare row this is a premise. The card (YtcedckkmdpecmaaDoorCards.lean) ties it to the program's text. -/
def laid_unicode_utf8_acceptRanges {H : Type} : DataW H := .agg [.agg [.lit (.int .u8 128), .lit (.int .u8 191)], .agg [.lit (.int .u8 160), .lit (.int .u8 191)], .agg [.lit (.int .u8 128), .lit (.int .u8 159)], .agg [.lit (.int .u8 144), .lit (.int .u8 191)], .agg [.lit (.int .u8 128), .lit (.int .u8 143)], .agg [.lit (.int .u8 0), .lit (.int .u8 0)], .agg [.lit (.int .u8 0), .lit (.int .u8 0)], .agg [.lit (.int .u8 0), .lit (.int .u8 0)], .agg [.lit (.int .u8 0), .lit (.int .u8 0)], .agg [.lit (.int .u8 0), .lit (.int .u8 0)], .agg [.lit (.int .u8 0), .lit (.int .u8 0)], .agg [.lit (.int .u8 0), .lit (.int .u8 0)], .agg [.lit (.int .u8 0), .lit (.int .u8 0)], .agg [.lit (.int .u8 0), .lit (.int .u8 0)], .agg [.lit (.int .u8 0), .lit (.int .u8 0)], .agg [.lit (.int .u8 0), .lit (.int .u8 0)]]
/-- One of Go's own tables, pinned by name: the form's constant. -/
def laid_unicode_utf8_first : DataW Unit := Go.Pinned.utf8First

/-- 'decorumlaw04.PctNorms': WHATEVER THE INPUT: true; the input reads as it did. -/
def pctNormsSpec : ChangeSpec := { name := "pctNorms", fn := fun _ => fun
  | [d] => { results := [.lit (.bool true)], args := [d] }
  | _ => none }
def pctNormsRow : OpenClaim := { program := "ytcedckkmdpecmaadoor", sum := "43b6399e0d07e22f59aa2654e37799e3de13e0189524fa118bc4af861085db2b", func := "decorum/decorumlaw04.PctNorms", spec := "pctNorms", inPlace := ["internal/abi.NoEscape", "internal/bytealg.IndexByteString", "internal/bytealg.IndexString"], unfollowed := true, recurses := true, named := ["unicode/utf8.first", "unicode/utf8.acceptRanges", "internal/bytealg.MaxLen"], apart := false, laid := [("unicode/utf8.acceptRanges", laid_unicode_utf8_acceptRanges), ("unicode/utf8.first", laid_unicode_utf8_first)] }
def PctNormsSaid : Prop := pctNormsRow.holds Tryd.pinned (OpenSpec.ofChange pctNormsSpec)

/-- ITS FALSE NEIGHBOUR: 'it returns false'. Refute it at one input. -/
def pctNormsWrong : ChangeSpec := { name := "pctNorms", fn := fun _ => fun
  | [d] => { results := [.lit (.bool false)], args := [d] }
  | _ => none }
def PctNormsWrongFalsely : Prop := pctNormsRow.holds Tryd.pinned (OpenSpec.ofChange pctNormsWrong)

/-- 'decorumlaw04.PctDecodes': WHATEVER THE INPUT: true; the input reads as it did. -/
def pctDecodesSpec : ChangeSpec := { name := "pctDecodes", fn := fun _ => fun
  | [d] => { results := [.lit (.bool true)], args := [d] }
  | _ => none }
def pctDecodesRow : OpenClaim := { program := "ytcedckkmdpecmaadoor", sum := "43b6399e0d07e22f59aa2654e37799e3de13e0189524fa118bc4af861085db2b", func := "decorum/decorumlaw04.PctDecodes", spec := "pctDecodes", inPlace := ["internal/abi.NoEscape", "internal/bytealg.IndexByteString", "internal/bytealg.IndexString"], unfollowed := true, recurses := true, named := ["unicode/utf8.first", "unicode/utf8.acceptRanges", "internal/bytealg.MaxLen"], apart := false, laid := [("unicode/utf8.acceptRanges", laid_unicode_utf8_acceptRanges), ("unicode/utf8.first", laid_unicode_utf8_first)] }
def PctDecodesSaid : Prop := pctDecodesRow.holds Tryd.pinned (OpenSpec.ofChange pctDecodesSpec)

/-- ITS FALSE NEIGHBOUR: 'it returns false'. Refute it at one input. -/
def pctDecodesWrong : ChangeSpec := { name := "pctDecodes", fn := fun _ => fun
  | [d] => { results := [.lit (.bool false)], args := [d] }
  | _ => none }
def PctDecodesWrongFalsely : Prop := pctDecodesRow.holds Tryd.pinned (OpenSpec.ofChange pctDecodesWrong)

/-- 'decorumlaw04.PctAgain': WHATEVER THE INPUT: true; the input reads as it did. -/
def pctAgainSpec : ChangeSpec := { name := "pctAgain", fn := fun _ => fun
  | [d] => { results := [.lit (.bool true)], args := [d] }
  | _ => none }
def pctAgainRow : OpenClaim := { program := "ytcedckkmdpecmaadoor", sum := "43b6399e0d07e22f59aa2654e37799e3de13e0189524fa118bc4af861085db2b", func := "decorum/decorumlaw04.PctAgain", spec := "pctAgain", inPlace := ["internal/abi.NoEscape", "internal/bytealg.IndexByteString", "internal/bytealg.IndexString"], unfollowed := true, recurses := true, named := ["unicode/utf8.first", "unicode/utf8.acceptRanges", "internal/bytealg.MaxLen"], apart := false, laid := [("unicode/utf8.acceptRanges", laid_unicode_utf8_acceptRanges), ("unicode/utf8.first", laid_unicode_utf8_first)] }
def PctAgainSaid : Prop := pctAgainRow.holds Tryd.pinned (OpenSpec.ofChange pctAgainSpec)

/-- ITS FALSE NEIGHBOUR: 'it returns false'. Refute it at one input. -/
def pctAgainWrong : ChangeSpec := { name := "pctAgain", fn := fun _ => fun
  | [d] => { results := [.lit (.bool false)], args := [d] }
  | _ => none }
def PctAgainWrongFalsely : Prop := pctAgainRow.holds Tryd.pinned (OpenSpec.ofChange pctAgainWrong)

/-- 'decorumlaw04.PctParts': WHATEVER THE INPUT: true; the input reads as it did. -/
def pctPartsSpec : ChangeSpec := { name := "pctParts", fn := fun _ => fun
  | [d1, d2] => { results := [.lit (.bool true)], args := [d1, d2] }
  | _ => none }
def pctPartsRow : OpenClaim := { program := "ytcedckkmdpecmaadoor", sum := "43b6399e0d07e22f59aa2654e37799e3de13e0189524fa118bc4af861085db2b", func := "decorum/decorumlaw04.PctParts", spec := "pctParts", inPlace := ["internal/abi.NoEscape", "internal/bytealg.IndexByteString", "internal/bytealg.IndexString"], unfollowed := true, recurses := true, named := ["unicode/utf8.first", "unicode/utf8.acceptRanges", "internal/bytealg.MaxLen"], apart := false, laid := [("unicode/utf8.acceptRanges", laid_unicode_utf8_acceptRanges), ("unicode/utf8.first", laid_unicode_utf8_first)] }
def PctPartsSaid : Prop := pctPartsRow.holds Tryd.pinned (OpenSpec.ofChange pctPartsSpec)

/-- ITS FALSE NEIGHBOUR: 'it returns false'. Refute it at one input. -/
def pctPartsWrong : ChangeSpec := { name := "pctParts", fn := fun _ => fun
  | [d1, d2] => { results := [.lit (.bool false)], args := [d1, d2] }
  | _ => none }
def PctPartsWrongFalsely : Prop := pctPartsRow.holds Tryd.pinned (OpenSpec.ofChange pctPartsWrong)

/-- 'decorumlaw04.PctPlain': WHATEVER THE INPUT: true; the input reads as it did. -/
def pctPlainSpec : ChangeSpec := { name := "pctPlain", fn := fun _ => fun
  | [d] => { results := [.lit (.bool true)], args := [d] }
  | _ => none }
def pctPlainRow : OpenClaim := { program := "ytcedckkmdpecmaadoor", sum := "43b6399e0d07e22f59aa2654e37799e3de13e0189524fa118bc4af861085db2b", func := "decorum/decorumlaw04.PctPlain", spec := "pctPlain", inPlace := ["internal/abi.NoEscape", "internal/bytealg.IndexByteString", "internal/bytealg.IndexString"], unfollowed := true, recurses := true, named := ["unicode/utf8.first", "unicode/utf8.acceptRanges", "internal/bytealg.MaxLen"], apart := false, laid := [("unicode/utf8.acceptRanges", laid_unicode_utf8_acceptRanges), ("unicode/utf8.first", laid_unicode_utf8_first)] }
def PctPlainSaid : Prop := pctPlainRow.holds Tryd.pinned (OpenSpec.ofChange pctPlainSpec)

/-- ITS FALSE NEIGHBOUR: 'it returns false'. Refute it at one input. -/
def pctPlainWrong : ChangeSpec := { name := "pctPlain", fn := fun _ => fun
  | [d] => { results := [.lit (.bool false)], args := [d] }
  | _ => none }
def PctPlainWrongFalsely : Prop := pctPlainRow.holds Tryd.pinned (OpenSpec.ofChange pctPlainWrong)

/-- 'decorumlaw04.PctDecoded': WHATEVER THE INPUT: true; the input reads as it did. -/
def pctDecodedSpec : ChangeSpec := { name := "pctDecoded", fn := fun _ => fun
  | [d] => { results := [.lit (.bool true)], args := [d] }
  | _ => none }
def pctDecodedRow : OpenClaim := { program := "ytcedckkmdpecmaadoor", sum := "43b6399e0d07e22f59aa2654e37799e3de13e0189524fa118bc4af861085db2b", func := "decorum/decorumlaw04.PctDecoded", spec := "pctDecoded", inPlace := ["internal/abi.NoEscape", "internal/bytealg.IndexByteString", "internal/bytealg.IndexString"], unfollowed := true, recurses := true, named := ["unicode/utf8.first", "unicode/utf8.acceptRanges", "internal/bytealg.MaxLen"], apart := false, laid := [("unicode/utf8.acceptRanges", laid_unicode_utf8_acceptRanges), ("unicode/utf8.first", laid_unicode_utf8_first)] }
def PctDecodedSaid : Prop := pctDecodedRow.holds Tryd.pinned (OpenSpec.ofChange pctDecodedSpec)

/-- ITS FALSE NEIGHBOUR: 'it returns false'. Refute it at one input. -/
def pctDecodedWrong : ChangeSpec := { name := "pctDecoded", fn := fun _ => fun
  | [d] => { results := [.lit (.bool false)], args := [d] }
  | _ => none }
def PctDecodedWrongFalsely : Prop := pctDecodedRow.holds Tryd.pinned (OpenSpec.ofChange pctDecodedWrong)

/-- 'decorumlaw10.MatchAny': WHATEVER THE INPUT: true; the input reads as it did. -/
def matchAnySpec : ChangeSpec := { name := "matchAny", fn := fun _ => fun
  | [d1, d2] => { results := [.lit (.bool true)], args := [d1, d2] }
  | _ => none }
def matchAnyRow : OpenClaim := { program := "ytcedckkmdpecmaadoor", sum := "43b6399e0d07e22f59aa2654e37799e3de13e0189524fa118bc4af861085db2b", func := "decorum/decorumlaw10.MatchAny", spec := "matchAny", inPlace := ["internal/abi.NoEscape", "internal/bytealg.IndexByteString", "internal/bytealg.IndexString", "internal/bytealg.CountString"], unfollowed := true, recurses := true, named := ["unicode/utf8.first", "unicode/utf8.acceptRanges", "internal/bytealg.MaxLen"], apart := false, laid := [("unicode/utf8.acceptRanges", laid_unicode_utf8_acceptRanges), ("unicode/utf8.first", laid_unicode_utf8_first)] }
def MatchAnySaid : Prop := matchAnyRow.holds Tryd.pinned (OpenSpec.ofChange matchAnySpec)

/-- ITS FALSE NEIGHBOUR: 'it returns false'. Refute it at one input. -/
def matchAnyWrong : ChangeSpec := { name := "matchAny", fn := fun _ => fun
  | [d1, d2] => { results := [.lit (.bool false)], args := [d1, d2] }
  | _ => none }
def MatchAnyWrongFalsely : Prop := matchAnyRow.holds Tryd.pinned (OpenSpec.ofChange matchAnyWrong)

/-- 'decorumlaw10.MatchRules': WHATEVER THE INPUT: true; the input reads as it did. -/
def matchRulesSpec : ChangeSpec := { name := "matchRules", fn := fun _ => fun
  | [d1, d2] => { results := [.lit (.bool true)], args := [d1, d2] }
  | _ => none }
def matchRulesRow : OpenClaim := { program := "ytcedckkmdpecmaadoor", sum := "43b6399e0d07e22f59aa2654e37799e3de13e0189524fa118bc4af861085db2b", func := "decorum/decorumlaw10.MatchRules", spec := "matchRules", inPlace := ["internal/abi.NoEscape", "internal/bytealg.IndexByteString", "internal/bytealg.IndexString", "internal/bytealg.CountString"], unfollowed := true, recurses := true, named := ["unicode/utf8.first", "unicode/utf8.acceptRanges", "internal/bytealg.MaxLen"], apart := false, laid := [("unicode/utf8.acceptRanges", laid_unicode_utf8_acceptRanges), ("unicode/utf8.first", laid_unicode_utf8_first)] }
def MatchRulesSaid : Prop := matchRulesRow.holds Tryd.pinned (OpenSpec.ofChange matchRulesSpec)

/-- ITS FALSE NEIGHBOUR: 'it returns false'. Refute it at one input. -/
def matchRulesWrong : ChangeSpec := { name := "matchRules", fn := fun _ => fun
  | [d1, d2] => { results := [.lit (.bool false)], args := [d1, d2] }
  | _ => none }
def MatchRulesWrongFalsely : Prop := matchRulesRow.holds Tryd.pinned (OpenSpec.ofChange matchRulesWrong)

/-- 'decorumlaw10.MatchOwn': WHATEVER THE INPUT: true; the input reads as it did. -/
def matchOwnSpec : ChangeSpec := { name := "matchOwn", fn := fun _ => fun
  | [d1, d2, d3] => { results := [.lit (.bool true)], args := [d1, d2, d3] }
  | _ => none }
def matchOwnRow : OpenClaim := { program := "ytcedckkmdpecmaadoor", sum := "43b6399e0d07e22f59aa2654e37799e3de13e0189524fa118bc4af861085db2b", func := "decorum/decorumlaw10.MatchOwn", spec := "matchOwn", inPlace := ["internal/abi.NoEscape", "internal/bytealg.IndexByteString", "internal/bytealg.IndexString", "internal/bytealg.CountString"], unfollowed := true, recurses := true, named := ["unicode/utf8.first", "unicode/utf8.acceptRanges", "internal/bytealg.MaxLen"], apart := false, laid := [("unicode/utf8.acceptRanges", laid_unicode_utf8_acceptRanges), ("unicode/utf8.first", laid_unicode_utf8_first)] }
def MatchOwnSaid : Prop := matchOwnRow.holds Tryd.pinned (OpenSpec.ofChange matchOwnSpec)

/-- ITS FALSE NEIGHBOUR: 'it returns false'. Refute it at one input. -/
def matchOwnWrong : ChangeSpec := { name := "matchOwn", fn := fun _ => fun
  | [d1, d2, d3] => { results := [.lit (.bool false)], args := [d1, d2, d3] }
  | _ => none }
def MatchOwnWrongFalsely : Prop := matchOwnRow.holds Tryd.pinned (OpenSpec.ofChange matchOwnWrong)

/-- 'decorumlaw10.MatchOrder': WHATEVER THE INPUT: true; the input reads as it did. -/
def matchOrderSpec : ChangeSpec := { name := "matchOrder", fn := fun _ => fun
  | [d1, d2] => { results := [.lit (.bool true)], args := [d1, d2] }
  | _ => none }
def matchOrderRow : OpenClaim := { program := "ytcedckkmdpecmaadoor", sum := "43b6399e0d07e22f59aa2654e37799e3de13e0189524fa118bc4af861085db2b", func := "decorum/decorumlaw10.MatchOrder", spec := "matchOrder", inPlace := ["internal/abi.NoEscape", "internal/bytealg.IndexByteString", "internal/bytealg.IndexString", "internal/bytealg.CountString"], unfollowed := true, recurses := true, named := ["unicode/utf8.first", "unicode/utf8.acceptRanges", "internal/bytealg.MaxLen"], apart := false, laid := [("unicode/utf8.acceptRanges", laid_unicode_utf8_acceptRanges), ("unicode/utf8.first", laid_unicode_utf8_first)] }
def MatchOrderSaid : Prop := matchOrderRow.holds Tryd.pinned (OpenSpec.ofChange matchOrderSpec)

/-- ITS FALSE NEIGHBOUR: 'it returns false'. Refute it at one input. -/
def matchOrderWrong : ChangeSpec := { name := "matchOrder", fn := fun _ => fun
  | [d1, d2] => { results := [.lit (.bool false)], args := [d1, d2] }
  | _ => none }
def MatchOrderWrongFalsely : Prop := matchOrderRow.holds Tryd.pinned (OpenSpec.ofChange matchOrderWrong)

/-- 'decorumlaw10.MatchLonger': WHATEVER THE INPUT: true; the input reads as it did. -/
def matchLongerSpec : ChangeSpec := { name := "matchLonger", fn := fun _ => fun
  | [d1, d2, d3] => { results := [.lit (.bool true)], args := [d1, d2, d3] }
  | _ => none }
def matchLongerRow : OpenClaim := { program := "ytcedckkmdpecmaadoor", sum := "43b6399e0d07e22f59aa2654e37799e3de13e0189524fa118bc4af861085db2b", func := "decorum/decorumlaw10.MatchLonger", spec := "matchLonger", inPlace := ["internal/abi.NoEscape", "internal/bytealg.IndexByteString", "internal/bytealg.IndexString", "internal/bytealg.CountString"], unfollowed := true, recurses := true, named := ["unicode/utf8.first", "unicode/utf8.acceptRanges", "internal/bytealg.MaxLen"], apart := false, laid := [("unicode/utf8.acceptRanges", laid_unicode_utf8_acceptRanges), ("unicode/utf8.first", laid_unicode_utf8_first)] }
def MatchLongerSaid : Prop := matchLongerRow.holds Tryd.pinned (OpenSpec.ofChange matchLongerSpec)

/-- ITS FALSE NEIGHBOUR: 'it returns false'. Refute it at one input. -/
def matchLongerWrong : ChangeSpec := { name := "matchLonger", fn := fun _ => fun
  | [d1, d2, d3] => { results := [.lit (.bool false)], args := [d1, d2, d3] }
  | _ => none }
def MatchLongerWrongFalsely : Prop := matchLongerRow.holds Tryd.pinned (OpenSpec.ofChange matchLongerWrong)

/- THE SECOND FORM. 'bulk': how many values and letters a reading holds, each counted each time it is reached (what is shared counts as often as it is met; a slice's spare places count too). A statement '..UptoSaid' is the law's where the arguments, and the package variables that the reading takes, are together of bulk at most 1048576: NARROWER than '..Said'. Prove '..Said' where nothing that the law and all that it calls make is longer than what came in: it says more and counts as full. Else prove '..UptoSaid'. A law counts once. -/
mutual
def uptoBulk {H : Type} : DataW H → Nat
  | .lit (.string bytes) => bytes.length + 1
  | .lit _ => 1
  | .nil => 1
  | .ptr d => uptoBulk d + 1
  | .slice elems spare => uptoBulkAll elems + uptoBulkAll spare + 1
  | .agg parts => uptoBulkAll parts + 1
  | .iface _ d => uptoBulk d + 1
  | .map entries => uptoBulkEntries entries + 1
  | .held _ => 1
def uptoBulkAll {H : Type} : List (DataW H) → Nat
  | [] => 0
  | d :: r => uptoBulk d + uptoBulkAll r
def uptoBulkEntries {H : Type} : List (Lit × DataW H) → Nat
  | [] => 0
  | x :: r => uptoBulkEntry x + uptoBulkEntries r
def uptoBulkEntry {H : Type} : Lit × DataW H → Nat
  | (.string bytes, d) => bytes.length + uptoBulk d + 1
  | (_, d) => uptoBulk d + 1
 end
def uptoSmall : (H : Type) → List (DataW H) → Bool := fun _ ds => decide (uptoBulkAll ds ≤ 1048576)
def OpenSpec.upto (s : _root_.Go.ChangeSpec) : _root_.Go.OpenSpec := { _root_.Go.OpenSpec.ofChange s with cond := some uptoSmall }

/-- 'decorumlaw04.PctNorms', WHERE WHAT IT READS IS OF BULK AT MOST 1048576: true; the input reads as it did. -/
def pctNormsUptoRow : OpenClaim := { program := "ytcedckkmdpecmaadoor", sum := "43b6399e0d07e22f59aa2654e37799e3de13e0189524fa118bc4af861085db2b", func := "decorum/decorumlaw04.PctNorms", spec := "pctNorms", inPlace := ["internal/abi.NoEscape", "internal/bytealg.IndexByteString", "internal/bytealg.IndexString"], unfollowed := true, recurses := true, named := ["unicode/utf8.first", "unicode/utf8.acceptRanges", "internal/bytealg.MaxLen"], apart := false, laid := [("unicode/utf8.acceptRanges", laid_unicode_utf8_acceptRanges), ("unicode/utf8.first", laid_unicode_utf8_first)], narrowed := true }
def PctNormsUptoSaid : Prop := pctNormsUptoRow.holds Tryd.pinned (OpenSpec.upto pctNormsSpec)

/-- 'decorumlaw04.PctDecodes', WHERE WHAT IT READS IS OF BULK AT MOST 1048576: true; the input reads as it did. -/
def pctDecodesUptoRow : OpenClaim := { program := "ytcedckkmdpecmaadoor", sum := "43b6399e0d07e22f59aa2654e37799e3de13e0189524fa118bc4af861085db2b", func := "decorum/decorumlaw04.PctDecodes", spec := "pctDecodes", inPlace := ["internal/abi.NoEscape", "internal/bytealg.IndexByteString", "internal/bytealg.IndexString"], unfollowed := true, recurses := true, named := ["unicode/utf8.first", "unicode/utf8.acceptRanges", "internal/bytealg.MaxLen"], apart := false, laid := [("unicode/utf8.acceptRanges", laid_unicode_utf8_acceptRanges), ("unicode/utf8.first", laid_unicode_utf8_first)], narrowed := true }
def PctDecodesUptoSaid : Prop := pctDecodesUptoRow.holds Tryd.pinned (OpenSpec.upto pctDecodesSpec)

/-- 'decorumlaw04.PctAgain', WHERE WHAT IT READS IS OF BULK AT MOST 1048576: true; the input reads as it did. -/
def pctAgainUptoRow : OpenClaim := { program := "ytcedckkmdpecmaadoor", sum := "43b6399e0d07e22f59aa2654e37799e3de13e0189524fa118bc4af861085db2b", func := "decorum/decorumlaw04.PctAgain", spec := "pctAgain", inPlace := ["internal/abi.NoEscape", "internal/bytealg.IndexByteString", "internal/bytealg.IndexString"], unfollowed := true, recurses := true, named := ["unicode/utf8.first", "unicode/utf8.acceptRanges", "internal/bytealg.MaxLen"], apart := false, laid := [("unicode/utf8.acceptRanges", laid_unicode_utf8_acceptRanges), ("unicode/utf8.first", laid_unicode_utf8_first)], narrowed := true }
def PctAgainUptoSaid : Prop := pctAgainUptoRow.holds Tryd.pinned (OpenSpec.upto pctAgainSpec)

/-- 'decorumlaw04.PctParts', WHERE WHAT IT READS IS OF BULK AT MOST 1048576: true; the input reads as it did. -/
def pctPartsUptoRow : OpenClaim := { program := "ytcedckkmdpecmaadoor", sum := "43b6399e0d07e22f59aa2654e37799e3de13e0189524fa118bc4af861085db2b", func := "decorum/decorumlaw04.PctParts", spec := "pctParts", inPlace := ["internal/abi.NoEscape", "internal/bytealg.IndexByteString", "internal/bytealg.IndexString"], unfollowed := true, recurses := true, named := ["unicode/utf8.first", "unicode/utf8.acceptRanges", "internal/bytealg.MaxLen"], apart := false, laid := [("unicode/utf8.acceptRanges", laid_unicode_utf8_acceptRanges), ("unicode/utf8.first", laid_unicode_utf8_first)], narrowed := true }
def PctPartsUptoSaid : Prop := pctPartsUptoRow.holds Tryd.pinned (OpenSpec.upto pctPartsSpec)

/-- 'decorumlaw04.PctPlain', WHERE WHAT IT READS IS OF BULK AT MOST 1048576: true; the input reads as it did. -/
def pctPlainUptoRow : OpenClaim := { program := "ytcedckkmdpecmaadoor", sum := "43b6399e0d07e22f59aa2654e37799e3de13e0189524fa118bc4af861085db2b", func := "decorum/decorumlaw04.PctPlain", spec := "pctPlain", inPlace := ["internal/abi.NoEscape", "internal/bytealg.IndexByteString", "internal/bytealg.IndexString"], unfollowed := true, recurses := true, named := ["unicode/utf8.first", "unicode/utf8.acceptRanges", "internal/bytealg.MaxLen"], apart := false, laid := [("unicode/utf8.acceptRanges", laid_unicode_utf8_acceptRanges), ("unicode/utf8.first", laid_unicode_utf8_first)], narrowed := true }
def PctPlainUptoSaid : Prop := pctPlainUptoRow.holds Tryd.pinned (OpenSpec.upto pctPlainSpec)

/-- 'decorumlaw04.PctDecoded', WHERE WHAT IT READS IS OF BULK AT MOST 1048576: true; the input reads as it did. -/
def pctDecodedUptoRow : OpenClaim := { program := "ytcedckkmdpecmaadoor", sum := "43b6399e0d07e22f59aa2654e37799e3de13e0189524fa118bc4af861085db2b", func := "decorum/decorumlaw04.PctDecoded", spec := "pctDecoded", inPlace := ["internal/abi.NoEscape", "internal/bytealg.IndexByteString", "internal/bytealg.IndexString"], unfollowed := true, recurses := true, named := ["unicode/utf8.first", "unicode/utf8.acceptRanges", "internal/bytealg.MaxLen"], apart := false, laid := [("unicode/utf8.acceptRanges", laid_unicode_utf8_acceptRanges), ("unicode/utf8.first", laid_unicode_utf8_first)], narrowed := true }
def PctDecodedUptoSaid : Prop := pctDecodedUptoRow.holds Tryd.pinned (OpenSpec.upto pctDecodedSpec)

/-- 'decorumlaw10.MatchAny', WHERE WHAT IT READS IS OF BULK AT MOST 1048576: true; the input reads as it did. -/
def matchAnyUptoRow : OpenClaim := { program := "ytcedckkmdpecmaadoor", sum := "43b6399e0d07e22f59aa2654e37799e3de13e0189524fa118bc4af861085db2b", func := "decorum/decorumlaw10.MatchAny", spec := "matchAny", inPlace := ["internal/abi.NoEscape", "internal/bytealg.IndexByteString", "internal/bytealg.IndexString", "internal/bytealg.CountString"], unfollowed := true, recurses := true, named := ["unicode/utf8.first", "unicode/utf8.acceptRanges", "internal/bytealg.MaxLen"], apart := false, laid := [("unicode/utf8.acceptRanges", laid_unicode_utf8_acceptRanges), ("unicode/utf8.first", laid_unicode_utf8_first)], narrowed := true }
def MatchAnyUptoSaid : Prop := matchAnyUptoRow.holds Tryd.pinned (OpenSpec.upto matchAnySpec)

/-- 'decorumlaw10.MatchRules', WHERE WHAT IT READS IS OF BULK AT MOST 1048576: true; the input reads as it did. -/
def matchRulesUptoRow : OpenClaim := { program := "ytcedckkmdpecmaadoor", sum := "43b6399e0d07e22f59aa2654e37799e3de13e0189524fa118bc4af861085db2b", func := "decorum/decorumlaw10.MatchRules", spec := "matchRules", inPlace := ["internal/abi.NoEscape", "internal/bytealg.IndexByteString", "internal/bytealg.IndexString", "internal/bytealg.CountString"], unfollowed := true, recurses := true, named := ["unicode/utf8.first", "unicode/utf8.acceptRanges", "internal/bytealg.MaxLen"], apart := false, laid := [("unicode/utf8.acceptRanges", laid_unicode_utf8_acceptRanges), ("unicode/utf8.first", laid_unicode_utf8_first)], narrowed := true }
def MatchRulesUptoSaid : Prop := matchRulesUptoRow.holds Tryd.pinned (OpenSpec.upto matchRulesSpec)

/-- 'decorumlaw10.MatchOwn', WHERE WHAT IT READS IS OF BULK AT MOST 1048576: true; the input reads as it did. -/
def matchOwnUptoRow : OpenClaim := { program := "ytcedckkmdpecmaadoor", sum := "43b6399e0d07e22f59aa2654e37799e3de13e0189524fa118bc4af861085db2b", func := "decorum/decorumlaw10.MatchOwn", spec := "matchOwn", inPlace := ["internal/abi.NoEscape", "internal/bytealg.IndexByteString", "internal/bytealg.IndexString", "internal/bytealg.CountString"], unfollowed := true, recurses := true, named := ["unicode/utf8.first", "unicode/utf8.acceptRanges", "internal/bytealg.MaxLen"], apart := false, laid := [("unicode/utf8.acceptRanges", laid_unicode_utf8_acceptRanges), ("unicode/utf8.first", laid_unicode_utf8_first)], narrowed := true }
def MatchOwnUptoSaid : Prop := matchOwnUptoRow.holds Tryd.pinned (OpenSpec.upto matchOwnSpec)

/-- 'decorumlaw10.MatchOrder', WHERE WHAT IT READS IS OF BULK AT MOST 1048576: true; the input reads as it did. -/
def matchOrderUptoRow : OpenClaim := { program := "ytcedckkmdpecmaadoor", sum := "43b6399e0d07e22f59aa2654e37799e3de13e0189524fa118bc4af861085db2b", func := "decorum/decorumlaw10.MatchOrder", spec := "matchOrder", inPlace := ["internal/abi.NoEscape", "internal/bytealg.IndexByteString", "internal/bytealg.IndexString", "internal/bytealg.CountString"], unfollowed := true, recurses := true, named := ["unicode/utf8.first", "unicode/utf8.acceptRanges", "internal/bytealg.MaxLen"], apart := false, laid := [("unicode/utf8.acceptRanges", laid_unicode_utf8_acceptRanges), ("unicode/utf8.first", laid_unicode_utf8_first)], narrowed := true }
def MatchOrderUptoSaid : Prop := matchOrderUptoRow.holds Tryd.pinned (OpenSpec.upto matchOrderSpec)

/-- 'decorumlaw10.MatchLonger', WHERE WHAT IT READS IS OF BULK AT MOST 1048576: true; the input reads as it did. -/
def matchLongerUptoRow : OpenClaim := { program := "ytcedckkmdpecmaadoor", sum := "43b6399e0d07e22f59aa2654e37799e3de13e0189524fa118bc4af861085db2b", func := "decorum/decorumlaw10.MatchLonger", spec := "matchLonger", inPlace := ["internal/abi.NoEscape", "internal/bytealg.IndexByteString", "internal/bytealg.IndexString", "internal/bytealg.CountString"], unfollowed := true, recurses := true, named := ["unicode/utf8.first", "unicode/utf8.acceptRanges", "internal/bytealg.MaxLen"], apart := false, laid := [("unicode/utf8.acceptRanges", laid_unicode_utf8_acceptRanges), ("unicode/utf8.first", laid_unicode_utf8_first)], narrowed := true }
def MatchLongerUptoSaid : Prop := matchLongerUptoRow.holds Tryd.pinned (OpenSpec.upto matchLongerSpec)

end Rows
end Go.Proofs.YtcedckkmdpecmaaDoor
