/-
  NARROWER THAN 'FOR EVERY INPUT', by the rows' own cells (each row's printed sentence says how): FeedLater: laid · FeedOrder: laid · FeedMost: laid.
  DERIVED. THE GIVEN ROWS OF THIS SEAT. 3 by the template 'for every input the law returns true; each argument reads behind the call as it read before'; 0 by the template 'total and deterministic' (their statements: YtodibjpojfipoaaDoorTotals.lean).
  GIVEN WITH THE SEED: the statements are not yours to turn. If you find one false, say at which input.
  Laid BY PROGRAM, IN A SANDBOX (cutbox-rows.mjs): the forced cells as the released guide's own fill.sh prints them over the translation adfe8a51895b4444… (all of the seat's roots in one cut). By AI agents, Wed Nov 11 2026. No macro, syntax, notation, axiom, sorry.
-/
import Derived.Test.YtodibjpojfipoaaDoorChecked
import GoSem.PinnedTables
import GoSem.Claim
import GoSem.ClaimJoined
import GoSem.ClaimMapViews
import Derived.JoinedTies
import Derived.KernelRfl
namespace Go.Proofs.YtodibjpojfipoaaDoor
/- THE CELL 'sum', in the pinned program and in every row, IS THE sha256 OF THE DUMP (.gsa) THAT YtodibjpojfipoaaDoorProg.lean LOADS. Nothing in Lean hashes anything: it is a label: what it is worth is what the hold of that sum in a sandbox is worth. -/
noncomputable def Tryd.pinned : Pinned := { name := "ytodibjpojfipoaadoor", sum := "adfe8a51895b44446cc4e6536de41d2796e97cf2f24d875c6dd341d9897f8dd3", checked := Tryd.checked }
namespace Rows
def none {H : Type} : Left H := { results := [], args := [] }

/- WHAT THE LISTED PACKAGE-LEVEL VARIABLES READ AS WHEN THE CALL BEGINS. Each datum BY PROGRAM (the guide's laid-datum.mjs) off the statement by which the dump's own 'gosem.cut.vars' lays the variable. In a bare row this is a premise. The card (YtodibjpojfipoaaDoorCards.lean) ties it to the program's text. -/
def laid_unicode_utf8_acceptRanges {H : Type} : DataW H := .agg [.agg [.lit (.int .u8 128), .lit (.int .u8 191)], .agg [.lit (.int .u8 160), .lit (.int .u8 191)], .agg [.lit (.int .u8 128), .lit (.int .u8 159)], .agg [.lit (.int .u8 144), .lit (.int .u8 191)], .agg [.lit (.int .u8 128), .lit (.int .u8 143)], .agg [.lit (.int .u8 0), .lit (.int .u8 0)], .agg [.lit (.int .u8 0), .lit (.int .u8 0)], .agg [.lit (.int .u8 0), .lit (.int .u8 0)], .agg [.lit (.int .u8 0), .lit (.int .u8 0)], .agg [.lit (.int .u8 0), .lit (.int .u8 0)], .agg [.lit (.int .u8 0), .lit (.int .u8 0)], .agg [.lit (.int .u8 0), .lit (.int .u8 0)], .agg [.lit (.int .u8 0), .lit (.int .u8 0)], .agg [.lit (.int .u8 0), .lit (.int .u8 0)], .agg [.lit (.int .u8 0), .lit (.int .u8 0)], .agg [.lit (.int .u8 0), .lit (.int .u8 0)]]
def laid_decorum_date_dayNames {H : Type} : DataW H := .agg [.lit (.string [77, 111, 110, 100, 97, 121]), .lit (.string [84, 117, 101, 115, 100, 97, 121]), .lit (.string [87, 101, 100, 110, 101, 115, 100, 97, 121]), .lit (.string [84, 104, 117, 114, 115, 100, 97, 121]), .lit (.string [70, 114, 105, 100, 97, 121]), .lit (.string [83, 97, 116, 117, 114, 100, 97, 121]), .lit (.string [83, 117, 110, 100, 97, 121])]
def laid_decorum_date_monthNames {H : Type} : DataW H := .agg [.lit (.string [74, 97, 110]), .lit (.string [70, 101, 98]), .lit (.string [77, 97, 114]), .lit (.string [65, 112, 114]), .lit (.string [77, 97, 121]), .lit (.string [74, 117, 110]), .lit (.string [74, 117, 108]), .lit (.string [65, 117, 103]), .lit (.string [83, 101, 112]), .lit (.string [79, 99, 116]), .lit (.string [78, 111, 118]), .lit (.string [68, 101, 99])]
/-- One of Go's own tables, pinned by name: the form's constant. -/
def laid_unicode_utf8_first : DataW Unit := Go.Pinned.utf8First

/-- 'decorumlaw08.FeedLater': WHATEVER THE INPUT: true; the input reads as it did. -/
def feedLaterSpec : ChangeSpec := { name := "feedLater", fn := fun _ => fun
  | [d1, d2, d3] => { results := [.lit (.bool true)], args := [d1, d2, d3] }
  | _ => none }
def feedLaterRow : OpenClaim := { program := "ytodibjpojfipoaadoor", sum := "adfe8a51895b44446cc4e6536de41d2796e97cf2f24d875c6dd341d9897f8dd3", func := "decorum/decorumlaw08.FeedLater", spec := "feedLater", inPlace := ["internal/bytealg.IndexByteString", "internal/bytealg.IndexString"], unfollowed := true, recurses := true, named := ["unicode/utf8.first", "unicode/utf8.acceptRanges", "decorum/date.dayNames", "decorum/date.monthNames", "internal/bytealg.MaxLen"], apart := false, laid := [("unicode/utf8.acceptRanges", laid_unicode_utf8_acceptRanges), ("decorum/date.dayNames", laid_decorum_date_dayNames), ("decorum/date.monthNames", laid_decorum_date_monthNames), ("unicode/utf8.first", laid_unicode_utf8_first)] }
def FeedLaterSaid : Prop := feedLaterRow.holds Tryd.pinned (OpenSpec.ofChange feedLaterSpec)

/-- ITS FALSE NEIGHBOUR: 'it returns false'. Refute it at one input. -/
def feedLaterWrong : ChangeSpec := { name := "feedLater", fn := fun _ => fun
  | [d1, d2, d3] => { results := [.lit (.bool false)], args := [d1, d2, d3] }
  | _ => none }
def FeedLaterWrongFalsely : Prop := feedLaterRow.holds Tryd.pinned (OpenSpec.ofChange feedLaterWrong)

/-- 'decorumlaw08.FeedOrder': WHATEVER THE INPUT: true; the input reads as it did. -/
def feedOrderSpec : ChangeSpec := { name := "feedOrder", fn := fun _ => fun
  | [d1, d2, d3, d4] => { results := [.lit (.bool true)], args := [d1, d2, d3, d4] }
  | _ => none }
def feedOrderRow : OpenClaim := { program := "ytodibjpojfipoaadoor", sum := "adfe8a51895b44446cc4e6536de41d2796e97cf2f24d875c6dd341d9897f8dd3", func := "decorum/decorumlaw08.FeedOrder", spec := "feedOrder", inPlace := ["internal/bytealg.IndexByteString", "internal/bytealg.IndexString"], unfollowed := true, recurses := true, named := ["unicode/utf8.first", "unicode/utf8.acceptRanges", "decorum/date.dayNames", "decorum/date.monthNames", "internal/bytealg.MaxLen"], apart := false, laid := [("unicode/utf8.acceptRanges", laid_unicode_utf8_acceptRanges), ("decorum/date.dayNames", laid_decorum_date_dayNames), ("decorum/date.monthNames", laid_decorum_date_monthNames), ("unicode/utf8.first", laid_unicode_utf8_first)] }
def FeedOrderSaid : Prop := feedOrderRow.holds Tryd.pinned (OpenSpec.ofChange feedOrderSpec)

/-- ITS FALSE NEIGHBOUR: 'it returns false'. Refute it at one input. -/
def feedOrderWrong : ChangeSpec := { name := "feedOrder", fn := fun _ => fun
  | [d1, d2, d3, d4] => { results := [.lit (.bool false)], args := [d1, d2, d3, d4] }
  | _ => none }
def FeedOrderWrongFalsely : Prop := feedOrderRow.holds Tryd.pinned (OpenSpec.ofChange feedOrderWrong)

/-- 'decorumlaw08.FeedMost': WHATEVER THE INPUT: true; the input reads as it did. -/
def feedMostSpec : ChangeSpec := { name := "feedMost", fn := fun _ => fun
  | [d1, d2, d3] => { results := [.lit (.bool true)], args := [d1, d2, d3] }
  | _ => none }
def feedMostRow : OpenClaim := { program := "ytodibjpojfipoaadoor", sum := "adfe8a51895b44446cc4e6536de41d2796e97cf2f24d875c6dd341d9897f8dd3", func := "decorum/decorumlaw08.FeedMost", spec := "feedMost", inPlace := ["internal/bytealg.IndexByteString", "internal/bytealg.IndexString"], unfollowed := true, recurses := true, named := ["unicode/utf8.first", "unicode/utf8.acceptRanges", "decorum/date.dayNames", "decorum/date.monthNames", "internal/bytealg.MaxLen"], apart := false, laid := [("unicode/utf8.acceptRanges", laid_unicode_utf8_acceptRanges), ("decorum/date.dayNames", laid_decorum_date_dayNames), ("decorum/date.monthNames", laid_decorum_date_monthNames), ("unicode/utf8.first", laid_unicode_utf8_first)] }
def FeedMostSaid : Prop := feedMostRow.holds Tryd.pinned (OpenSpec.ofChange feedMostSpec)

/-- ITS FALSE NEIGHBOUR: 'it returns false'. Refute it at one input. -/
def feedMostWrong : ChangeSpec := { name := "feedMost", fn := fun _ => fun
  | [d1, d2, d3] => { results := [.lit (.bool false)], args := [d1, d2, d3] }
  | _ => none }
def FeedMostWrongFalsely : Prop := feedMostRow.holds Tryd.pinned (OpenSpec.ofChange feedMostWrong)

/- THE SECOND FORM. 'bulk': how many values and letters a reading holds, each counted each time it is reached (what is shared counts as often as it is met; a slice's spare places count too). A statement '..UptoSaid' is the law's where the arguments, and the package variables that the reading takes, are together of bulk at most 1048576: NARROWER than '..Said'. Prove '..Said' where nothing that the law and all that it calls make is longer than what came in: it says more and counts as full. Else prove '..UptoSaid'. A law counts once. -/
mutual
def uptoBulk {H : Type} : DataW H → Nat
  | .lit (.string bytes) => bytes.length + 1
  | .lit _ => 1
  | .nil => 1
  | .ptr d => uptoBulk d + 1
  | .slice elems spare => uptoBulkAll elems + uptoBulkAll spare + 1
  | .agg parts => uptoBulkAll parts + 1
  | .iface _ d => uptoBulk d + 1
  | .map entries => uptoBulkEntries entries + 1
  | .held _ => 1
def uptoBulkAll {H : Type} : List (DataW H) → Nat
  | [] => 0
  | d :: r => uptoBulk d + uptoBulkAll r
def uptoBulkEntries {H : Type} : List (Lit × DataW H) → Nat
  | [] => 0
  | x :: r => uptoBulkEntry x + uptoBulkEntries r
def uptoBulkEntry {H : Type} : Lit × DataW H → Nat
  | (.string bytes, d) => bytes.length + uptoBulk d + 1
  | (_, d) => uptoBulk d + 1
 end
def uptoSmall : (H : Type) → List (DataW H) → Bool := fun _ ds => decide (uptoBulkAll ds ≤ 1048576)
def OpenSpec.upto (s : _root_.Go.ChangeSpec) : _root_.Go.OpenSpec := { _root_.Go.OpenSpec.ofChange s with cond := some uptoSmall }

/-- 'decorumlaw08.FeedLater', WHERE WHAT IT READS IS OF BULK AT MOST 1048576: true; the input reads as it did. -/
def feedLaterUptoRow : OpenClaim := { program := "ytodibjpojfipoaadoor", sum := "adfe8a51895b44446cc4e6536de41d2796e97cf2f24d875c6dd341d9897f8dd3", func := "decorum/decorumlaw08.FeedLater", spec := "feedLater", inPlace := ["internal/bytealg.IndexByteString", "internal/bytealg.IndexString"], unfollowed := true, recurses := true, named := ["unicode/utf8.first", "unicode/utf8.acceptRanges", "decorum/date.dayNames", "decorum/date.monthNames", "internal/bytealg.MaxLen"], apart := false, laid := [("unicode/utf8.acceptRanges", laid_unicode_utf8_acceptRanges), ("decorum/date.dayNames", laid_decorum_date_dayNames), ("decorum/date.monthNames", laid_decorum_date_monthNames), ("unicode/utf8.first", laid_unicode_utf8_first)], narrowed := true }
def FeedLaterUptoSaid : Prop := feedLaterUptoRow.holds Tryd.pinned (OpenSpec.upto feedLaterSpec)

/-- 'decorumlaw08.FeedOrder', WHERE WHAT IT READS IS OF BULK AT MOST 1048576: true; the input reads as it did. -/
def feedOrderUptoRow : OpenClaim := { program := "ytodibjpojfipoaadoor", sum := "adfe8a51895b44446cc4e6536de41d2796e97cf2f24d875c6dd341d9897f8dd3", func := "decorum/decorumlaw08.FeedOrder", spec := "feedOrder", inPlace := ["internal/bytealg.IndexByteString", "internal/bytealg.IndexString"], unfollowed := true, recurses := true, named := ["unicode/utf8.first", "unicode/utf8.acceptRanges", "decorum/date.dayNames", "decorum/date.monthNames", "internal/bytealg.MaxLen"], apart := false, laid := [("unicode/utf8.acceptRanges", laid_unicode_utf8_acceptRanges), ("decorum/date.dayNames", laid_decorum_date_dayNames), ("decorum/date.monthNames", laid_decorum_date_monthNames), ("unicode/utf8.first", laid_unicode_utf8_first)], narrowed := true }
def FeedOrderUptoSaid : Prop := feedOrderUptoRow.holds Tryd.pinned (OpenSpec.upto feedOrderSpec)

/-- 'decorumlaw08.FeedMost', WHERE WHAT IT READS IS OF BULK AT MOST 1048576: true; the input reads as it did. -/
def feedMostUptoRow : OpenClaim := { program := "ytodibjpojfipoaadoor", sum := "adfe8a51895b44446cc4e6536de41d2796e97cf2f24d875c6dd341d9897f8dd3", func := "decorum/decorumlaw08.FeedMost", spec := "feedMost", inPlace := ["internal/bytealg.IndexByteString", "internal/bytealg.IndexString"], unfollowed := true, recurses := true, named := ["unicode/utf8.first", "unicode/utf8.acceptRanges", "decorum/date.dayNames", "decorum/date.monthNames", "internal/bytealg.MaxLen"], apart := false, laid := [("unicode/utf8.acceptRanges", laid_unicode_utf8_acceptRanges), ("decorum/date.dayNames", laid_decorum_date_dayNames), ("decorum/date.monthNames", laid_decorum_date_monthNames), ("unicode/utf8.first", laid_unicode_utf8_first)], narrowed := true }
def FeedMostUptoSaid : Prop := feedMostUptoRow.holds Tryd.pinned (OpenSpec.upto feedMostSpec)

end Rows
end Go.Proofs.YtodibjpojfipoaaDoor
