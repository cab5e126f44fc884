/-
  NARROWER THAN 'FOR EVERY INPUT', by the rows' own cells (each row's printed sentence says how): FeedClasses: laid · FeedRetries: laid · FeedResets: laid · FeedWhole: laid.
  DERIVED. THE GIVEN ROWS OF THIS SEAT. 4 by the template 'for every input the law returns true; each argument reads behind the call as it read before'; 0 by the template 'total and deterministic' (their statements: YtodibjpojfipoaaGreatDoorTotals.lean).
  GIVEN WITH THE SEED: the statements are not yours to turn. If you find one false, say at which input.
  Laid BY PROGRAM, IN A SANDBOX (cutbox-rows.mjs): the forced cells as the released guide's own fill.sh prints them over the translation 467b432d5c5a0bf4… (all of the seat's roots in one cut). By AI agents, Wed Nov 11 2026. No macro, syntax, notation, axiom, sorry.
-/
import Derived.Test.YtodibjpojfipoaaGreatDoorChecked
import GoSem.PinnedTables
import GoSem.Claim
import GoSem.ClaimJoined
import GoSem.ClaimMapViews
import Derived.JoinedTies
import Derived.KernelRfl
namespace Go.Proofs.YtodibjpojfipoaaGreatDoor
/- THE CELL 'sum', in the pinned program and in every row, IS THE sha256 OF THE DUMP (.gsa) THAT YtodibjpojfipoaaGreatDoorProg.lean LOADS. Nothing in Lean hashes anything: it is a label: what it is worth is what the hold of that sum in a sandbox is worth. -/
noncomputable def Tryz.pinned : Pinned := { name := "ytodibjpojfipoaagreatdoor", sum := "467b432d5c5a0bf45943727ffb31a28961a3f6e8ddeaecebe06aaf87ce80712c", checked := Tryz.checked }
namespace Rows
def none {H : Type} : Left H := { results := [], args := [] }

/- WHAT THE LISTED PACKAGE-LEVEL VARIABLES READ AS WHEN THE CALL BEGINS. Each datum BY PROGRAM (the guide's laid-datum.mjs) off the statement by which the dump's own 'gosem.cut.vars' lays the variable. In a bare row this is a premise. The card (YtodibjpojfipoaaGreatDoorCards.lean) ties it to the program's text. -/
def laid_unicode_utf8_acceptRanges {H : Type} : DataW H := .agg [.agg [.lit (.int .u8 128), .lit (.int .u8 191)], .agg [.lit (.int .u8 160), .lit (.int .u8 191)], .agg [.lit (.int .u8 128), .lit (.int .u8 159)], .agg [.lit (.int .u8 144), .lit (.int .u8 191)], .agg [.lit (.int .u8 128), .lit (.int .u8 143)], .agg [.lit (.int .u8 0), .lit (.int .u8 0)], .agg [.lit (.int .u8 0), .lit (.int .u8 0)], .agg [.lit (.int .u8 0), .lit (.int .u8 0)], .agg [.lit (.int .u8 0), .lit (.int .u8 0)], .agg [.lit (.int .u8 0), .lit (.int .u8 0)], .agg [.lit (.int .u8 0), .lit (.int .u8 0)], .agg [.lit (.int .u8 0), .lit (.int .u8 0)], .agg [.lit (.int .u8 0), .lit (.int .u8 0)], .agg [.lit (.int .u8 0), .lit (.int .u8 0)], .agg [.lit (.int .u8 0), .lit (.int .u8 0)], .agg [.lit (.int .u8 0), .lit (.int .u8 0)]]
def laid_decorum_date_dayNames {H : Type} : DataW H := .agg [.lit (.string [77, 111, 110, 100, 97, 121]), .lit (.string [84, 117, 101, 115, 100, 97, 121]), .lit (.string [87, 101, 100, 110, 101, 115, 100, 97, 121]), .lit (.string [84, 104, 117, 114, 115, 100, 97, 121]), .lit (.string [70, 114, 105, 100, 97, 121]), .lit (.string [83, 97, 116, 117, 114, 100, 97, 121]), .lit (.string [83, 117, 110, 100, 97, 121])]
def laid_decorum_date_monthNames {H : Type} : DataW H := .agg [.lit (.string [74, 97, 110]), .lit (.string [70, 101, 98]), .lit (.string [77, 97, 114]), .lit (.string [65, 112, 114]), .lit (.string [77, 97, 121]), .lit (.string [74, 117, 110]), .lit (.string [74, 117, 108]), .lit (.string [65, 117, 103]), .lit (.string [83, 101, 112]), .lit (.string [79, 99, 116]), .lit (.string [78, 111, 118]), .lit (.string [68, 101, 99])]
/-- One of Go's own tables, pinned by name: the form's constant. -/
def laid_unicode_utf8_first : DataW Unit := Go.Pinned.utf8First

/-- 'decorumlaw08.FeedClasses': WHATEVER THE INPUT: true; the input reads as it did. -/
def feedClassesSpec : ChangeSpec := { name := "feedClasses", fn := fun _ => fun
  | [d] => { results := [.lit (.bool true)], args := [d] }
  | _ => none }
def feedClassesRow : OpenClaim := { program := "ytodibjpojfipoaagreatdoor", sum := "467b432d5c5a0bf45943727ffb31a28961a3f6e8ddeaecebe06aaf87ce80712c", func := "decorum/decorumlaw08.FeedClasses", spec := "feedClasses", inPlace := ["internal/bytealg.IndexByteString", "internal/bytealg.IndexString"], unfollowed := true, recurses := true, named := ["unicode/utf8.first", "unicode/utf8.acceptRanges", "decorum/date.dayNames", "decorum/date.monthNames", "internal/bytealg.MaxLen"], apart := false, laid := [("unicode/utf8.acceptRanges", laid_unicode_utf8_acceptRanges), ("decorum/date.dayNames", laid_decorum_date_dayNames), ("decorum/date.monthNames", laid_decorum_date_monthNames), ("unicode/utf8.first", laid_unicode_utf8_first)] }
def FeedClassesSaid : Prop := feedClassesRow.holds Tryz.pinned (OpenSpec.ofChange feedClassesSpec)

/-- ITS FALSE NEIGHBOUR: 'it returns false'. Refute it at one input. -/
def feedClassesWrong : ChangeSpec := { name := "feedClasses", fn := fun _ => fun
  | [d] => { results := [.lit (.bool false)], args := [d] }
  | _ => none }
def FeedClassesWrongFalsely : Prop := feedClassesRow.holds Tryz.pinned (OpenSpec.ofChange feedClassesWrong)

/-- 'decorumlaw08.FeedRetries': WHATEVER THE INPUT: true; the input reads as it did. -/
def feedRetriesSpec : ChangeSpec := { name := "feedRetries", fn := fun _ => fun
  | [d1, d2] => { results := [.lit (.bool true)], args := [d1, d2] }
  | _ => none }
def feedRetriesRow : OpenClaim := { program := "ytodibjpojfipoaagreatdoor", sum := "467b432d5c5a0bf45943727ffb31a28961a3f6e8ddeaecebe06aaf87ce80712c", func := "decorum/decorumlaw08.FeedRetries", spec := "feedRetries", inPlace := ["internal/bytealg.IndexByteString", "internal/bytealg.IndexString"], unfollowed := true, recurses := true, named := ["unicode/utf8.first", "unicode/utf8.acceptRanges", "decorum/date.dayNames", "decorum/date.monthNames", "internal/bytealg.MaxLen"], apart := false, laid := [("unicode/utf8.acceptRanges", laid_unicode_utf8_acceptRanges), ("decorum/date.dayNames", laid_decorum_date_dayNames), ("decorum/date.monthNames", laid_decorum_date_monthNames), ("unicode/utf8.first", laid_unicode_utf8_first)] }
def FeedRetriesSaid : Prop := feedRetriesRow.holds Tryz.pinned (OpenSpec.ofChange feedRetriesSpec)

/-- ITS FALSE NEIGHBOUR: 'it returns false'. Refute it at one input. -/
def feedRetriesWrong : ChangeSpec := { name := "feedRetries", fn := fun _ => fun
  | [d1, d2] => { results := [.lit (.bool false)], args := [d1, d2] }
  | _ => none }
def FeedRetriesWrongFalsely : Prop := feedRetriesRow.holds Tryz.pinned (OpenSpec.ofChange feedRetriesWrong)

/-- 'decorumlaw08.FeedResets': WHATEVER THE INPUT: true; the input reads as it did. -/
def feedResetsSpec : ChangeSpec := { name := "feedResets", fn := fun _ => fun
  | [d1, d2] => { results := [.lit (.bool true)], args := [d1, d2] }
  | _ => none }
def feedResetsRow : OpenClaim := { program := "ytodibjpojfipoaagreatdoor", sum := "467b432d5c5a0bf45943727ffb31a28961a3f6e8ddeaecebe06aaf87ce80712c", func := "decorum/decorumlaw08.FeedResets", spec := "feedResets", inPlace := ["internal/bytealg.IndexByteString", "internal/bytealg.IndexString"], unfollowed := true, recurses := true, named := ["unicode/utf8.first", "unicode/utf8.acceptRanges", "decorum/date.dayNames", "decorum/date.monthNames", "internal/bytealg.MaxLen"], apart := false, laid := [("unicode/utf8.acceptRanges", laid_unicode_utf8_acceptRanges), ("decorum/date.dayNames", laid_decorum_date_dayNames), ("decorum/date.monthNames", laid_decorum_date_monthNames), ("unicode/utf8.first", laid_unicode_utf8_first)] }
def FeedResetsSaid : Prop := feedResetsRow.holds Tryz.pinned (OpenSpec.ofChange feedResetsSpec)

/-- ITS FALSE NEIGHBOUR: 'it returns false'. Refute it at one input. -/
def feedResetsWrong : ChangeSpec := { name := "feedResets", fn := fun _ => fun
  | [d1, d2] => { results := [.lit (.bool false)], args := [d1, d2] }
  | _ => none }
def FeedResetsWrongFalsely : Prop := feedResetsRow.holds Tryz.pinned (OpenSpec.ofChange feedResetsWrong)

/-- 'decorumlaw08.FeedWhole': WHATEVER THE INPUT: true; the input reads as it did. -/
def feedWholeSpec : ChangeSpec := { name := "feedWhole", fn := fun _ => fun
  | [d1, d2, d3] => { results := [.lit (.bool true)], args := [d1, d2, d3] }
  | _ => none }
def feedWholeRow : OpenClaim := { program := "ytodibjpojfipoaagreatdoor", sum := "467b432d5c5a0bf45943727ffb31a28961a3f6e8ddeaecebe06aaf87ce80712c", func := "decorum/decorumlaw08.FeedWhole", spec := "feedWhole", inPlace := ["internal/bytealg.IndexByteString", "internal/bytealg.IndexString"], unfollowed := true, recurses := true, named := ["unicode/utf8.first", "unicode/utf8.acceptRanges", "decorum/date.dayNames", "decorum/date.monthNames", "internal/bytealg.MaxLen"], apart := false, laid := [("unicode/utf8.acceptRanges", laid_unicode_utf8_acceptRanges), ("decorum/date.dayNames", laid_decorum_date_dayNames), ("decorum/date.monthNames", laid_decorum_date_monthNames), ("unicode/utf8.first", laid_unicode_utf8_first)] }
def FeedWholeSaid : Prop := feedWholeRow.holds Tryz.pinned (OpenSpec.ofChange feedWholeSpec)

/-- ITS FALSE NEIGHBOUR: 'it returns false'. Refute it at one input. -/
def feedWholeWrong : ChangeSpec := { name := "feedWhole", fn := fun _ => fun
  | [d1, d2, d3] => { results := [.lit (.bool false)], args := [d1, d2, d3] }
  | _ => none }
def FeedWholeWrongFalsely : Prop := feedWholeRow.holds Tryz.pinned (OpenSpec.ofChange feedWholeWrong)

/- THE SECOND FORM. 'bulk': how many values and letters a reading holds, each counted each time it is reached (what is shared counts as often as it is met; a slice's spare places count too). A statement '..UptoSaid' is the law's where the arguments, and the package variables that the reading takes, are together of bulk at most 1048576: NARROWER than '..Said'. Prove '..Said' where nothing that the law and all that it calls make is longer than what came in: it says more and counts as full. Else prove '..UptoSaid'. A law counts once. -/
mutual
def uptoBulk {H : Type} : DataW H → Nat
  | .lit (.string bytes) => bytes.length + 1
  | .lit _ => 1
  | .nil => 1
  | .ptr d => uptoBulk d + 1
  | .slice elems spare => uptoBulkAll elems + uptoBulkAll spare + 1
  | .agg parts => uptoBulkAll parts + 1
  | .iface _ d => uptoBulk d + 1
  | .map entries => uptoBulkEntries entries + 1
  | .held _ => 1
def uptoBulkAll {H : Type} : List (DataW H) → Nat
  | [] => 0
  | d :: r => uptoBulk d + uptoBulkAll r
def uptoBulkEntries {H : Type} : List (Lit × DataW H) → Nat
  | [] => 0
  | x :: r => uptoBulkEntry x + uptoBulkEntries r
def uptoBulkEntry {H : Type} : Lit × DataW H → Nat
  | (.string bytes, d) => bytes.length + uptoBulk d + 1
  | (_, d) => uptoBulk d + 1
 end
def uptoSmall : (H : Type) → List (DataW H) → Bool := fun _ ds => decide (uptoBulkAll ds ≤ 1048576)
def OpenSpec.upto (s : _root_.Go.ChangeSpec) : _root_.Go.OpenSpec := { _root_.Go.OpenSpec.ofChange s with cond := some uptoSmall }

/-- 'decorumlaw08.FeedClasses', WHERE WHAT IT READS IS OF BULK AT MOST 1048576: true; the input reads as it did. -/
def feedClassesUptoRow : OpenClaim := { program := "ytodibjpojfipoaagreatdoor", sum := "467b432d5c5a0bf45943727ffb31a28961a3f6e8ddeaecebe06aaf87ce80712c", func := "decorum/decorumlaw08.FeedClasses", spec := "feedClasses", inPlace := ["internal/bytealg.IndexByteString", "internal/bytealg.IndexString"], unfollowed := true, recurses := true, named := ["unicode/utf8.first", "unicode/utf8.acceptRanges", "decorum/date.dayNames", "decorum/date.monthNames", "internal/bytealg.MaxLen"], apart := false, laid := [("unicode/utf8.acceptRanges", laid_unicode_utf8_acceptRanges), ("decorum/date.dayNames", laid_decorum_date_dayNames), ("decorum/date.monthNames", laid_decorum_date_monthNames), ("unicode/utf8.first", laid_unicode_utf8_first)], narrowed := true }
def FeedClassesUptoSaid : Prop := feedClassesUptoRow.holds Tryz.pinned (OpenSpec.upto feedClassesSpec)

/-- 'decorumlaw08.FeedRetries', WHERE WHAT IT READS IS OF BULK AT MOST 1048576: true; the input reads as it did. -/
def feedRetriesUptoRow : OpenClaim := { program := "ytodibjpojfipoaagreatdoor", sum := "467b432d5c5a0bf45943727ffb31a28961a3f6e8ddeaecebe06aaf87ce80712c", func := "decorum/decorumlaw08.FeedRetries", spec := "feedRetries", inPlace := ["internal/bytealg.IndexByteString", "internal/bytealg.IndexString"], unfollowed := true, recurses := true, named := ["unicode/utf8.first", "unicode/utf8.acceptRanges", "decorum/date.dayNames", "decorum/date.monthNames", "internal/bytealg.MaxLen"], apart := false, laid := [("unicode/utf8.acceptRanges", laid_unicode_utf8_acceptRanges), ("decorum/date.dayNames", laid_decorum_date_dayNames), ("decorum/date.monthNames", laid_decorum_date_monthNames), ("unicode/utf8.first", laid_unicode_utf8_first)], narrowed := true }
def FeedRetriesUptoSaid : Prop := feedRetriesUptoRow.holds Tryz.pinned (OpenSpec.upto feedRetriesSpec)

/-- 'decorumlaw08.FeedResets', WHERE WHAT IT READS IS OF BULK AT MOST 1048576: true; the input reads as it did. -/
def feedResetsUptoRow : OpenClaim := { program := "ytodibjpojfipoaagreatdoor", sum := "467b432d5c5a0bf45943727ffb31a28961a3f6e8ddeaecebe06aaf87ce80712c", func := "decorum/decorumlaw08.FeedResets", spec := "feedResets", inPlace := ["internal/bytealg.IndexByteString", "internal/bytealg.IndexString"], unfollowed := true, recurses := true, named := ["unicode/utf8.first", "unicode/utf8.acceptRanges", "decorum/date.dayNames", "decorum/date.monthNames", "internal/bytealg.MaxLen"], apart := false, laid := [("unicode/utf8.acceptRanges", laid_unicode_utf8_acceptRanges), ("decorum/date.dayNames", laid_decorum_date_dayNames), ("decorum/date.monthNames", laid_decorum_date_monthNames), ("unicode/utf8.first", laid_unicode_utf8_first)], narrowed := true }
def FeedResetsUptoSaid : Prop := feedResetsUptoRow.holds Tryz.pinned (OpenSpec.upto feedResetsSpec)

/-- 'decorumlaw08.FeedWhole', WHERE WHAT IT READS IS OF BULK AT MOST 1048576: true; the input reads as it did. -/
def feedWholeUptoRow : OpenClaim := { program := "ytodibjpojfipoaagreatdoor", sum := "467b432d5c5a0bf45943727ffb31a28961a3f6e8ddeaecebe06aaf87ce80712c", func := "decorum/decorumlaw08.FeedWhole", spec := "feedWhole", inPlace := ["internal/bytealg.IndexByteString", "internal/bytealg.IndexString"], unfollowed := true, recurses := true, named := ["unicode/utf8.first", "unicode/utf8.acceptRanges", "decorum/date.dayNames", "decorum/date.monthNames", "internal/bytealg.MaxLen"], apart := false, laid := [("unicode/utf8.acceptRanges", laid_unicode_utf8_acceptRanges), ("decorum/date.dayNames", laid_decorum_date_dayNames), ("decorum/date.monthNames", laid_decorum_date_monthNames), ("unicode/utf8.first", laid_unicode_utf8_first)], narrowed := true }
def FeedWholeUptoSaid : Prop := feedWholeUptoRow.holds Tryz.pinned (OpenSpec.upto feedWholeSpec)

end Rows
end Go.Proofs.YtodibjpojfipoaaGreatDoor
