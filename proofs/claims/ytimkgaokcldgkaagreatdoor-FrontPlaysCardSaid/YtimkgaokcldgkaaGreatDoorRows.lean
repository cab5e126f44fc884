/-
  NARROWER THAN 'FOR EVERY INPUT', by the rows' own cells (each row's printed sentence says how): FrontPlays: laid · FrontNone: laid · FrontOrder: laid.
  DERIVED. THE GIVEN ROWS OF THIS SEAT. 3 by the template 'for every input the law returns true; each argument reads behind the call as it read before'; 0 by the template 'total and deterministic' (their statements: YtimkgaokcldgkaaGreatDoorTotals.lean).
  GIVEN WITH THE SEED: the statements are not yours to turn. If you find one false, say at which input.
  Laid BY PROGRAM, IN A SANDBOX (cutbox-rows.mjs): the forced cells as the released guide's own fill.sh prints them over the translation 3a4138eeb6f3f6db… (all of the seat's roots in one cut). By AI agents, Wed Nov 11 2026. No macro, syntax, notation, axiom, sorry.
-/
import Derived.Test.YtimkgaokcldgkaaGreatDoorChecked
import GoSem.Claim
import GoSem.ClaimJoined
import GoSem.ClaimMapViews
import Derived.JoinedTies
import Derived.KernelRfl
namespace Go.Proofs.YtimkgaokcldgkaaGreatDoor
/- THE CELL 'sum', in the pinned program and in every row, IS THE sha256 OF THE DUMP (.gsa) THAT YtimkgaokcldgkaaGreatDoorProg.lean LOADS. Nothing in Lean hashes anything: it is a label: what it is worth is what the hold of that sum in a sandbox is worth. -/
noncomputable def Tryz.pinned : Pinned := { name := "ytimkgaokcldgkaagreatdoor", sum := "3a4138eeb6f3f6db31c683db6aff963287a73f466f1416d7aa0468fcba65cd13", checked := Tryz.checked }
namespace Rows
def none {H : Type} : Left H := { results := [], args := [] }

/- WHAT THE LISTED PACKAGE-LEVEL VARIABLES READ AS WHEN THE CALL BEGINS. Each datum BY PROGRAM (the guide's laid-datum.mjs) off the statement by which the dump's own 'gosem.cut.vars' lays the variable. In a bare row this is a premise. The card (YtimkgaokcldgkaaGreatDoorCards.lean) ties it to the program's text. -/
def laid_decorum_spill_nowhere {H : Type} : DataW H := .agg [.lit (.int .i64 9223372036854775807), .lit (.int .i64 9223372036854775807), .lit (.int .i64 0)]

/-- 'decorumlaw17.FrontPlays': WHATEVER THE INPUT: true; the input reads as it did. -/
def frontPlaysSpec : ChangeSpec := { name := "frontPlays", fn := fun _ => fun
  | [d1, d2, d3] => { results := [.lit (.bool true)], args := [d1, d2, d3] }
  | _ => none }
def frontPlaysRow : OpenClaim := { program := "ytimkgaokcldgkaagreatdoor", sum := "3a4138eeb6f3f6db31c683db6aff963287a73f466f1416d7aa0468fcba65cd13", func := "decorum/decorumlaw17.FrontPlays", spec := "frontPlays", inPlace := ["slices.overlaps[decorum/api.Req]"], unfollowed := true, recurses := true, named := ["decorum/spill.nowhere"], apart := false, laid := [("decorum/spill.nowhere", laid_decorum_spill_nowhere)] }
def FrontPlaysSaid : Prop := frontPlaysRow.holds Tryz.pinned (OpenSpec.ofChange frontPlaysSpec)

/-- ITS FALSE NEIGHBOUR: 'it returns false'. Refute it at one input. -/
def frontPlaysWrong : ChangeSpec := { name := "frontPlays", fn := fun _ => fun
  | [d1, d2, d3] => { results := [.lit (.bool false)], args := [d1, d2, d3] }
  | _ => none }
def FrontPlaysWrongFalsely : Prop := frontPlaysRow.holds Tryz.pinned (OpenSpec.ofChange frontPlaysWrong)

/-- 'decorumlaw17.FrontNone': WHATEVER THE INPUT: true; the input reads as it did. -/
def frontNoneSpec : ChangeSpec := { name := "frontNone", fn := fun _ => fun
  | [d1, d2] => { results := [.lit (.bool true)], args := [d1, d2] }
  | _ => none }
def frontNoneRow : OpenClaim := { program := "ytimkgaokcldgkaagreatdoor", sum := "3a4138eeb6f3f6db31c683db6aff963287a73f466f1416d7aa0468fcba65cd13", func := "decorum/decorumlaw17.FrontNone", spec := "frontNone", inPlace := ["slices.overlaps[decorum/api.Req]"], unfollowed := true, recurses := true, named := ["decorum/spill.nowhere"], apart := false, laid := [("decorum/spill.nowhere", laid_decorum_spill_nowhere)] }
def FrontNoneSaid : Prop := frontNoneRow.holds Tryz.pinned (OpenSpec.ofChange frontNoneSpec)

/-- ITS FALSE NEIGHBOUR: 'it returns false'. Refute it at one input. -/
def frontNoneWrong : ChangeSpec := { name := "frontNone", fn := fun _ => fun
  | [d1, d2] => { results := [.lit (.bool false)], args := [d1, d2] }
  | _ => none }
def FrontNoneWrongFalsely : Prop := frontNoneRow.holds Tryz.pinned (OpenSpec.ofChange frontNoneWrong)

/-- 'decorumlaw17.FrontOrder': WHATEVER THE INPUT: true; the input reads as it did. -/
def frontOrderSpec : ChangeSpec := { name := "frontOrder", fn := fun _ => fun
  | [d1, d2, d3] => { results := [.lit (.bool true)], args := [d1, d2, d3] }
  | _ => none }
def frontOrderRow : OpenClaim := { program := "ytimkgaokcldgkaagreatdoor", sum := "3a4138eeb6f3f6db31c683db6aff963287a73f466f1416d7aa0468fcba65cd13", func := "decorum/decorumlaw17.FrontOrder", spec := "frontOrder", inPlace := ["slices.overlaps[decorum/api.Req]"], unfollowed := true, recurses := true, named := ["decorum/spill.nowhere"], apart := false, laid := [("decorum/spill.nowhere", laid_decorum_spill_nowhere)] }
def FrontOrderSaid : Prop := frontOrderRow.holds Tryz.pinned (OpenSpec.ofChange frontOrderSpec)

/-- ITS FALSE NEIGHBOUR: 'it returns false'. Refute it at one input. -/
def frontOrderWrong : ChangeSpec := { name := "frontOrder", fn := fun _ => fun
  | [d1, d2, d3] => { results := [.lit (.bool false)], args := [d1, d2, d3] }
  | _ => none }
def FrontOrderWrongFalsely : Prop := frontOrderRow.holds Tryz.pinned (OpenSpec.ofChange frontOrderWrong)

/- THE SECOND FORM. 'bulk': how many values and letters a reading holds, each counted each time it is reached (what is shared counts as often as it is met; a slice's spare places count too). A statement '..UptoSaid' is the law's where the arguments, and the package variables that the reading takes, are together of bulk at most 1048576: NARROWER than '..Said'. Prove '..Said' where nothing that the law and all that it calls make is longer than what came in: it says more and counts as full. Else prove '..UptoSaid'. A law counts once. -/
mutual
def uptoBulk {H : Type} : DataW H → Nat
  | .lit (.string bytes) => bytes.length + 1
  | .lit _ => 1
  | .nil => 1
  | .ptr d => uptoBulk d + 1
  | .slice elems spare => uptoBulkAll elems + uptoBulkAll spare + 1
  | .agg parts => uptoBulkAll parts + 1
  | .iface _ d => uptoBulk d + 1
  | .map entries => uptoBulkEntries entries + 1
  | .held _ => 1
def uptoBulkAll {H : Type} : List (DataW H) → Nat
  | [] => 0
  | d :: r => uptoBulk d + uptoBulkAll r
def uptoBulkEntries {H : Type} : List (Lit × DataW H) → Nat
  | [] => 0
  | x :: r => uptoBulkEntry x + uptoBulkEntries r
def uptoBulkEntry {H : Type} : Lit × DataW H → Nat
  | (.string bytes, d) => bytes.length + uptoBulk d + 1
  | (_, d) => uptoBulk d + 1
 end
def uptoSmall : (H : Type) → List (DataW H) → Bool := fun _ ds => decide (uptoBulkAll ds ≤ 1048576)
def OpenSpec.upto (s : _root_.Go.ChangeSpec) : _root_.Go.OpenSpec := { _root_.Go.OpenSpec.ofChange s with cond := some uptoSmall }

/-- 'decorumlaw17.FrontPlays', WHERE WHAT IT READS IS OF BULK AT MOST 1048576: true; the input reads as it did. -/
def frontPlaysUptoRow : OpenClaim := { program := "ytimkgaokcldgkaagreatdoor", sum := "3a4138eeb6f3f6db31c683db6aff963287a73f466f1416d7aa0468fcba65cd13", func := "decorum/decorumlaw17.FrontPlays", spec := "frontPlays", inPlace := ["slices.overlaps[decorum/api.Req]"], unfollowed := true, recurses := true, named := ["decorum/spill.nowhere"], apart := false, laid := [("decorum/spill.nowhere", laid_decorum_spill_nowhere)], narrowed := true }
def FrontPlaysUptoSaid : Prop := frontPlaysUptoRow.holds Tryz.pinned (OpenSpec.upto frontPlaysSpec)

/-- 'decorumlaw17.FrontNone', WHERE WHAT IT READS IS OF BULK AT MOST 1048576: true; the input reads as it did. -/
def frontNoneUptoRow : OpenClaim := { program := "ytimkgaokcldgkaagreatdoor", sum := "3a4138eeb6f3f6db31c683db6aff963287a73f466f1416d7aa0468fcba65cd13", func := "decorum/decorumlaw17.FrontNone", spec := "frontNone", inPlace := ["slices.overlaps[decorum/api.Req]"], unfollowed := true, recurses := true, named := ["decorum/spill.nowhere"], apart := false, laid := [("decorum/spill.nowhere", laid_decorum_spill_nowhere)], narrowed := true }
def FrontNoneUptoSaid : Prop := frontNoneUptoRow.holds Tryz.pinned (OpenSpec.upto frontNoneSpec)

/-- 'decorumlaw17.FrontOrder', WHERE WHAT IT READS IS OF BULK AT MOST 1048576: true; the input reads as it did. -/
def frontOrderUptoRow : OpenClaim := { program := "ytimkgaokcldgkaagreatdoor", sum := "3a4138eeb6f3f6db31c683db6aff963287a73f466f1416d7aa0468fcba65cd13", func := "decorum/decorumlaw17.FrontOrder", spec := "frontOrder", inPlace := ["slices.overlaps[decorum/api.Req]"], unfollowed := true, recurses := true, named := ["decorum/spill.nowhere"], apart := false, laid := [("decorum/spill.nowhere", laid_decorum_spill_nowhere)], narrowed := true }
def FrontOrderUptoSaid : Prop := frontOrderUptoRow.holds Tryz.pinned (OpenSpec.upto frontOrderSpec)

end Rows
end Go.Proofs.YtimkgaokcldgkaaGreatDoor
