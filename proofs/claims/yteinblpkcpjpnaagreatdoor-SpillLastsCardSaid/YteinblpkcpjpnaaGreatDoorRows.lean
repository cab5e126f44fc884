/-
  NARROWER THAN 'FOR EVERY INPUT', by the rows' own cells (each row's printed sentence says how): SpillLasts: laid · SpillWaits: laid · SpillNone: laid · SpillCompacts: laid · SpillNext: laid.
  DERIVED. THE GIVEN ROWS OF THIS SEAT. 5 by the template 'for every input the law returns true; each argument reads behind the call as it read before'; 0 by the template 'total and deterministic' (their statements: YteinblpkcpjpnaaGreatDoorTotals.lean).
  GIVEN WITH THE SEED: the statements are not yours to turn. If you find one false, say at which input.
  Laid BY PROGRAM, IN A SANDBOX (cutbox-rows.mjs): the forced cells as the released guide's own fill.sh prints them over the translation 763c76d65379ae7e… (all of the seat's roots in one cut). By AI agents, Wed Nov 11 2026. No macro, syntax, notation, axiom, sorry.
-/
import Derived.Test.YteinblpkcpjpnaaGreatDoorChecked
import GoSem.Claim
import GoSem.ClaimJoined
import GoSem.ClaimMapViews
import Derived.JoinedTies
import Derived.KernelRfl
namespace Go.Proofs.YteinblpkcpjpnaaGreatDoor
/- THE CELL 'sum', in the pinned program and in every row, IS THE sha256 OF THE DUMP (.gsa) THAT YteinblpkcpjpnaaGreatDoorProg.lean LOADS. Nothing in Lean hashes anything: it is a label: what it is worth is what the hold of that sum in a sandbox is worth. -/
noncomputable def Tryz.pinned : Pinned := { name := "yteinblpkcpjpnaagreatdoor", sum := "763c76d65379ae7e9c2ab1f2af5ef7ec215bcc9fdac2101c1c47e0e540e357bf", checked := Tryz.checked }
namespace Rows
def none {H : Type} : Left H := { results := [], args := [] }

/- WHAT THE LISTED PACKAGE-LEVEL VARIABLES READ AS WHEN THE CALL BEGINS. Each datum BY PROGRAM (the guide's laid-datum.mjs) off the statement by which the dump's own 'gosem.cut.vars' lays the variable. In a bare row this is a premise. The card (YteinblpkcpjpnaaGreatDoorCards.lean) ties it to the program's text. -/
def laid_decorum_spill_nowhere {H : Type} : DataW H := .agg [.lit (.int .i64 9223372036854775807), .lit (.int .i64 9223372036854775807), .lit (.int .i64 0)]

/-- 'decorumlaw15.SpillLasts': WHATEVER THE INPUT: true; the input reads as it did. -/
def spillLastsSpec : ChangeSpec := { name := "spillLasts", fn := fun _ => fun
  | [d1, d2] => { results := [.lit (.bool true)], args := [d1, d2] }
  | _ => none }
def spillLastsRow : OpenClaim := { program := "yteinblpkcpjpnaagreatdoor", sum := "763c76d65379ae7e9c2ab1f2af5ef7ec215bcc9fdac2101c1c47e0e540e357bf", func := "decorum/decorumlaw15.SpillLasts", spec := "spillLasts", unfollowed := true, recurses := true, named := ["decorum/spill.nowhere"], apart := false, laid := [("decorum/spill.nowhere", laid_decorum_spill_nowhere)] }
def SpillLastsSaid : Prop := spillLastsRow.holds Tryz.pinned (OpenSpec.ofChange spillLastsSpec)

/-- ITS FALSE NEIGHBOUR: 'it returns false'. Refute it at one input. -/
def spillLastsWrong : ChangeSpec := { name := "spillLasts", fn := fun _ => fun
  | [d1, d2] => { results := [.lit (.bool false)], args := [d1, d2] }
  | _ => none }
def SpillLastsWrongFalsely : Prop := spillLastsRow.holds Tryz.pinned (OpenSpec.ofChange spillLastsWrong)

/-- 'decorumlaw15.SpillWaits': WHATEVER THE INPUT: true; the input reads as it did. -/
def spillWaitsSpec : ChangeSpec := { name := "spillWaits", fn := fun _ => fun
  | [d1, d2, d3] => { results := [.lit (.bool true)], args := [d1, d2, d3] }
  | _ => none }
def spillWaitsRow : OpenClaim := { program := "yteinblpkcpjpnaagreatdoor", sum := "763c76d65379ae7e9c2ab1f2af5ef7ec215bcc9fdac2101c1c47e0e540e357bf", func := "decorum/decorumlaw15.SpillWaits", spec := "spillWaits", unfollowed := true, recurses := true, named := ["decorum/spill.nowhere"], apart := false, laid := [("decorum/spill.nowhere", laid_decorum_spill_nowhere)] }
def SpillWaitsSaid : Prop := spillWaitsRow.holds Tryz.pinned (OpenSpec.ofChange spillWaitsSpec)

/-- ITS FALSE NEIGHBOUR: 'it returns false'. Refute it at one input. -/
def spillWaitsWrong : ChangeSpec := { name := "spillWaits", fn := fun _ => fun
  | [d1, d2, d3] => { results := [.lit (.bool false)], args := [d1, d2, d3] }
  | _ => none }
def SpillWaitsWrongFalsely : Prop := spillWaitsRow.holds Tryz.pinned (OpenSpec.ofChange spillWaitsWrong)

/-- 'decorumlaw15.SpillNone': WHATEVER THE INPUT: true; the input reads as it did. -/
def spillNoneSpec : ChangeSpec := { name := "spillNone", fn := fun _ => fun
  | [d1, d2] => { results := [.lit (.bool true)], args := [d1, d2] }
  | _ => none }
def spillNoneRow : OpenClaim := { program := "yteinblpkcpjpnaagreatdoor", sum := "763c76d65379ae7e9c2ab1f2af5ef7ec215bcc9fdac2101c1c47e0e540e357bf", func := "decorum/decorumlaw15.SpillNone", spec := "spillNone", unfollowed := true, recurses := true, named := ["decorum/spill.nowhere"], apart := false, laid := [("decorum/spill.nowhere", laid_decorum_spill_nowhere)] }
def SpillNoneSaid : Prop := spillNoneRow.holds Tryz.pinned (OpenSpec.ofChange spillNoneSpec)

/-- ITS FALSE NEIGHBOUR: 'it returns false'. Refute it at one input. -/
def spillNoneWrong : ChangeSpec := { name := "spillNone", fn := fun _ => fun
  | [d1, d2] => { results := [.lit (.bool false)], args := [d1, d2] }
  | _ => none }
def SpillNoneWrongFalsely : Prop := spillNoneRow.holds Tryz.pinned (OpenSpec.ofChange spillNoneWrong)

/-- 'decorumlaw15.SpillCompacts': WHATEVER THE INPUT: true; the input reads as it did. -/
def spillCompactsSpec : ChangeSpec := { name := "spillCompacts", fn := fun _ => fun
  | [d1, d2, d3, d4] => { results := [.lit (.bool true)], args := [d1, d2, d3, d4] }
  | _ => none }
def spillCompactsRow : OpenClaim := { program := "yteinblpkcpjpnaagreatdoor", sum := "763c76d65379ae7e9c2ab1f2af5ef7ec215bcc9fdac2101c1c47e0e540e357bf", func := "decorum/decorumlaw15.SpillCompacts", spec := "spillCompacts", unfollowed := true, recurses := true, named := ["decorum/spill.nowhere"], apart := false, laid := [("decorum/spill.nowhere", laid_decorum_spill_nowhere)] }
def SpillCompactsSaid : Prop := spillCompactsRow.holds Tryz.pinned (OpenSpec.ofChange spillCompactsSpec)

/-- ITS FALSE NEIGHBOUR: 'it returns false'. Refute it at one input. -/
def spillCompactsWrong : ChangeSpec := { name := "spillCompacts", fn := fun _ => fun
  | [d1, d2, d3, d4] => { results := [.lit (.bool false)], args := [d1, d2, d3, d4] }
  | _ => none }
def SpillCompactsWrongFalsely : Prop := spillCompactsRow.holds Tryz.pinned (OpenSpec.ofChange spillCompactsWrong)

/-- 'decorumlaw15.SpillNext': WHATEVER THE INPUT: true; the input reads as it did. -/
def spillNextSpec : ChangeSpec := { name := "spillNext", fn := fun _ => fun
  | [d] => { results := [.lit (.bool true)], args := [d] }
  | _ => none }
def spillNextRow : OpenClaim := { program := "yteinblpkcpjpnaagreatdoor", sum := "763c76d65379ae7e9c2ab1f2af5ef7ec215bcc9fdac2101c1c47e0e540e357bf", func := "decorum/decorumlaw15.SpillNext", spec := "spillNext", unfollowed := true, recurses := true, named := ["decorum/spill.nowhere"], apart := false, laid := [("decorum/spill.nowhere", laid_decorum_spill_nowhere)] }
def SpillNextSaid : Prop := spillNextRow.holds Tryz.pinned (OpenSpec.ofChange spillNextSpec)

/-- ITS FALSE NEIGHBOUR: 'it returns false'. Refute it at one input. -/
def spillNextWrong : ChangeSpec := { name := "spillNext", fn := fun _ => fun
  | [d] => { results := [.lit (.bool false)], args := [d] }
  | _ => none }
def SpillNextWrongFalsely : Prop := spillNextRow.holds Tryz.pinned (OpenSpec.ofChange spillNextWrong)

/- THE SECOND FORM. 'bulk': how many values and letters a reading holds, each counted each time it is reached (what is shared counts as often as it is met; a slice's spare places count too). A statement '..UptoSaid' is the law's where the arguments, and the package variables that the reading takes, are together of bulk at most 1048576: NARROWER than '..Said'. Prove '..Said' where nothing that the law and all that it calls make is longer than what came in: it says more and counts as full. Else prove '..UptoSaid'. A law counts once. -/
mutual
def uptoBulk {H : Type} : DataW H → Nat
  | .lit (.string bytes) => bytes.length + 1
  | .lit _ => 1
  | .nil => 1
  | .ptr d => uptoBulk d + 1
  | .slice elems spare => uptoBulkAll elems + uptoBulkAll spare + 1
  | .agg parts => uptoBulkAll parts + 1
  | .iface _ d => uptoBulk d + 1
  | .map entries => uptoBulkEntries entries + 1
  | .held _ => 1
def uptoBulkAll {H : Type} : List (DataW H) → Nat
  | [] => 0
  | d :: r => uptoBulk d + uptoBulkAll r
def uptoBulkEntries {H : Type} : List (Lit × DataW H) → Nat
  | [] => 0
  | x :: r => uptoBulkEntry x + uptoBulkEntries r
def uptoBulkEntry {H : Type} : Lit × DataW H → Nat
  | (.string bytes, d) => bytes.length + uptoBulk d + 1
  | (_, d) => uptoBulk d + 1
 end
def uptoSmall : (H : Type) → List (DataW H) → Bool := fun _ ds => decide (uptoBulkAll ds ≤ 1048576)
def OpenSpec.upto (s : _root_.Go.ChangeSpec) : _root_.Go.OpenSpec := { _root_.Go.OpenSpec.ofChange s with cond := some uptoSmall }

/-- 'decorumlaw15.SpillLasts', WHERE WHAT IT READS IS OF BULK AT MOST 1048576: true; the input reads as it did. -/
def spillLastsUptoRow : OpenClaim := { program := "yteinblpkcpjpnaagreatdoor", sum := "763c76d65379ae7e9c2ab1f2af5ef7ec215bcc9fdac2101c1c47e0e540e357bf", func := "decorum/decorumlaw15.SpillLasts", spec := "spillLasts", unfollowed := true, recurses := true, named := ["decorum/spill.nowhere"], apart := false, laid := [("decorum/spill.nowhere", laid_decorum_spill_nowhere)], narrowed := true }
def SpillLastsUptoSaid : Prop := spillLastsUptoRow.holds Tryz.pinned (OpenSpec.upto spillLastsSpec)

/-- 'decorumlaw15.SpillWaits', WHERE WHAT IT READS IS OF BULK AT MOST 1048576: true; the input reads as it did. -/
def spillWaitsUptoRow : OpenClaim := { program := "yteinblpkcpjpnaagreatdoor", sum := "763c76d65379ae7e9c2ab1f2af5ef7ec215bcc9fdac2101c1c47e0e540e357bf", func := "decorum/decorumlaw15.SpillWaits", spec := "spillWaits", unfollowed := true, recurses := true, named := ["decorum/spill.nowhere"], apart := false, laid := [("decorum/spill.nowhere", laid_decorum_spill_nowhere)], narrowed := true }
def SpillWaitsUptoSaid : Prop := spillWaitsUptoRow.holds Tryz.pinned (OpenSpec.upto spillWaitsSpec)

/-- 'decorumlaw15.SpillNone', WHERE WHAT IT READS IS OF BULK AT MOST 1048576: true; the input reads as it did. -/
def spillNoneUptoRow : OpenClaim := { program := "yteinblpkcpjpnaagreatdoor", sum := "763c76d65379ae7e9c2ab1f2af5ef7ec215bcc9fdac2101c1c47e0e540e357bf", func := "decorum/decorumlaw15.SpillNone", spec := "spillNone", unfollowed := true, recurses := true, named := ["decorum/spill.nowhere"], apart := false, laid := [("decorum/spill.nowhere", laid_decorum_spill_nowhere)], narrowed := true }
def SpillNoneUptoSaid : Prop := spillNoneUptoRow.holds Tryz.pinned (OpenSpec.upto spillNoneSpec)

/-- 'decorumlaw15.SpillCompacts', WHERE WHAT IT READS IS OF BULK AT MOST 1048576: true; the input reads as it did. -/
def spillCompactsUptoRow : OpenClaim := { program := "yteinblpkcpjpnaagreatdoor", sum := "763c76d65379ae7e9c2ab1f2af5ef7ec215bcc9fdac2101c1c47e0e540e357bf", func := "decorum/decorumlaw15.SpillCompacts", spec := "spillCompacts", unfollowed := true, recurses := true, named := ["decorum/spill.nowhere"], apart := false, laid := [("decorum/spill.nowhere", laid_decorum_spill_nowhere)], narrowed := true }
def SpillCompactsUptoSaid : Prop := spillCompactsUptoRow.holds Tryz.pinned (OpenSpec.upto spillCompactsSpec)

/-- 'decorumlaw15.SpillNext', WHERE WHAT IT READS IS OF BULK AT MOST 1048576: true; the input reads as it did. -/
def spillNextUptoRow : OpenClaim := { program := "yteinblpkcpjpnaagreatdoor", sum := "763c76d65379ae7e9c2ab1f2af5ef7ec215bcc9fdac2101c1c47e0e540e357bf", func := "decorum/decorumlaw15.SpillNext", spec := "spillNext", unfollowed := true, recurses := true, named := ["decorum/spill.nowhere"], apart := false, laid := [("decorum/spill.nowhere", laid_decorum_spill_nowhere)], narrowed := true }
def SpillNextUptoSaid : Prop := spillNextUptoRow.holds Tryz.pinned (OpenSpec.upto spillNextSpec)

end Rows
end Go.Proofs.YteinblpkcpjpnaaGreatDoor
