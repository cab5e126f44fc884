/-
  No cell of these rows narrows 'for every input' (looked for: loops, veiled, ifaces, maps, wideKeys, modest, calm, conditions, laid).
  DERIVED. THE GIVEN ROWS OF THIS SEAT. 11 by the template 'for every input the law returns true; each argument reads behind the call as it read before'; 0 by the template 'total and deterministic' (their statements: YtelakgbpfnlpiaaTotals.lean).
  GIVEN WITH THE SEED: the statements are not yours to turn. If you find one false, say at which input.
  Laid BY PROGRAM, IN A SANDBOX (cutbox-rows.mjs): the forced cells as the released guide's own fill.sh prints them over the translation 90918fa30c22b0b9… (all of the seat's roots in one cut). By AI agents, Wed Nov 11 2026. No macro, syntax, notation, axiom, sorry.
-/
import Derived.Test.YtelakgbpfnlpiaaChecked
import GoSem.Claim
import GoSem.ClaimJoined
import GoSem.ClaimMapViews
import Derived.JoinedTies
import Derived.KernelRfl
namespace Go.Proofs.Ytelakgbpfnlpiaa
/- THE CELL 'sum', in the pinned program and in every row, IS THE sha256 OF THE DUMP (.gsa) THAT YtelakgbpfnlpiaaProg.lean LOADS. Nothing in Lean hashes anything: it is a label: what it is worth is what the hold of that sum in a sandbox is worth. -/
noncomputable def Try.pinned : Pinned := { name := "ytelakgbpfnlpiaa", sum := "90918fa30c22b0b908eb33758fcb4955dcaf49c0cfd4a49c15660d593208c34d", checked := Try.checked }
namespace Rows
def none {H : Type} : Left H := { results := [], args := [] }

/-- 'decorumlaw20.PolicyEligible': WHATEVER THE INPUT: true; the input reads as it did. -/
def policyEligibleSpec : ChangeSpec := { name := "policyEligible", fn := fun _ => fun
  | [d1, d2] => { results := [.lit (.bool true)], args := [d1, d2] }
  | _ => none }
def policyEligibleRow : OpenClaim := { program := "ytelakgbpfnlpiaa", sum := "90918fa30c22b0b908eb33758fcb4955dcaf49c0cfd4a49c15660d593208c34d", func := "decorum/decorumlaw20.PolicyEligible", spec := "policyEligible", apart := false }
def PolicyEligibleSaid : Prop := policyEligibleRow.holds Try.pinned (OpenSpec.ofChange policyEligibleSpec)

/-- ITS FALSE NEIGHBOUR: 'it returns false'. Refute it at one input. -/
def policyEligibleWrong : ChangeSpec := { name := "policyEligible", fn := fun _ => fun
  | [d1, d2] => { results := [.lit (.bool false)], args := [d1, d2] }
  | _ => none }
def PolicyEligibleWrongFalsely : Prop := policyEligibleRow.holds Try.pinned (OpenSpec.ofChange policyEligibleWrong)

/-- 'decorumlaw20.PolicySends': WHATEVER THE INPUT: true; the input reads as it did. -/
def policySendsSpec : ChangeSpec := { name := "policySends", fn := fun _ => fun
  | [d1, d2, d3] => { results := [.lit (.bool true)], args := [d1, d2, d3] }
  | _ => none }
def policySendsRow : OpenClaim := { program := "ytelakgbpfnlpiaa", sum := "90918fa30c22b0b908eb33758fcb4955dcaf49c0cfd4a49c15660d593208c34d", func := "decorum/decorumlaw20.PolicySends", spec := "policySends", apart := false }
def PolicySendsSaid : Prop := policySendsRow.holds Try.pinned (OpenSpec.ofChange policySendsSpec)

/-- ITS FALSE NEIGHBOUR: 'it returns false'. Refute it at one input. -/
def policySendsWrong : ChangeSpec := { name := "policySends", fn := fun _ => fun
  | [d1, d2, d3] => { results := [.lit (.bool false)], args := [d1, d2, d3] }
  | _ => none }
def PolicySendsWrongFalsely : Prop := policySendsRow.holds Try.pinned (OpenSpec.ofChange policySendsWrong)

/-- 'decorumlaw20.PolicyAnswers': WHATEVER THE INPUT: true; the input reads as it did. -/
def policyAnswersSpec : ChangeSpec := { name := "policyAnswers", fn := fun _ => fun
  | [d1, d2, d3, d4, d5] => { results := [.lit (.bool true)], args := [d1, d2, d3, d4, d5] }
  | _ => none }
def policyAnswersRow : OpenClaim := { program := "ytelakgbpfnlpiaa", sum := "90918fa30c22b0b908eb33758fcb4955dcaf49c0cfd4a49c15660d593208c34d", func := "decorum/decorumlaw20.PolicyAnswers", spec := "policyAnswers", apart := false }
def PolicyAnswersSaid : Prop := policyAnswersRow.holds Try.pinned (OpenSpec.ofChange policyAnswersSpec)

/-- ITS FALSE NEIGHBOUR: 'it returns false'. Refute it at one input. -/
def policyAnswersWrong : ChangeSpec := { name := "policyAnswers", fn := fun _ => fun
  | [d1, d2, d3, d4, d5] => { results := [.lit (.bool false)], args := [d1, d2, d3, d4, d5] }
  | _ => none }
def PolicyAnswersWrongFalsely : Prop := policyAnswersRow.holds Try.pinned (OpenSpec.ofChange policyAnswersWrong)

/-- 'decorumlaw20.PolicyLearns': WHATEVER THE INPUT: true; the input reads as it did. -/
def policyLearnsSpec : ChangeSpec := { name := "policyLearns", fn := fun _ => fun
  | [d1, d2, d3, d4, d5, d6] => { results := [.lit (.bool true)], args := [d1, d2, d3, d4, d5, d6] }
  | _ => none }
def policyLearnsRow : OpenClaim := { program := "ytelakgbpfnlpiaa", sum := "90918fa30c22b0b908eb33758fcb4955dcaf49c0cfd4a49c15660d593208c34d", func := "decorum/decorumlaw20.PolicyLearns", spec := "policyLearns", apart := false }
def PolicyLearnsSaid : Prop := policyLearnsRow.holds Try.pinned (OpenSpec.ofChange policyLearnsSpec)

/-- ITS FALSE NEIGHBOUR: 'it returns false'. Refute it at one input. -/
def policyLearnsWrong : ChangeSpec := { name := "policyLearns", fn := fun _ => fun
  | [d1, d2, d3, d4, d5, d6] => { results := [.lit (.bool false)], args := [d1, d2, d3, d4, d5, d6] }
  | _ => none }
def PolicyLearnsWrongFalsely : Prop := policyLearnsRow.holds Try.pinned (OpenSpec.ofChange policyLearnsWrong)

/-- 'decorumlaw20.PolicyPolite': WHATEVER THE INPUT: true; the input reads as it did. -/
def policyPoliteSpec : ChangeSpec := { name := "policyPolite", fn := fun _ => fun
  | [d1, d2, d3] => { results := [.lit (.bool true)], args := [d1, d2, d3] }
  | _ => none }
def policyPoliteRow : OpenClaim := { program := "ytelakgbpfnlpiaa", sum := "90918fa30c22b0b908eb33758fcb4955dcaf49c0cfd4a49c15660d593208c34d", func := "decorum/decorumlaw20.PolicyPolite", spec := "policyPolite", apart := false }
def PolicyPoliteSaid : Prop := policyPoliteRow.holds Try.pinned (OpenSpec.ofChange policyPoliteSpec)

/-- ITS FALSE NEIGHBOUR: 'it returns false'. Refute it at one input. -/
def policyPoliteWrong : ChangeSpec := { name := "policyPolite", fn := fun _ => fun
  | [d1, d2, d3] => { results := [.lit (.bool false)], args := [d1, d2, d3] }
  | _ => none }
def PolicyPoliteWrongFalsely : Prop := policyPoliteRow.holds Try.pinned (OpenSpec.ofChange policyPoliteWrong)

/-- 'decorumlaw20.PolicyCalm': WHATEVER THE INPUT: true; the input reads as it did. -/
def policyCalmSpec : ChangeSpec := { name := "policyCalm", fn := fun _ => fun
  | [d1, d2, d3, d4] => { results := [.lit (.bool true)], args := [d1, d2, d3, d4] }
  | _ => none }
def policyCalmRow : OpenClaim := { program := "ytelakgbpfnlpiaa", sum := "90918fa30c22b0b908eb33758fcb4955dcaf49c0cfd4a49c15660d593208c34d", func := "decorum/decorumlaw20.PolicyCalm", spec := "policyCalm", apart := false }
def PolicyCalmSaid : Prop := policyCalmRow.holds Try.pinned (OpenSpec.ofChange policyCalmSpec)

/-- ITS FALSE NEIGHBOUR: 'it returns false'. Refute it at one input. -/
def policyCalmWrong : ChangeSpec := { name := "policyCalm", fn := fun _ => fun
  | [d1, d2, d3, d4] => { results := [.lit (.bool false)], args := [d1, d2, d3, d4] }
  | _ => none }
def PolicyCalmWrongFalsely : Prop := policyCalmRow.holds Try.pinned (OpenSpec.ofChange policyCalmWrong)

/-- 'decorumlaw22.AuditGaps': WHATEVER THE INPUT: true; the input reads as it did. -/
def auditGapsSpec : ChangeSpec := { name := "auditGaps", fn := fun _ => fun
  | [d1, d2] => { results := [.lit (.bool true)], args := [d1, d2] }
  | _ => none }
def auditGapsRow : OpenClaim := { program := "ytelakgbpfnlpiaa", sum := "90918fa30c22b0b908eb33758fcb4955dcaf49c0cfd4a49c15660d593208c34d", func := "decorum/decorumlaw22.AuditGaps", spec := "auditGaps", apart := false }
def AuditGapsSaid : Prop := auditGapsRow.holds Try.pinned (OpenSpec.ofChange auditGapsSpec)

/-- ITS FALSE NEIGHBOUR: 'it returns false'. Refute it at one input. -/
def auditGapsWrong : ChangeSpec := { name := "auditGaps", fn := fun _ => fun
  | [d1, d2] => { results := [.lit (.bool false)], args := [d1, d2] }
  | _ => none }
def AuditGapsWrongFalsely : Prop := auditGapsRow.holds Try.pinned (OpenSpec.ofChange auditGapsWrong)

/-- 'decorumlaw22.AuditRates': WHATEVER THE INPUT: true; the input reads as it did. -/
def auditRatesSpec : ChangeSpec := { name := "auditRates", fn := fun _ => fun
  | [d1, d2, d3] => { results := [.lit (.bool true)], args := [d1, d2, d3] }
  | _ => none }
def auditRatesRow : OpenClaim := { program := "ytelakgbpfnlpiaa", sum := "90918fa30c22b0b908eb33758fcb4955dcaf49c0cfd4a49c15660d593208c34d", func := "decorum/decorumlaw22.AuditRates", spec := "auditRates", apart := false }
def AuditRatesSaid : Prop := auditRatesRow.holds Try.pinned (OpenSpec.ofChange auditRatesSpec)

/-- ITS FALSE NEIGHBOUR: 'it returns false'. Refute it at one input. -/
def auditRatesWrong : ChangeSpec := { name := "auditRates", fn := fun _ => fun
  | [d1, d2, d3] => { results := [.lit (.bool false)], args := [d1, d2, d3] }
  | _ => none }
def AuditRatesWrongFalsely : Prop := auditRatesRow.holds Try.pinned (OpenSpec.ofChange auditRatesWrong)

/-- 'decorumlaw22.AuditCounts': WHATEVER THE INPUT: true; the input reads as it did. -/
def auditCountsSpec : ChangeSpec := { name := "auditCounts", fn := fun _ => fun
  | [d] => { results := [.lit (.bool true)], args := [d] }
  | _ => none }
def auditCountsRow : OpenClaim := { program := "ytelakgbpfnlpiaa", sum := "90918fa30c22b0b908eb33758fcb4955dcaf49c0cfd4a49c15660d593208c34d", func := "decorum/decorumlaw22.AuditCounts", spec := "auditCounts", apart := false }
def AuditCountsSaid : Prop := auditCountsRow.holds Try.pinned (OpenSpec.ofChange auditCountsSpec)

/-- ITS FALSE NEIGHBOUR: 'it returns false'. Refute it at one input. -/
def auditCountsWrong : ChangeSpec := { name := "auditCounts", fn := fun _ => fun
  | [d] => { results := [.lit (.bool false)], args := [d] }
  | _ => none }
def AuditCountsWrongFalsely : Prop := auditCountsRow.holds Try.pinned (OpenSpec.ofChange auditCountsWrong)

/-- 'decorumlaw22.AuditLess': WHATEVER THE INPUT: true; the input reads as it did. -/
def auditLessSpec : ChangeSpec := { name := "auditLess", fn := fun _ => fun
  | [d1, d2, d3, d4, d5] => { results := [.lit (.bool true)], args := [d1, d2, d3, d4, d5] }
  | _ => none }
def auditLessRow : OpenClaim := { program := "ytelakgbpfnlpiaa", sum := "90918fa30c22b0b908eb33758fcb4955dcaf49c0cfd4a49c15660d593208c34d", func := "decorum/decorumlaw22.AuditLess", spec := "auditLess", apart := false }
def AuditLessSaid : Prop := auditLessRow.holds Try.pinned (OpenSpec.ofChange auditLessSpec)

/-- ITS FALSE NEIGHBOUR: 'it returns false'. Refute it at one input. -/
def auditLessWrong : ChangeSpec := { name := "auditLess", fn := fun _ => fun
  | [d1, d2, d3, d4, d5] => { results := [.lit (.bool false)], args := [d1, d2, d3, d4, d5] }
  | _ => none }
def AuditLessWrongFalsely : Prop := auditLessRow.holds Try.pinned (OpenSpec.ofChange auditLessWrong)

/-- 'decorumlaw22.AuditApart': WHATEVER THE INPUT: true; the input reads as it did. -/
def auditApartSpec : ChangeSpec := { name := "auditApart", fn := fun _ => fun
  | [d1, d2, d3] => { results := [.lit (.bool true)], args := [d1, d2, d3] }
  | _ => none }
def auditApartRow : OpenClaim := { program := "ytelakgbpfnlpiaa", sum := "90918fa30c22b0b908eb33758fcb4955dcaf49c0cfd4a49c15660d593208c34d", func := "decorum/decorumlaw22.AuditApart", spec := "auditApart", apart := false }
def AuditApartSaid : Prop := auditApartRow.holds Try.pinned (OpenSpec.ofChange auditApartSpec)

/-- ITS FALSE NEIGHBOUR: 'it returns false'. Refute it at one input. -/
def auditApartWrong : ChangeSpec := { name := "auditApart", fn := fun _ => fun
  | [d1, d2, d3] => { results := [.lit (.bool false)], args := [d1, d2, d3] }
  | _ => none }
def AuditApartWrongFalsely : Prop := auditApartRow.holds Try.pinned (OpenSpec.ofChange auditApartWrong)

/- THE SECOND FORM. 'bulk': how many values and letters a reading holds, each counted each time it is reached (what is shared counts as often as it is met; a slice's spare places count too). A statement '..UptoSaid' is the law's where the arguments, and the package variables that the reading takes, are together of bulk at most 1048576: NARROWER than '..Said'. Prove '..Said' where nothing that the law and all that it calls make is longer than what came in: it says more and counts as full. Else prove '..UptoSaid'. A law counts once. -/
mutual
def uptoBulk {H : Type} : DataW H → Nat
  | .lit (.string bytes) => bytes.length + 1
  | .lit _ => 1
  | .nil => 1
  | .ptr d => uptoBulk d + 1
  | .slice elems spare => uptoBulkAll elems + uptoBulkAll spare + 1
  | .agg parts => uptoBulkAll parts + 1
  | .iface _ d => uptoBulk d + 1
  | .map entries => uptoBulkEntries entries + 1
  | .held _ => 1
def uptoBulkAll {H : Type} : List (DataW H) → Nat
  | [] => 0
  | d :: r => uptoBulk d + uptoBulkAll r
def uptoBulkEntries {H : Type} : List (Lit × DataW H) → Nat
  | [] => 0
  | x :: r => uptoBulkEntry x + uptoBulkEntries r
def uptoBulkEntry {H : Type} : Lit × DataW H → Nat
  | (.string bytes, d) => bytes.length + uptoBulk d + 1
  | (_, d) => uptoBulk d + 1
 end
def uptoSmall : (H : Type) → List (DataW H) → Bool := fun _ ds => decide (uptoBulkAll ds ≤ 1048576)
def OpenSpec.upto (s : _root_.Go.ChangeSpec) : _root_.Go.OpenSpec := { _root_.Go.OpenSpec.ofChange s with cond := some uptoSmall }

/-- 'decorumlaw20.PolicyEligible', WHERE WHAT IT READS IS OF BULK AT MOST 1048576: true; the input reads as it did. -/
def policyEligibleUptoRow : OpenClaim := { program := "ytelakgbpfnlpiaa", sum := "90918fa30c22b0b908eb33758fcb4955dcaf49c0cfd4a49c15660d593208c34d", func := "decorum/decorumlaw20.PolicyEligible", spec := "policyEligible", apart := false, narrowed := true }
def PolicyEligibleUptoSaid : Prop := policyEligibleUptoRow.holds Try.pinned (OpenSpec.upto policyEligibleSpec)

/-- 'decorumlaw20.PolicySends', WHERE WHAT IT READS IS OF BULK AT MOST 1048576: true; the input reads as it did. -/
def policySendsUptoRow : OpenClaim := { program := "ytelakgbpfnlpiaa", sum := "90918fa30c22b0b908eb33758fcb4955dcaf49c0cfd4a49c15660d593208c34d", func := "decorum/decorumlaw20.PolicySends", spec := "policySends", apart := false, narrowed := true }
def PolicySendsUptoSaid : Prop := policySendsUptoRow.holds Try.pinned (OpenSpec.upto policySendsSpec)

/-- 'decorumlaw20.PolicyAnswers', WHERE WHAT IT READS IS OF BULK AT MOST 1048576: true; the input reads as it did. -/
def policyAnswersUptoRow : OpenClaim := { program := "ytelakgbpfnlpiaa", sum := "90918fa30c22b0b908eb33758fcb4955dcaf49c0cfd4a49c15660d593208c34d", func := "decorum/decorumlaw20.PolicyAnswers", spec := "policyAnswers", apart := false, narrowed := true }
def PolicyAnswersUptoSaid : Prop := policyAnswersUptoRow.holds Try.pinned (OpenSpec.upto policyAnswersSpec)

/-- 'decorumlaw20.PolicyLearns', WHERE WHAT IT READS IS OF BULK AT MOST 1048576: true; the input reads as it did. -/
def policyLearnsUptoRow : OpenClaim := { program := "ytelakgbpfnlpiaa", sum := "90918fa30c22b0b908eb33758fcb4955dcaf49c0cfd4a49c15660d593208c34d", func := "decorum/decorumlaw20.PolicyLearns", spec := "policyLearns", apart := false, narrowed := true }
def PolicyLearnsUptoSaid : Prop := policyLearnsUptoRow.holds Try.pinned (OpenSpec.upto policyLearnsSpec)

/-- 'decorumlaw20.PolicyPolite', WHERE WHAT IT READS IS OF BULK AT MOST 1048576: true; the input reads as it did. -/
def policyPoliteUptoRow : OpenClaim := { program := "ytelakgbpfnlpiaa", sum := "90918fa30c22b0b908eb33758fcb4955dcaf49c0cfd4a49c15660d593208c34d", func := "decorum/decorumlaw20.PolicyPolite", spec := "policyPolite", apart := false, narrowed := true }
def PolicyPoliteUptoSaid : Prop := policyPoliteUptoRow.holds Try.pinned (OpenSpec.upto policyPoliteSpec)

/-- 'decorumlaw20.PolicyCalm', WHERE WHAT IT READS IS OF BULK AT MOST 1048576: true; the input reads as it did. -/
def policyCalmUptoRow : OpenClaim := { program := "ytelakgbpfnlpiaa", sum := "90918fa30c22b0b908eb33758fcb4955dcaf49c0cfd4a49c15660d593208c34d", func := "decorum/decorumlaw20.PolicyCalm", spec := "policyCalm", apart := false, narrowed := true }
def PolicyCalmUptoSaid : Prop := policyCalmUptoRow.holds Try.pinned (OpenSpec.upto policyCalmSpec)

/-- 'decorumlaw22.AuditGaps', WHERE WHAT IT READS IS OF BULK AT MOST 1048576: true; the input reads as it did. -/
def auditGapsUptoRow : OpenClaim := { program := "ytelakgbpfnlpiaa", sum := "90918fa30c22b0b908eb33758fcb4955dcaf49c0cfd4a49c15660d593208c34d", func := "decorum/decorumlaw22.AuditGaps", spec := "auditGaps", apart := false, narrowed := true }
def AuditGapsUptoSaid : Prop := auditGapsUptoRow.holds Try.pinned (OpenSpec.upto auditGapsSpec)

/-- 'decorumlaw22.AuditRates', WHERE WHAT IT READS IS OF BULK AT MOST 1048576: true; the input reads as it did. -/
def auditRatesUptoRow : OpenClaim := { program := "ytelakgbpfnlpiaa", sum := "90918fa30c22b0b908eb33758fcb4955dcaf49c0cfd4a49c15660d593208c34d", func := "decorum/decorumlaw22.AuditRates", spec := "auditRates", apart := false, narrowed := true }
def AuditRatesUptoSaid : Prop := auditRatesUptoRow.holds Try.pinned (OpenSpec.upto auditRatesSpec)

/-- 'decorumlaw22.AuditCounts', WHERE WHAT IT READS IS OF BULK AT MOST 1048576: true; the input reads as it did. -/
def auditCountsUptoRow : OpenClaim := { program := "ytelakgbpfnlpiaa", sum := "90918fa30c22b0b908eb33758fcb4955dcaf49c0cfd4a49c15660d593208c34d", func := "decorum/decorumlaw22.AuditCounts", spec := "auditCounts", apart := false, narrowed := true }
def AuditCountsUptoSaid : Prop := auditCountsUptoRow.holds Try.pinned (OpenSpec.upto auditCountsSpec)

/-- 'decorumlaw22.AuditLess', WHERE WHAT IT READS IS OF BULK AT MOST 1048576: true; the input reads as it did. -/
def auditLessUptoRow : OpenClaim := { program := "ytelakgbpfnlpiaa", sum := "90918fa30c22b0b908eb33758fcb4955dcaf49c0cfd4a49c15660d593208c34d", func := "decorum/decorumlaw22.AuditLess", spec := "auditLess", apart := false, narrowed := true }
def AuditLessUptoSaid : Prop := auditLessUptoRow.holds Try.pinned (OpenSpec.upto auditLessSpec)

/-- 'decorumlaw22.AuditApart', WHERE WHAT IT READS IS OF BULK AT MOST 1048576: true; the input reads as it did. -/
def auditApartUptoRow : OpenClaim := { program := "ytelakgbpfnlpiaa", sum := "90918fa30c22b0b908eb33758fcb4955dcaf49c0cfd4a49c15660d593208c34d", func := "decorum/decorumlaw22.AuditApart", spec := "auditApart", apart := false, narrowed := true }
def AuditApartUptoSaid : Prop := auditApartUptoRow.holds Try.pinned (OpenSpec.upto auditApartSpec)

end Rows
end Go.Proofs.Ytelakgbpfnlpiaa
