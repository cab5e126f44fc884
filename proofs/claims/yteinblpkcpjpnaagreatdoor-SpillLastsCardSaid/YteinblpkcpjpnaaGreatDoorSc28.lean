/- Part of a chain: SpSiz. -/
import Derived.Test.YteinblpkcpjpnaaGreatDoorSc26
import Derived.Test.YteinblpkcpjpnaaGreatDoorSc27
/- Package spill: Size. -/
namespace Go.Proofs.YteinblpkcpjpnaaGreatDoor
open Go Go.RowKit Go.Maps
set_option linter.unusedVariables false
set_option linter.unusedSimpArgs false
set_option maxRecDepth 100000

theorem size_at {w : World} {B d bm uc : Nat} {S : Sgs} {V : VF} {ua : Option Addr} {un : Pcs} {most beh fal : Int} (h : Dm w B d bm S V ua uc un most beh fal) {L : Nat} {n : Int} {p q : Value} {z : Value} (hl : Box w L #[.pointer (some ⟨d, 0, none⟩), .int .i64 n, p, q, z] 70) (N : Nat) (hN : S.length = N) :
    Calls Tryz.prog 22 #[.pointer (some ⟨L, 0, none⟩)] w fun e w' => e = .returned (.int .i64 (N : Int)) ∧ Below w.heap.size w w' := by
  have SG := Lib.hid (segs_at h N hN)
  have c0 := hl.cell 0
  clear h hN
  go_enter Tryz.func22, Tryz.ntmps22
  go_wp2_with fail
  refine SG.out.mono ?_
  rintro e w1 ⟨a, c, rfl, _, hb⟩
  go_wp2_with fail
  go_ret
  exact ⟨rfl, hb⟩
end Go.Proofs.YteinblpkcpjpnaaGreatDoor
