/- DiskNone, walked. -/
import Derived.Test.YtmpemldddclceaaDkAwk
import Derived.Test.YtmpemldddclceaaFrame
namespace Go.Proofs.Ytmpemldddclceaa
open Go Go.RowKit Go.Maps
set_option linter.unusedVariables false
set_option linter.unusedSimpArgs false
set_option maxRecDepth 10000

set_option maxHeartbeats 2000000 in
theorem diskNone_walk (a : Option Addr) (len cap : Nat) (zs : List Int) (n : Int) (w : World) (hrow : IsRow .u8 w a len cap zs) (wn : (Lit.int .i64 n).wf = true) :
    Calls Try.prog 5 #[.slice a len cap, .int .i64 n] w fun e w' => e = .returned (.bool true) ∧ Below w.heap.size w w' := by
  have FN := Lib.hid (fun W => fault_nil n n W)
  have CN := Lib.hid (fun W => crash_nil n W)
  have RN := Lib.hid (fun W => read_nil n W)
  have AW := Lib.hid (fun W => d_awake W)
  have AN := Lib.hid (fun W => app_nil n a len cap W)
  have SN := Lib.hid (fun W => sync_nil W)
  have DN := Lib.hid (fun W => drop_nil n W)
  have GN := Lib.hid (fun W => segs_nil W)
  clear hrow wn
  go_enter Try.func5, Try.ntmps5
  go_wp2_with fail
  refine (FN.out _).mono ?_
  rintro e w1 ⟨rfl, hw1⟩
  subst w1
  clear FN
  go_wp2_with fail
  refine (CN.out _).mono ?_
  rintro e w1 ⟨rfl, hw1⟩
  subst w1
  clear CN
  go_wp2_with fail
  refine (RN.out _).mono ?_
  rintro e w1 ⟨rfl, hw1⟩
  subst w1
  clear RN
  go_wp2_with fail
  refine (AW.out _).mono ?_
  rintro e w1 ⟨rfl, b1⟩
  have L1 := Lib.hid b1
  clear AW b1
  go_wp2_with fail
  refine (AN.out _).mono ?_
  rintro e w2 ⟨rfl, hw2⟩
  subst w2
  clear AN
  go_wp2_with fail
  refine (SN.out _).mono ?_
  rintro e w2 ⟨rfl, hw2⟩
  subst w2
  clear SN
  go_wp2_with fail
  refine (DN.out _).mono ?_
  rintro e w2 ⟨rfl, b2⟩
  have L2 := Lib.hid (L1.out.trans (b2.mono L1.out.size))
  clear DN b2 L1
  go_wp2_with fail
  refine (GN.out _).mono ?_
  rintro e w3 ⟨rfl, hw3⟩
  subst w3
  clear GN
  go_wp2
  go_ret
  exact ⟨rfl, L2.out⟩
end Go.Proofs.Ytmpemldddclceaa
