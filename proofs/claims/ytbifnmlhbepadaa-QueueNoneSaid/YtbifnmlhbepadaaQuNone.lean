/- QueueNone, walked. -/
import Derived.Test.YtbifnmlhbepadaaQuAwk
import Derived.Test.YtbifnmlhbepadaaQuOpen
namespace Go.Proofs.Ytbifnmlhbepadaa
open Go Go.RowKit
set_option linter.unusedVariables false
set_option linter.unusedSimpArgs false
set_option maxRecDepth 10000

set_option maxHeartbeats 4000000 in
theorem queueNone_walk (r : Rq) (n : Int) (w : World) (_ : True) (wn : (Lit.int .i64 n).wf = true) : Calls Try.prog 5 #[.agg (rqA r), .int .i64 n] w fun e w' => e = .returned (.bool true) ∧ Below w.heap.size w w' := by
  clear wn
  have AW := Lib.hid (fun W => awake16 W)
  have PN := Lib.hid (fun W => push_nil r W)
  have BK := Lib.hid (fun W => back_nil r W)
  have LN := Lib.hid (fun W => len_nil W)
  have AN := Lib.hid (fun W => all_nil W)
  have LT := Lib.hid (fun W => late_nil n W)
  have DN := Lib.hid (fun W => drop_nil n W)
  have FN := Lib.hid (fun W => first_nil W)
  have BX := Lib.hid (Box.new w (rqA r) 27)
  have BB := Lib.hid ((Below.refl w.heap.size w).alloc (Nat.le_refl _) (.cells (rqA r) 27))
  unfold rqA rq0 at *
  obtain ⟨ri, rh, rp, rr, rt⟩ := r
  dsimp only at *
  go_enter Try.func5, Try.ntmps5
  go_upto_region 2 with fail
  obtain ⟨w1, hw1⟩ : ∃ W, w.alloc (.cells #[.int .i64 ri, .string rh, .string rp, .int .i64 rr, .int .i64 rt] 27) = W := ⟨_, rfl⟩
  rw [hw1] at BX BB
  rw [hw1]
  clear hw1
  have lT := BX.out.lt
  obtain ⟨T, hT⟩ : ∃ T, w.heap.size = T := ⟨_, rfl⟩
  rw [hT] at BX lT
  rw [hT]
  go_wp2_with fail
  refine (FN.out _).mono ?_
  rintro e w2 ⟨rfl, b2⟩
  have BX2 := Lib.hid (BX.out.later b2)
  have B2 := Lib.hid (BB.out.trans (b2.mono BB.out.size))
  have sz2 := B2.out.size
  have BX3 := Lib.hid (BX2.out.alloc (.cells #[.int .i64 0, .string ⟨#[]⟩, .string ⟨#[]⟩, .int .i64 0, .int .i64 0] 27))
  have B3 := Lib.hid (B2.out.alloc sz2 (.cells #[.int .i64 0, .string ⟨#[]⟩, .string ⟨#[]⟩, .int .i64 0, .int .i64 0] 27))
  clear b2 BX BB FN
  go_upto_region 3 with fail
  obtain ⟨w3, hw3⟩ : ∃ W, w2.alloc (.cells #[.int .i64 0, .string ⟨#[]⟩, .string ⟨#[]⟩, .int .i64 0, .int .i64 0] 27) = W := ⟨_, rfl⟩
  rw [hw3] at BX3 B3
  rw [hw3]
  clear hw3 BX2 B2
  go_wp2_with fail
  refine (AW.out _).mono ?_
  rintro e w4 ⟨rfl, b4⟩
  have B4 := Lib.hid (B3.out.trans (b4.mono B3.out.size))
  have BX4 := Lib.hid (BX3.out.later b4)
  have x0 := BX4.out.cell 0
  have x1 := BX4.out.cell 1
  have x2 := BX4.out.cell 2
  have x3 := BX4.out.cell 3
  have x4 := BX4.out.cell 4
  have lx := BX4.out.lt
  clear b4 B3 BX3
  go_wp2_with fail
  refine (PN.out _).mono ?_
  rintro e w5 ⟨rfl, b5⟩
  have B5 := Lib.hid (B4.out.trans (b5.mono B4.out.size))
  have BX5 := Lib.hid (BX4.out.later b5)
  have y0 := BX5.out.cell 0
  have y1 := BX5.out.cell 1
  have y2 := BX5.out.cell 2
  have y3 := BX5.out.cell 3
  have y4 := BX5.out.cell 4
  have ly := BX5.out.lt
  clear b5 B4 BX4 x0 x1 x2 x3 x4 lx
  go_wp2_with fail
  refine (BK.out _).mono ?_
  rintro e w6 ⟨rfl, b6⟩
  have B6 := Lib.hid (B5.out.trans (b6.mono B5.out.size))
  clear b6 B5 BX5 y0 y1 y2 y3 y4 ly
  go_wp2_with fail
  refine (DN.out _).mono ?_
  rintro e w7 ⟨rfl, b7⟩
  have B7 := Lib.hid (B6.out.trans (b7.mono B6.out.size))
  clear b7 B6
  go_wp2_with fail
  refine (LT.out _).mono ?_
  rintro e w8 ⟨rfl, b8⟩
  have B8 := Lib.hid (B7.out.trans (b8.mono B7.out.size))
  clear b8 B7
  go_wp2_with fail
  refine (AN.out _).mono ?_
  rintro e w9 ⟨rfl, rfl⟩
  go_wp2_with fail
  refine (LN.out _).mono ?_
  rintro e w10 ⟨rfl, rfl⟩
  go_wp2
  go_ret
  exact ⟨rfl, B8.out⟩
end Go.Proofs.Ytbifnmlhbepadaa
