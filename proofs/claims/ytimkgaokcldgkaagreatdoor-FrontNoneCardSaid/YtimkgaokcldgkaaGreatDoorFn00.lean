/- Part of a chain: FnNon. -/
import Derived.Test.YtimkgaokcldgkaaGreatDoorFd33
import Derived.Test.YtimkgaokcldgkaaGreatDoorFd34
/- FrontNone, walked. -/
namespace Go.Proofs.YtimkgaokcldgkaaGreatDoor
open Go Go.RowKit Go.Maps
set_option linter.unusedVariables false
set_option linter.unusedSimpArgs false
set_option maxRecDepth 100000

set_option maxHeartbeats 4000000 in
theorem frontNone_walk (r : Rc) (n : Int) (w : World) (hr : RcW r) (hwn : (Lit.int .i64 n).wf = true) (hN : NowM w) :
    Calls Tryz.prog 4 #[.agg (reqL r).toArray, .int .i64 n] w fun e w' => e = .returned (.bool true) ∧ Below w.heap.size w w' := by
  have HN := Lib.hid hN
  obtain ⟨rk, r1, r2, r3, r4, r5⟩ := r
  have BN : Hid (∀ W, Calls Tryz.prog 11 #[.pointer none, .int .i64 n, .agg #[.int .i64 r1, .string r2, .string r3, .int .i64 r4, .int .i64 r5]] W fun e w' => e = .returned (.tuple #[]) ∧ Below W.heap.size W w') := Lib.hid (fun W => fback_nil n ⟨r1, r2, r3, r4, r5⟩ W)
  have AN : Hid (∀ W, Calls Tryz.prog 10 #[.pointer none, .int .i64 n, .agg #[.int .i64 r1, .string r2, .string r3, .int .i64 r4, .int .i64 r5]] W fun e w' => e = .returned (.int .i64 1) ∧ Below W.heap.size W w') := Lib.hid (fun W => fadd_nil n ⟨r1, r2, r3, r4, r5⟩ W)
  have FN : Hid (∀ W, Calls Tryz.prog 17 #[.pointer none, .int .i64 n] W fun e w' => e = .returned (.tuple #[.agg #[.int .i64 0, .string ⟨#[]⟩, .string ⟨#[]⟩, .int .i64 0, .int .i64 0], .bool false]) ∧ Below W.heap.size W w') := Lib.hid (fun W => ffirst_nil n W)
  have HT := Lib.hid (fhost_nil n)
  unfold reqL
  dsimp only
  clear hN hr hwn
  go_enter Tryz.func4, Tryz.ntmps4
  go_upto_region 1 with fail
  refine code_forget (fun W => Hid (Box W w.heap.size #[.int .i64 r1, .string r2, .string r3, .int .i64 r4, .int .i64 r5] 35) ∧ Hid (Below w.heap.size w W)) ⟨Lib.hid (Box.new w _ _), Lib.hid ((Below.refl w.heap.size w).alloc (Nat.le_refl _) _)⟩ ?_
  obtain ⟨rb, hrb⟩ : ∃ p, w.heap.size = p := ⟨_, rfl⟩
  have HRB := Lib.hid hrb
  rw [hrb]
  rintro w1 ⟨BR1, B1⟩
  rw [← HRB.out] at B1
  clear hrb
  have q0 := BR1.out.cell 0
  have q1 := BR1.out.cell 1
  have q2 := BR1.out.cell 2
  have q3 := BR1.out.cell 3
  have q4 := BR1.out.cell 4
  go_wp2_with fail
  refine (BN.out w1).mono ?_
  rintro e w2 ⟨rfl, hb⟩
  have B2 := Lib.hid (B1.out.trans (hb.mono B1.out.size))
  have BR2 := Lib.hid (BR1.out.later hb)
  clear hb B1 BR1 q0 q1 q2 q3 q4
  go_wp2_with fail
  refine (FN.out w2).mono ?_
  rintro e w3 ⟨rfl, hb⟩
  have B3 := Lib.hid (B2.out.trans (hb.mono B2.out.size))
  have BR3 := Lib.hid (BR2.out.later hb)
  clear hb B2 BR2
  go_upto_region 4 with fail
  refine code_forget (fun W => Hid (Below w3.heap.size w3 W)) (Lib.hid ((Below.refl w3.heap.size w3).alloc (Nat.le_refl _) _)) ?_
  rintro w4 hb2
  have B4 := Lib.hid (B3.out.trans (hb2.out.mono B3.out.size))
  have BR4 := Lib.hid (BR3.out.later hb2.out)
  clear hb2 B3 BR3
  go_wp2_with fail
  refine (HT.out w4).mono ?_
  rintro e w5 ⟨rfl, hb⟩
  have B5 := Lib.hid (B4.out.trans (hb.mono B4.out.size))
  have BR5 := Lib.hid (BR4.out.later hb)
  clear hb B4 BR4
  have AW := Lib.hid (awake17_at w5 (HN.out.later B5.out))
  go_wp2_with fail
  refine AW.out.mono ?_
  rintro e w6 ⟨rfl, hb⟩
  have B6 := Lib.hid (B5.out.trans (hb.mono B5.out.size))
  have BR6 := Lib.hid (BR5.out.later hb)
  clear hb B5 BR5 AW
  have q0 := BR6.out.cell 0
  have q1 := BR6.out.cell 1
  have q2 := BR6.out.cell 2
  have q3 := BR6.out.cell 3
  have q4 := BR6.out.cell 4
  go_wp2_with fail
  refine (AN.out w6).mono ?_
  rintro e w7 ⟨rfl, hb⟩
  have B7 := Lib.hid (B6.out.trans (hb.mono B6.out.size))
  have BR7 := Lib.hid (BR6.out.later hb)
  clear hb B6 BR6 q0 q1 q2 q3 q4
  go_wp2_with fail
  refine (fdrop_nil n w7).mono ?_
  rintro e w8 ⟨rfl, hb⟩
  have B8 := Lib.hid (B7.out.trans (hb.mono B7.out.size))
  have BR8 := Lib.hid (BR7.out.later hb)
  clear hb B7 BR7
  have q2 := BR8.out.cell 2
  go_wp2_with fail
  refine (fhas_nil n r3 w8).mono ?_
  rintro e w9 ⟨rfl, hb⟩
  have B9 := Lib.hid (B8.out.trans (hb.mono B8.out.size))
  clear hb B8 q2 BR8
  go_wp2_with fail
  refine (flen_nil n w9).mono ?_
  rintro e w10 ⟨rfl, hb⟩
  have B10 := Lib.hid (B9.out.trans (hb.mono B9.out.size))
  clear hb B9
  go_wp2_with fail
  refine (fcount_nil w10).mono ?_
  rintro e w11 ⟨rfl, hb⟩
  have B11 := Lib.hid (B10.out.trans (hb.mono B10.out.size))
  clear hb B10
  go_wp2_with fail
  refine (fmem_nil w11).mono ?_
  rintro e w12 ⟨rfl, hb⟩
  have B12 := Lib.hid (B11.out.trans (hb.mono B11.out.size))
  clear hb B11
  go_wp2
  go_ret
  exact ⟨rfl, B12.out⟩
end Go.Proofs.YtimkgaokcldgkaaGreatDoor
