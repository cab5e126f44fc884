/- Part of a chain: QuAwk. -/
import Derived.Test.YtimkgaokcldgkaaGreatDoorFq13
import Derived.Laws.StructEq
/- Layer 16's fixed fact. -/
namespace Go.Proofs.YtimkgaokcldgkaaGreatDoor
open Go Go.RowKit
set_option linter.unusedVariables false
set_option linter.unusedSimpArgs false
set_option maxRecDepth 10000

theorem rq_eq (i : Int) (h p : ByteArray) (r t : Int) (w : World) : (binOp .eql 35 (.agg #[.int .i64 i, .string h, .string p, .int .i64 r, .int .i64 t]) (.agg #[.int .i64 i, .string h, .string p, .int .i64 r, .int .i64 t])).run Tryz.prog w = .ok (.bool true) w := by
  have ht : Tryz.prog.underlying 35 = some (.struct (Tryz.prog.fieldsOf 35)) := by kernel_rfl
  have hp : Tryz.prog.stoodInHeld 35 = false := by kernel_rfl
  have _hm : Tryz.prog.eqGuardType Tryz.prog.depth 35 = false := by kernel_rfl
  rw [run_eql_struct, run_equalIn_agg w 9999 _ _ _ ht hp]
  simp only [Program.fieldsOf, Tryz.underlying35]
  simp [go_sem, Tryz.underlying9, Tryz.underlying3]
theorem box2 (w : World) (c d : Array Value) (t : TypeId) : Box ((w.alloc (.cells c t)).alloc (.cells d t)) w.heap.size c t ∧ Box ((w.alloc (.cells c t)).alloc (.cells d t)) (w.heap.size + 1) d t ∧ Below w.heap.size w ((w.alloc (.cells c t)).alloc (.cells d t)) :=
  ⟨(Box.new w c t).alloc _, by simpa using Box.new (w.alloc (.cells c t)) d t, ((Below.refl _ _).alloc (Nat.le_refl _) _).alloc (by simp) _⟩
theorem before_at (a b : Rq) (w : World) : Calls Tryz.prog 23 #[.agg (rqA a), .agg (rqA b)] w fun e w' => e = .returned (.bool (befB a b)) ∧ Below w.heap.size w w' := by
  have B2 := Lib.hid (box2 w (rqA a) (rqA b) 35)
  have HV : Hid (befB a b = decide (a.prio < b.prio ∨ (a.prio = b.prio ∧ a.id < b.id))) := Lib.hid rfl
  obtain ⟨v, hv⟩ : ∃ v, befB a b = v := ⟨_, rfl⟩
  rw [hv] at HV ⊢
  clear hv
  unfold rqA at *
  obtain ⟨i, h, p, pr, t⟩ := a
  obtain ⟨i2, h2, p2, pr2, t2⟩ := b
  dsimp only at *
  go_enter Tryz.func23, Tryz.ntmps23
  go_upto_region 1 with fail
  obtain ⟨w1, hw1⟩ : ∃ W, (w.alloc (.cells #[.int .i64 i, .string h, .string p, .int .i64 pr, .int .i64 t] 35)).alloc (.cells #[.int .i64 i2, .string h2, .string p2, .int .i64 pr2, .int .i64 t2] 35) = W := ⟨_, rfl⟩
  rw [hw1] at B2
  rw [hw1]
  clear hw1
  have c0 := B2.out.1.cell 0
  have k0 := B2.out.2.1.cell 0
  have c1 := B2.out.1.cell 1
  have k1 := B2.out.2.1.cell 1
  have c2 := B2.out.1.cell 2
  have k2 := B2.out.2.1.cell 2
  have c3 := B2.out.1.cell 3
  have k3 := B2.out.2.1.cell 3
  have c4 := B2.out.1.cell 4
  have k4 := B2.out.2.1.cell 4
  have lc := B2.out.1.lt
  have lk := B2.out.2.1.lt
  by_cases q1 : pr < pr2
  · have d1 : decide (pr < pr2) = true := decide_eq_true q1
    obtain rfl : v = true := by rw [HV.out]; exact decide_eq_true (Or.inl q1)
    go_wp2
    go_ret
    exact ⟨rfl, B2.out.2.2⟩
  · have d1 : decide (pr < pr2) = false := decide_eq_false q1
    by_cases q2 : pr = pr2
    · have d2 : (pr == pr2) = true := beq_iff_eq.2 q2
      by_cases q3 : i < i2
      · have d3 : decide (i < i2) = true := decide_eq_true q3
        obtain rfl : v = true := by rw [HV.out]; exact decide_eq_true (Or.inr ⟨q2, q3⟩)
        clear q2
        go_wp2
        go_ret
        exact ⟨rfl, B2.out.2.2⟩
      · have d3 : decide (i < i2) = false := decide_eq_false q3
        obtain rfl : v = false := by rw [HV.out]; exact decide_eq_false (by omega)
        clear q2
        go_wp2
        go_ret
        exact ⟨rfl, B2.out.2.2⟩
    · have d2 : (pr == pr2) = false := beq_eq_false_iff_ne.2 q2
      obtain rfl : v = false := by rw [HV.out]; exact decide_eq_false (by omega)
      go_wp2
      go_ret
      exact ⟨rfl, B2.out.2.2⟩
theorem Qm.turn {w w' : World} {B q cap : Nat} {a a' : Option Addr} {rs : List Rq} {most : Int} (h : Qm w B q a cap rs most) (ht : TurnQ q a w a' w') (hB : B ≤ w.heap.size) : Below B w w' :=
  ht.1.below hB (fun k hk => by
    rcases hk with rfl | hk
    · exact h.qB
    · exact (qown_lt h.own hk).2)
end Go.Proofs.YtimkgaokcldgkaaGreatDoor
