/- Layer 16's fixed fact. -/
import Derived.Test.YtbifnmlhbepadaaQuAll
import Derived.Laws.StructEq
namespace Go.Proofs.Ytbifnmlhbepadaa
open Go Go.RowKit
set_option linter.unusedVariables false
set_option linter.unusedSimpArgs false
set_option maxRecDepth 10000

theorem rq_eq (i : Int) (h p : ByteArray) (r t : Int) (w : World) : (binOp .eql 27 (.agg #[.int .i64 i, .string h, .string p, .int .i64 r, .int .i64 t]) (.agg #[.int .i64 i, .string h, .string p, .int .i64 r, .int .i64 t])).run Try.prog w = .ok (.bool true) w := by
  have ht : Try.prog.underlying 27 = some (.struct (Try.prog.fieldsOf 27)) := by kernel_rfl
  have hp : Try.prog.stoodInHeld 27 = false := by kernel_rfl
  have _hm : Try.prog.eqGuardType Try.prog.depth 27 = false := by kernel_rfl
  rw [run_eql_struct, run_equalIn_agg w 9999 _ _ _ ht hp]
  simp only [Program.fieldsOf, Try.underlying27]
  simp [go_sem, Try.underlying9, Try.underlying3]
theorem box2 (w : World) (c d : Array Value) (t : TypeId) : Box ((w.alloc (.cells c t)).alloc (.cells d t)) w.heap.size c t ∧ Box ((w.alloc (.cells c t)).alloc (.cells d t)) (w.heap.size + 1) d t ∧ Below w.heap.size w ((w.alloc (.cells c t)).alloc (.cells d t)) :=
  ⟨(Box.new w c t).alloc _, by simpa using Box.new (w.alloc (.cells c t)) d t, ((Below.refl _ _).alloc (Nat.le_refl _) _).alloc (by simp) _⟩
theorem req_same (r : Rq) (w : World) : Calls Try.prog 37 #[.agg (rqA r), .agg (rqA r)] w fun e w' => e = .returned (.bool true) ∧ Below w.heap.size w w' := by
  have B2 := Lib.hid (box2 w (rqA r) (rqA r) 27)
  have EQ := fun W => rq_eq r.id r.host r.path r.prio r.til W
  unfold rqA at *
  obtain ⟨i, h, p, pr, t⟩ := r
  dsimp only at *
  go_enter Try.func37, Try.ntmps37
  go_upto_region 1 with fail
  obtain ⟨w1, hw1⟩ : ∃ W, (w.alloc (.cells #[.int .i64 i, .string h, .string p, .int .i64 pr, .int .i64 t] 27)).alloc (.cells #[.int .i64 i, .string h, .string p, .int .i64 pr, .int .i64 t] 27) = W := ⟨_, rfl⟩
  rw [hw1] at B2
  rw [hw1]
  clear hw1
  have c0 := B2.out.1.cell 0
  have k0 := B2.out.2.1.cell 0
  have c1 := B2.out.1.cell 1
  have k1 := B2.out.2.1.cell 1
  have c2 := B2.out.1.cell 2
  have k2 := B2.out.2.1.cell 2
  have c3 := B2.out.1.cell 3
  have k3 := B2.out.2.1.cell 3
  have c4 := B2.out.1.cell 4
  have k4 := B2.out.2.1.cell 4
  have lc := B2.out.1.lt
  have lk := B2.out.2.1.lt
  go_wp2
  go_ret
  exact ⟨rfl, B2.out.2.2⟩
theorem before_at (a b : Rq) (w : World) : Calls Try.prog 21 #[.agg (rqA a), .agg (rqA b)] w fun e w' => e = .returned (.bool (befB a b)) ∧ Below w.heap.size w w' := by
  have B2 := Lib.hid (box2 w (rqA a) (rqA b) 27)
  have HV : Hid (befB a b = decide (a.prio < b.prio ∨ (a.prio = b.prio ∧ a.id < b.id))) := Lib.hid rfl
  obtain ⟨v, hv⟩ : ∃ v, befB a b = v := ⟨_, rfl⟩
  rw [hv] at HV ⊢
  clear hv
  unfold rqA at *
  obtain ⟨i, h, p, pr, t⟩ := a
  obtain ⟨i2, h2, p2, pr2, t2⟩ := b
  dsimp only at *
  go_enter Try.func21, Try.ntmps21
  go_upto_region 1 with fail
  obtain ⟨w1, hw1⟩ : ∃ W, (w.alloc (.cells #[.int .i64 i, .string h, .string p, .int .i64 pr, .int .i64 t] 27)).alloc (.cells #[.int .i64 i2, .string h2, .string p2, .int .i64 pr2, .int .i64 t2] 27) = W := ⟨_, rfl⟩
  rw [hw1] at B2
  rw [hw1]
  clear hw1
  have c0 := B2.out.1.cell 0
  have k0 := B2.out.2.1.cell 0
  have c1 := B2.out.1.cell 1
  have k1 := B2.out.2.1.cell 1
  have c2 := B2.out.1.cell 2
  have k2 := B2.out.2.1.cell 2
  have c3 := B2.out.1.cell 3
  have k3 := B2.out.2.1.cell 3
  have c4 := B2.out.1.cell 4
  have k4 := B2.out.2.1.cell 4
  have lc := B2.out.1.lt
  have lk := B2.out.2.1.lt
  by_cases q1 : pr < pr2
  · have d1 : decide (pr < pr2) = true := decide_eq_true q1
    obtain rfl : v = true := by rw [HV.out]; exact decide_eq_true (Or.inl q1)
    go_wp2
    go_ret
    exact ⟨rfl, B2.out.2.2⟩
  · have d1 : decide (pr < pr2) = false := decide_eq_false q1
    by_cases q2 : pr = pr2
    · have d2 : (pr == pr2) = true := beq_iff_eq.2 q2
      by_cases q3 : i < i2
      · have d3 : decide (i < i2) = true := decide_eq_true q3
        obtain rfl : v = true := by rw [HV.out]; exact decide_eq_true (Or.inr ⟨q2, q3⟩)
        clear q2
        go_wp2
        go_ret
        exact ⟨rfl, B2.out.2.2⟩
      · have d3 : decide (i < i2) = false := decide_eq_false q3
        obtain rfl : v = false := by rw [HV.out]; exact decide_eq_false (by omega)
        clear q2
        go_wp2
        go_ret
        exact ⟨rfl, B2.out.2.2⟩
    · have d2 : (pr == pr2) = false := beq_eq_false_iff_ne.2 q2
      obtain rfl : v = false := by rw [HV.out]; exact decide_eq_false (by omega)
      go_wp2
      go_ret
      exact ⟨rfl, B2.out.2.2⟩
theorem Qm.turn {w w' : World} {B q cap : Nat} {a a' : Option Addr} {rs : List Rq} {most : Int} (h : Qm w B q a cap rs most) (ht : TurnQ q a w a' w') (hB : B ≤ w.heap.size) : Below B w w' :=
  ht.1.below hB (fun k hk => by
    rcases hk with rfl | hk
    · exact h.qB
    · exact (own_lt h.own hk).2)
def aw5 : Rq := ⟨5, ⟨#[]⟩, ⟨#[]⟩, 1, 0⟩
def aw7 : Rq := ⟨7, ⟨#[]⟩, ⟨#[]⟩, 0, 0⟩
def aw8 : Rq := ⟨8, ⟨#[]⟩, ⟨#[]⟩, 0, 0⟩
def aw6 : Rq := ⟨5, ⟨#[]⟩, ⟨#[]⟩, 0, 0⟩
def aw1 : Rq := ⟨1, ⟨#[]⟩, ⟨#[]⟩, 1, 3⟩
def awP : Rq := ⟨0, ⟨#[]⟩, ⟨#[]⟩, 1, 0⟩
theorem awS1 : Srt [] := List.Pairwise.nil
theorem awS2 : Srt [aw5] := srt_ins (rs := []) (r := aw5) awS1 (by simp)
theorem awS3 : Srt [aw7, aw5] := srt_ins (rs := [aw5]) (r := aw7) awS2 (by simp [aw5, aw7])
set_option maxHeartbeats 4000000 in
theorem awake16 (w : World) : Calls Try.prog 20 #[] w fun e w' => e = .returned (.bool true) ∧ Below w.heap.size w w' := by
  have AP1 := Lib.hid (fun (B q : Nat) a cap W (hQ : Qm W B q a cap [] 2) (hB : B ≤ W.heap.size) => push_at hQ awS1 0 rfl (by omega) hB aw5)
  have AP2 := Lib.hid (fun (B q : Nat) a cap W (hQ : Qm W B q a cap [aw5] 2) (hB : B ≤ W.heap.size) => push_at hQ awS2 1 rfl (by omega) hB aw7)
  have AP3 := Lib.hid (fun (B q : Nat) a cap W (hQ : Qm W B q a cap [aw7, aw5] 2) (hB : B ≤ W.heap.size) => push_at hQ awS3 2 rfl (by omega) hB aw8)
  have AP4 := Lib.hid (fun (B q : Nat) a cap W (hQ : Qm W B q a cap [aw7, aw5] 2) (hB : B ≤ W.heap.size) => push_at hQ awS3 2 rfl (by omega) hB aw6)
  have AP5 := Lib.hid (fun (B q : Nat) a cap W (hQ : Qm W B q a cap [aw7, aw5] 2) (hB : B ≤ W.heap.size) => back_at hQ awS3 2 rfl (by omega) hB aw1)
  have AP6 : Hid (∀ (B q : Nat) a cap W, Qm W B q a cap [aw7, aw1, aw5] 2 → Calls Try.prog 17 #[.pointer (some ⟨q, 0, none⟩)] W fun e w' => e = .returned (.tuple #[.agg #[.int .i64 7, .string ⟨#[]⟩, .string ⟨#[]⟩, .int .i64 0, .int .i64 0], .bool true]) ∧ Below W.heap.size W w') := Lib.hid (fun B q a cap W hQ => first_at hQ)
  have AP7 : Hid (∀ (B q : Nat) a cap W, Qm W B q a cap [aw7, aw1, aw5] 2 → B ≤ W.heap.size → Calls Try.prog 16 #[.pointer (some ⟨q, 0, none⟩), .int .i64 4] W fun e w' => ∃ a' cap' ag cg, e = .returned (.slice ag 1 cg) ∧ Qm w' B q a' cap' [aw7, aw5] 2 ∧ TurnQ q a W a' w' ∧ Own w' W.heap.size 27 5 ag 1 cg (rqC [aw1]) ∧ ∀ k, a' = some ⟨k, 0, none⟩ → ag ≠ some ⟨k, 0, none⟩) := Lib.hid (fun B q a cap W hQ hB => late_at hQ 3 rfl (by omega) hB 4)
  have AP8 := Lib.hid (fun (B q : Nat) a cap W (hQ : Qm W B q a cap [aw7, aw5] 2) => len_at hQ)
  have RS := Lib.hid (fun W => req_same aw7 W)
  have RB := Lib.hid (fun W => before_at aw7 awP W)
  have B0 := Lib.hid (Nat.le_refl w.heap.size)
  go_enter Try.func20, Try.ntmps20
  go_wp2_with fail
  refine (new_at 2 w w.heap.size (Nat.le_refl _)).mono ?_
  rintro e w1 ⟨rfl, q1, b1⟩
  have Q1 := Lib.hid q1
  have B1 := Lib.hid b1
  obtain ⟨q, hq⟩ : ∃ q, w.heap.size = q := ⟨_, rfl⟩
  rw [hq] at Q1 ⊢
  clear q1 b1
  go_wp2_with fail
  refine (AP1.out _ _ _ _ _ Q1.out (by have := B1.out.size; omega)).mono ?_
  rintro e w2 (⟨h, _⟩ | ⟨_, h, _⟩ | ⟨_, _, rfl, a2, c2, q2, t2⟩)
  · cases h
  · simp at h
  have B2 := Lib.hid (B1.out.trans (Q1.out.turn t2 (by have := B1.out.size; omega) |> fun h => by rw [hq]; exact h))
  have Q2 := Lib.hid (show Qm w2 q q a2 c2 [aw5] 2 from q2)
  have sz2 : q ≤ w2.heap.size := by have := B2.out.size; omega
  clear q2 t2 AP1 Q1 B1
  go_wp2_with fail
  refine (AP2.out _ _ _ _ _ Q2.out sz2).mono ?_
  rintro e w3 (⟨h, _⟩ | ⟨_, h, _⟩ | ⟨_, _, rfl, a3, c3, q3, t3⟩)
  · simp [aw5, aw7, aw8, aw6, aw1, idB] at h
  · simp at h
  have B3 := Lib.hid (B2.out.trans ((Q2.out.turn t3 sz2).mono (by omega)))
  have Q3 := Lib.hid (show Qm w3 q q a3 c3 [aw7, aw5] 2 from q3)
  have sz3 : q ≤ w3.heap.size := by have := B3.out.size; omega
  clear q3 t3 AP2 Q2 B2 sz2
  go_wp2_with fail
  refine (AP3.out _ _ _ _ _ Q3.out sz3).mono ?_
  rintro e w4 (⟨h, _⟩ | ⟨_, _, rfl, b4⟩ | ⟨_, h, _⟩)
  · simp [aw5, aw7, aw8, aw6, aw1, idB] at h
  rotate_left
  · simp at h
  have B4 := Lib.hid (B3.out.trans (b4.mono B3.out.size))
  have Q4 := Lib.hid (Q3.out.later b4)
  have sz4 : q ≤ w4.heap.size := by have := B4.out.size; omega
  clear b4 AP3 Q3 B3 sz3
  go_wp2_with fail
  refine (AP4.out _ _ _ _ _ Q4.out sz4).mono ?_
  rintro e w5 (⟨_, rfl, b5⟩ | ⟨h, _⟩ | ⟨h, _⟩)
  rotate_left
  · simp [aw5, aw7, aw8, aw6, aw1, idB] at h
  · simp [aw5, aw7, aw8, aw6, aw1, idB] at h
  have B5 := Lib.hid (B4.out.trans (b5.mono B4.out.size))
  have Q5 := Lib.hid (Q4.out.later b5)
  have sz5 : q ≤ w5.heap.size := by have := B5.out.size; omega
  clear b5 AP4 Q4 B4 sz4
  go_wp2_with fail
  refine (AP5.out _ _ _ _ _ Q5.out sz5).mono ?_
  rintro e w6 (⟨h, _⟩ | ⟨_, rfl, a6, c6, q6, t6⟩)
  · simp [aw5, aw7, aw8, aw6, aw1, idB] at h
  have B6 := Lib.hid (B5.out.trans ((Q5.out.turn t6 sz5).mono (by omega)))
  have Q6 := Lib.hid (show Qm w6 q q a6 c6 [aw7, aw1, aw5] 2 from q6)
  have sz6 : q ≤ w6.heap.size := by have := B6.out.size; omega
  clear q6 t6 AP5 Q5 B5 sz5
  go_wp2_with fail
  refine (AP6.out _ _ _ _ _ Q6.out).mono ?_
  rintro e w7 ⟨rfl, b7⟩
  have B7 := Lib.hid (B6.out.trans (b7.mono B6.out.size))
  have Q7 := Lib.hid (Q6.out.later b7)
  clear b7 AP6 Q6 B6 sz6
  have BX := Lib.hid (Box.new w7 #[.int .i64 7, .string ⟨#[]⟩, .string ⟨#[]⟩, .int .i64 0, .int .i64 0] 27)
  have A7 := Lib.hid ((Below.refl w7.heap.size w7).alloc (Nat.le_refl _) (.cells #[.int .i64 7, .string ⟨#[]⟩, .string ⟨#[]⟩, .int .i64 0, .int .i64 0] 27))
  have B8 := Lib.hid (B7.out.trans (A7.out.mono B7.out.size))
  have Q8 := Lib.hid (Q7.out.later A7.out)
  go_upto_region 8 with fail
  obtain ⟨w8, hw8⟩ : ∃ W, w7.alloc (.cells #[.int .i64 7, .string ⟨#[]⟩, .string ⟨#[]⟩, .int .i64 0, .int .i64 0] 27) = W := ⟨_, rfl⟩
  rw [hw8] at BX B8 Q8 A7
  rw [hw8]
  clear hw8
  obtain ⟨GR, hGR⟩ : ∃ G, w7.heap.size = G := ⟨_, rfl⟩
  rw [hGR] at BX
  rw [hGR]
  have hGq : q ≤ GR := by have := B7.out.size; omega
  have hqG : q < GR := by have := Q7.out.box.lt; omega
  have hag : ∀ k, a6 = some ⟨k, 0, none⟩ → k < GR := fun k hk => by have := (own_lt Q7.out.own hk).1; omega
  have sz8 : q ≤ w8.heap.size := by have := B8.out.size; omega
  clear A7 Q7 B7 hGR
  go_wp2_with fail
  refine (AP7.out _ _ _ _ _ Q8.out sz8).mono ?_
  rintro e w9 ⟨a9, c9, ag, cg, rfl, q9, t9, og, _⟩
  have B9 := Lib.hid (B8.out.trans ((Q8.out.turn t9 sz8).mono (by omega)))
  have BX9 : Hid (Box w9 GR #[.int .i64 7, .string ⟨#[]⟩, .string ⟨#[]⟩, .int .i64 0, .int .i64 0] 27) := Lib.hid (BX.out.only t9.1 (fun hk => by
    rcases hk with hk | hk
    · omega
    · have := hag _ hk; omega))
  have Q9 := Lib.hid q9
  obtain ⟨gg, rfl, _⟩ := og.some_ (by omega)
  have g0 : w9.cell? ⟨gg, 0, none⟩ = some (.int .i64 1) := og.cell rfl
  have x0 := BX9.out.cell 0
  have x1 := BX9.out.cell 1
  have x2 := BX9.out.cell 2
  have x3 := BX9.out.cell 3
  have x4 := BX9.out.cell 4
  have lx := BX9.out.lt
  have LN := Lib.hid (show Calls Try.prog 18 #[.pointer (some ⟨q, 0, none⟩)] w9 fun e w' => e = .returned (.int .i64 2) ∧ w' = w9 from AP8.out _ _ _ _ _ Q9.out)
  clear q9 t9 og AP7 AP8 Q8 B8 BX
  go_wp2_with fail
  refine LN.out.mono ?_
  rintro e w10 ⟨rfl, rfl⟩
  go_wp2_with fail
  refine (RS.out _).mono ?_
  rintro e w11 ⟨rfl, b11⟩
  have B11 := Lib.hid (B9.out.trans (b11.mono B9.out.size))
  have BX11 := BX9.out.later b11
  have y0 := BX11.cell 0
  have y1 := BX11.cell 1
  have y2 := BX11.cell 2
  have y3 := BX11.cell 3
  have y4 := BX11.cell 4
  have ly := BX11.lt
  clear b11 x0 x1 x2 x3 x4 lx g0 BX11 BX9 B9 LN Q9
  go_wp2_with fail
  refine (RB.out _).mono ?_
  rintro e w12 ⟨rfl, b12⟩
  have FIN : Hid (Below w.heap.size w w12) := Lib.hid (B11.out.trans (b12.mono B11.out.size))
  have hbb : befB aw7 awP = true := by decide
  rw [hbb]
  clear b12 B11 y0 y1 y2 y3 y4 ly
  go_wp2
  go_ret
  exact ⟨rfl, FIN.out⟩
end Go.Proofs.Ytbifnmlhbepadaa
