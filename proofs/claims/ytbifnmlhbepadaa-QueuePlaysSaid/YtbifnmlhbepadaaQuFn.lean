/- Package queue: the functions of a queue: New, First, Drop, Late, Len; all of them where there is no queue. -/
import Derived.Test.YtbifnmlhbepadaaQuRem
namespace Go.Proofs.Ytbifnmlhbepadaa
open Go Go.RowKit
set_option linter.unusedVariables false
set_option linter.unusedSimpArgs false
set_option maxRecDepth 10000

theorem push_nil (r : Rq) (w : World) : Calls Try.prog 10 #[.pointer none, .agg (rqA r)] w fun e w' => e = .returned (.int .i64 1) ∧ Below w.heap.size w w' := by
  have BB := Lib.hid ((Below.refl w.heap.size w).alloc (Nat.le_refl _) (.cells (rqA r) 27))
  unfold rqA at *
  obtain ⟨i, h, p, pr, t⟩ := r
  dsimp only at *
  go_enter Try.func10, Try.ntmps10
  go_wp2
  go_ret
  exact ⟨rfl, BB.out⟩
theorem back_nil (r : Rq) (w : World) : Calls Try.prog 12 #[.pointer none, .agg (rqA r)] w fun e w' => e = .returned (.bool false) ∧ Below w.heap.size w w' := by
  have BB := Lib.hid ((Below.refl w.heap.size w).alloc (Nat.le_refl _) (.cells (rqA r) 27))
  unfold rqA at *
  obtain ⟨i, h, p, pr, t⟩ := r
  dsimp only at *
  go_enter Try.func12, Try.ntmps12
  go_upto_region 1 with fail
  obtain ⟨w1, hw1⟩ : ∃ W, w.alloc (.cells #[.int .i64 i, .string h, .string p, .int .i64 pr, .int .i64 t] 27) = W := ⟨_, rfl⟩
  rw [hw1] at BB
  rw [hw1]
  clear hw1
  go_quiet (fail)
  go_wp2
  go_ret
  exact ⟨rfl, bin_drewN BB.out nq⟩
theorem len_nil (w : World) : Calls Try.prog 18 #[.pointer none] w fun e w' => e = .returned (.int .i64 0) ∧ w' = w := by
  go_enter Try.func18, Try.ntmps18
  go_wp2
  go_ret
  exact ⟨rfl, rfl⟩
theorem all_nil (w : World) : Calls Try.prog 19 #[.pointer none] w fun e w' => e = .returned (.slice none 0 0) ∧ w' = w := by
  go_enter Try.func19, Try.ntmps19
  go_wp2
  go_ret
  exact ⟨rfl, rfl⟩
theorem late_nil (now : Int) (w : World) : Calls Try.prog 16 #[.pointer none, .int .i64 now] w fun e w' => e = .returned (.slice none 0 0) ∧ Below w.heap.size w w' := by
  have BB := Lib.hid ((Below.refl w.heap.size w).alloc (Nat.le_refl _) (.cells #[.int .i64 now] 3))
  go_enter Try.func16, Try.ntmps16
  go_wp2
  go_ret
  exact ⟨rfl, BB.out⟩
theorem drop_nil (id : Int) (w : World) : Calls Try.prog 13 #[.pointer none, .int .i64 id] w fun e w' => e = .returned (.bool false) ∧ Below w.heap.size w w' := by
  have BB := Lib.hid ((Below.refl w.heap.size w).alloc (Nat.le_refl _) (.cells #[.int .i64 id] 3))
  go_enter Try.func13, Try.ntmps13
  go_wp2
  go_ret
  exact ⟨rfl, BB.out⟩
theorem new_at (most : Int) (w : World) (B : Nat) (hB : B ≤ w.heap.size) : Calls Try.prog 8 #[.int .i64 most] w fun e w' => e = .returned (.pointer (some ⟨w.heap.size, 0, none⟩)) ∧ Qm w' B w.heap.size none 0 [] most ∧ Below w.heap.size w w' := by
  have FIN : Hid (Qm (w.alloc (.cells #[.slice none 0 0, .int .i64 most] 72)) B w.heap.size none 0 [] most ∧ Below w.heap.size w (w.alloc (.cells #[.slice none 0 0, .int .i64 most] 72))) := Lib.hid
    ⟨⟨Box.new _ _ _, Own.nil _ _ _ _, hB⟩, (Below.refl _ _).alloc (Nat.le_refl _) _⟩
  go_enter Try.func8, Try.ntmps8
  go_wp2
  go_ret
  exact ⟨rfl, FIN.out⟩
theorem len_at {w : World} {B q cap : Nat} {a : Option Addr} {rs : List Rq} {most : Int} (h : Qm w B q a cap rs most) :
    Calls Try.prog 18 #[.pointer (some ⟨q, 0, none⟩)] w fun e w' => e = .returned (.int .i64 (rs.length : Int)) ∧ w' = w := by
  have CN := Lib.hid (count_at h)
  have lq := h.box.lt
  clear h
  go_enter Try.func18, Try.ntmps18
  go_wp2_with fail
  refine CN.out.mono ?_
  rintro e w1 ⟨rfl, rfl⟩
  go_wp2
  go_ret
  exact ⟨rfl, rfl⟩
/-- A request that is none. -/
def rq0 : Rq := ⟨0, ⟨#[]⟩, ⟨#[]⟩, 0, 0⟩
def headQ (rs : List Rq) : Rq := rs.headD rq0
theorem first_nil (w : World) : Calls Try.prog 17 #[.pointer none] w fun e w' => e = .returned (.tuple #[.agg (rqA rq0), .bool false]) ∧ Below w.heap.size w w' := by
  have LN := Lib.hid (fun W => len_nil W)
  have RB := Lib.hid (Box.new w #[.int .i64 0, .string ⟨#[]⟩, .string ⟨#[]⟩, .int .i64 0, .int .i64 0] 27)
  have B0 := Lib.hid ((Below.refl w.heap.size w).alloc (Nat.le_refl _) (.cells #[.int .i64 0, .string ⟨#[]⟩, .string ⟨#[]⟩, .int .i64 0, .int .i64 0] 27))
  unfold rqA rq0
  dsimp only
  go_enter Try.func17, Try.ntmps17
  go_upto_region 1 with fail
  obtain ⟨wz, hwz⟩ : ∃ W, w.alloc (.cells #[.int .i64 0, .string ⟨#[]⟩, .string ⟨#[]⟩, .int .i64 0, .int .i64 0] 27) = W := ⟨_, rfl⟩
  rw [hwz] at RB B0
  rw [hwz]
  clear hwz
  go_wp2_with fail
  refine (LN.out _).mono ?_
  rintro e w1 ⟨rfl, rfl⟩
  have RZ := RB
  have BZ := B0
  have s0 := RZ.out.cell 0
  have t0 := RZ.out.free 0
  have s1 := RZ.out.cell 1
  have t1 := RZ.out.free 1
  have s2 := RZ.out.cell 2
  have t2 := RZ.out.free 2
  have s3 := RZ.out.cell 3
  have t3 := RZ.out.free 3
  have s4 := RZ.out.cell 4
  have t4 := RZ.out.free 4
  have lS := RZ.out.lt
  go_wp2
  exact bodyPost_ret (v := .tuple #[.agg #[.int .i64 0, .string ⟨#[]⟩, .string ⟨#[]⟩, .int .i64 0, .int .i64 0], .bool false]) (by simp [results, Try.results17, go_sem, s0, s1, s2, s3, s4]) rfl ⟨rfl, (((((BZ.out.setCell (p := ⟨w.heap.size, 0, none⟩) (Nat.le_refl _) _).setCell (p := ⟨w.heap.size, 1, none⟩) (Nat.le_refl _) _).setCell (p := ⟨w.heap.size, 2, none⟩) (Nat.le_refl _) _).setCell (p := ⟨w.heap.size, 3, none⟩) (Nat.le_refl _) _).setCell (p := ⟨w.heap.size, 4, none⟩) (Nat.le_refl _) _)⟩
set_option maxHeartbeats 2000000 in
theorem first_at {w : World} {B q cap : Nat} {a : Option Addr} {rs : List Rq} {most : Int} (h : Qm w B q a cap rs most) :
    Calls Try.prog 17 #[.pointer (some ⟨q, 0, none⟩)] w fun e w' => e = .returned (.tuple #[.agg (rqA (headQ rs)), .bool (!rs.isEmpty)]) ∧ Below w.heap.size w w' := by
  have RB := Lib.hid (Box.new w #[.int .i64 0, .string ⟨#[]⟩, .string ⟨#[]⟩, .int .i64 0, .int .i64 0] 27)
  have B0 := Lib.hid ((Below.refl w.heap.size w).alloc (Nat.le_refl _) (.cells #[.int .i64 0, .string ⟨#[]⟩, .string ⟨#[]⟩, .int .i64 0, .int .i64 0] 27))
  have Q1 := Lib.hid (h.later B0.out)
  have hqw := h.box.lt
  cases rs with
  | nil =>
    show Calls _ _ _ _ fun e w' => e = .returned (.tuple #[.agg #[.int .i64 0, .string ⟨#[]⟩, .string ⟨#[]⟩, .int .i64 0, .int .i64 0], .bool false]) ∧ Below w.heap.size w w'
    clear h
    go_enter Try.func17, Try.ntmps17
    go_upto_region 1 with fail
    obtain ⟨wz, hwz⟩ : ∃ W, w.alloc (.cells #[.int .i64 0, .string ⟨#[]⟩, .string ⟨#[]⟩, .int .i64 0, .int .i64 0] 27) = W := ⟨_, rfl⟩
    rw [hwz] at RB B0 Q1
    rw [hwz]
    clear hwz
    have LN := Lib.hid (len_at Q1.out)
    go_wp2_with fail
    refine LN.out.mono ?_
    rintro e w1 ⟨rfl, rfl⟩
    have RZ := RB
    have BZ := B0
    have s0 := RZ.out.cell 0
    have t0 := RZ.out.free 0
    have s1 := RZ.out.cell 1
    have t1 := RZ.out.free 1
    have s2 := RZ.out.cell 2
    have t2 := RZ.out.free 2
    have s3 := RZ.out.cell 3
    have t3 := RZ.out.free 3
    have s4 := RZ.out.cell 4
    have t4 := RZ.out.free 4
    have lS := RZ.out.lt
    go_wp2
    exact bodyPost_ret (v := .tuple #[.agg #[.int .i64 0, .string ⟨#[]⟩, .string ⟨#[]⟩, .int .i64 0, .int .i64 0], .bool false]) (by simp [results, Try.results17, go_sem, s0, s1, s2, s3, s4]) rfl ⟨rfl, (((((BZ.out.setCell (p := ⟨w.heap.size, 0, none⟩) (Nat.le_refl _) _).setCell (p := ⟨w.heap.size, 1, none⟩) (Nat.le_refl _) _).setCell (p := ⟨w.heap.size, 2, none⟩) (Nat.le_refl _) _).setCell (p := ⟨w.heap.size, 3, none⟩) (Nat.le_refl _) _).setCell (p := ⟨w.heap.size, 4, none⟩) (Nat.le_refl _) _)⟩
  | cons x t =>
    show Calls _ _ _ _ fun e w' => e = .returned (.tuple #[.agg (rqA x), .bool true]) ∧ Below w.heap.size w w'
    clear h
    obtain ⟨n, hn⟩ : ∃ n, (x :: t).length = n := ⟨_, rfl⟩
    have hn0 : 0 < n := by rw [← hn]; simp
    obtain ⟨g, hga, _⟩ := Q1.out.own.some_ (by rw [hn]; exact hn0)
    subst hga
    have hx : (x :: t)[0]? = some x := rfl
    unfold rqA
    obtain ⟨xi, xh, xp, xr, xt⟩ := x
    dsimp only
    go_enter Try.func17, Try.ntmps17
    go_upto_region 1 with fail
    obtain ⟨wz, hwz⟩ : ∃ W, w.alloc (.cells #[.int .i64 0, .string ⟨#[]⟩, .string ⟨#[]⟩, .int .i64 0, .int .i64 0] 27) = W := ⟨_, rfl⟩
    rw [hwz] at RB B0 Q1
    rw [hwz]
    clear hwz
    have LN := Lib.hid (len_at Q1.out)
    rw [hn] at LN
    go_wp2_with fail
    refine LN.out.mono ?_
    rintro e w1 ⟨rfl, rfl⟩
    have RZ := RB
    have BZ := B0
    have c0 := Q1.out.box.cell 0
    rw [hn] at c0
    have lq := Q1.out.box.lt
    have m0 : w1.cell? ⟨g, 0, none⟩ = some (.int .i64 xi) := Q1.out.own.cell rfl
    have m1 : w1.cell? ⟨g, 1, none⟩ = some (.string xh) := Q1.out.own.cell rfl
    have m2 : w1.cell? ⟨g, 2, none⟩ = some (.string xp) := Q1.out.own.cell rfl
    have m3 : w1.cell? ⟨g, 3, none⟩ = some (.int .i64 xr) := Q1.out.own.cell rfl
    have m4 : w1.cell? ⟨g, 4, none⟩ = some (.int .i64 xt) := Q1.out.own.cell rfl
    have hz : ((n : Int) == 0) = false := beq_eq_false_iff_ne.2 (by omega)
    have hq0 : (0 : Int) < (n : Int) := by omega
    have s0 := RZ.out.cell 0
    have t0 := RZ.out.free 0
    have s1 := RZ.out.cell 1
    have t1 := RZ.out.free 1
    have s2 := RZ.out.cell 2
    have t2 := RZ.out.free 2
    have s3 := RZ.out.cell 3
    have t3 := RZ.out.free 3
    have s4 := RZ.out.cell 4
    have t4 := RZ.out.free 4
    have lS := RZ.out.lt
    clear Q1 LN hn hx
    go_wp2
    exact bodyPost_ret (v := .tuple #[.agg #[.int .i64 xi, .string xh, .string xp, .int .i64 xr, .int .i64 xt], .bool true]) (by simp [results, Try.results17, go_sem, s0, s1, s2, s3, s4]) rfl ⟨rfl, (((((BZ.out.setCell (p := ⟨w.heap.size, 0, none⟩) (Nat.le_refl _) _).setCell (p := ⟨w.heap.size, 1, none⟩) (Nat.le_refl _) _).setCell (p := ⟨w.heap.size, 2, none⟩) (Nat.le_refl _) _).setCell (p := ⟨w.heap.size, 3, none⟩) (Nat.le_refl _) _).setCell (p := ⟨w.heap.size, 4, none⟩) (Nat.le_refl _) _)⟩
theorem drop_at {w : World} {B q cap : Nat} {a : Option Addr} {rs : List Rq} {most : Int} (h : Qm w B q a cap rs most) (n : Nat) (hn : rs.length = n) (hn2 : n ≤ 999999) (hB : B ≤ w.heap.size) (id : Int) :
    Calls Try.prog 13 #[.pointer (some ⟨q, 0, none⟩), .int .i64 id] w fun e w' => e = .returned (.bool (rs.any (idB id))) ∧ ∃ a' cap', Qm w' B q a' cap' (rs.filter fun x => !idB id x) most ∧ TurnQ q a w a' w' := by
  have BN := Lib.hid (Box.new w #[.int .i64 id] 3)
  have BB := Lib.hid ((Below.refl w.heap.size w).alloc (Nat.le_refl _) (.cells #[.int .i64 id] 3))
  have RM : Hid (∀ W, Below w.heap.size w W → Box W w.heap.size #[.int .i64 id] 3 → Calls Try.prog 33 #[.pointer (some ⟨q, 0, none⟩), .func (.func 34) #[] #[.pointer (some ⟨w.heap.size, 0, none⟩)]] W (RemP B q a rs (idB id) most W)) := Lib.hid (fun W hW hb => remove_at (h.later hW) n hn hn2 (Nat.le_trans hB hW.size) _ _ _ egD (meantD id _ W hb))
  have lq0 := h.box.lt
  have HV : Hid (decide (0 < (rs.filter (idB id)).length) = rs.any (idB id)) := Lib.hid (by
    rw [Bool.eq_iff_iff, decide_eq_true_eq, List.any_eq_true]
    constructor
    · intro hl
      obtain ⟨y, hy⟩ := List.exists_mem_of_length_pos (l := rs.filter (idB id)) (by omega)
      obtain ⟨h1, h2⟩ := List.mem_filter.1 hy
      exact ⟨y, h1, h2⟩
    · rintro ⟨y, h1, h2⟩
      have := List.length_pos_of_mem (List.mem_filter.2 ⟨h1, h2⟩)
      omega)
  obtain ⟨b, hb⟩ : ∃ b, rs.any (idB id) = b := ⟨_, rfl⟩
  rw [hb] at HV ⊢
  have TQ : Hid (∀ a' w', TurnQ q a (w.alloc (.cells #[.int .i64 id] 3)) a' w' → TurnQ q a w a' w') := Lib.hid (fun a' w' ht => (TurnQ.of_below BB.out).trans ht)
  clear h hb hn
  go_enter Try.func13, Try.ntmps13
  go_upto_region 1 with fail
  obtain ⟨w1, hw1⟩ : ∃ W, w.alloc (.cells #[.int .i64 id] 3) = W := ⟨_, rfl⟩
  rw [hw1] at BN BB TQ
  rw [hw1]
  clear hw1
  have lN := BN.out.lt
  go_wp2_with fail
  refine (RM.out _ BB.out BN.out).mono ?_
  rintro e w2 ⟨a', cap', ag, cg, rfl, hq, ht, _, _⟩
  have FIN := Lib.hid (⟨a', cap', hq, TQ.out _ _ ht⟩ : ∃ a' cap', Qm w2 B q a' cap' (rs.filter fun x => !idB id x) most ∧ TurnQ q a w a' w2)
  obtain ⟨m, hm⟩ : ∃ m, (rs.filter (idB id)).length = m := ⟨_, rfl⟩
  rw [hm] at HV ⊢
  have hv := HV.out
  clear hq ht hm TQ RM
  go_wp2
  go_ret
  exact ⟨rfl, FIN.out⟩
theorem late_at {w : World} {B q cap : Nat} {a : Option Addr} {rs : List Rq} {most : Int} (h : Qm w B q a cap rs most) (n : Nat) (hn : rs.length = n) (hn2 : n ≤ 999999) (hB : B ≤ w.heap.size) (now : Int) :
    Calls Try.prog 16 #[.pointer (some ⟨q, 0, none⟩), .int .i64 now] w (RemP B q a rs (lateB now) most w) := by
  have BN := Lib.hid (Box.new w #[.int .i64 now] 3)
  have BB := Lib.hid ((Below.refl w.heap.size w).alloc (Nat.le_refl _) (.cells #[.int .i64 now] 3))
  have RM : Hid (∀ W, Below w.heap.size w W → Box W w.heap.size #[.int .i64 now] 3 → Calls Try.prog 33 #[.pointer (some ⟨q, 0, none⟩), .func (.func 35) #[] #[.pointer (some ⟨w.heap.size, 0, none⟩)]] W (RemP B q a rs (lateB now) most W)) := Lib.hid (fun W hW hb => remove_at (h.later hW) n hn hn2 (Nat.le_trans hB hW.size) _ _ _ egL (meantL now _ W hb))
  have lq0 := h.box.lt
  have TQ : Hid (∀ a' w', TurnQ q a (w.alloc (.cells #[.int .i64 now] 3)) a' w' → TurnQ q a w a' w') := Lib.hid (fun a' w' ht => (TurnQ.of_below BB.out).trans ht)
  clear h hn
  go_enter Try.func16, Try.ntmps16
  go_upto_region 1 with fail
  obtain ⟨w1, hw1⟩ : ∃ W, w.alloc (.cells #[.int .i64 now] 3) = W := ⟨_, rfl⟩
  rw [hw1] at BN BB TQ
  rw [hw1]
  clear hw1
  have lN := BN.out.lt
  go_wp2_with fail
  refine (RM.out _ BB.out BN.out).mono ?_
  rintro e w2 ⟨a', cap', ag, cg, rfl, hq, ht, ho, hne⟩
  have FIN := Lib.hid (⟨a', cap', ag, cg, rfl, hq, TQ.out _ _ ht, ho.mono BB.out.size, hne⟩ : RemP B q a rs (lateB now) most w (.returned (.slice ag (rs.filter (lateB now)).length cg)) w2)
  obtain ⟨m, hm⟩ : ∃ m, (rs.filter (lateB now)).length = m := ⟨_, rfl⟩
  have FIN2 : Hid (RemP B q a rs (lateB now) most w (.returned (.slice ag m cg)) w2) := Lib.hid (by rw [← hm]; exact FIN.out)
  rw [hm]
  clear hq ht ho hne hm TQ RM FIN
  go_wp2
  go_ret
  exact FIN2.out
end Go.Proofs.Ytbifnmlhbepadaa
