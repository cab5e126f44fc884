/- Part of a chain: SpLog, SpNil. -/
import Derived.Test.YteinblpkcpjpnaaGreatDoorSc21
/- Package spill: Until and Next of a log; Load of no log. -/
namespace Go.Proofs.YteinblpkcpjpnaaGreatDoor
open Go Go.RowKit Go.Maps
set_option linter.unusedVariables false
set_option linter.unusedSimpArgs false
set_option maxRecDepth 100000

def nextI (x : Ix) : Int := if x.top = 9223372036854775807 then x.top else x.top + 1
theorem until_at {w : World} {B L : Nat} {cs : Array Value} {pm : Nat} {wm : Option Nat} {x : Ix} (h : IxM w B L 2 cs 70 pm wm x) (s : ByteArray) (hs : okS s) :
    Calls Tryz.prog 21 #[.pointer (some ⟨L, 0, none⟩), .string s] w fun e w' => e = .returned (.int .i64 (tillI x s)) ∧ w' = w := by
  obtain ⟨u, hu⟩ : ∃ u, (gA x.waits s).getD wt0 = u := ⟨_, rfl⟩
  have ht : tillI x s = u.till := by unfold tillI; rw [hu]
  rw [ht]
  obtain ⟨u0, u1, u2, u3⟩ := u
  have c1 := (h.box.cell (2 + 1)).trans h.c1
  have lk : (Instr.lookup 64 (.map wm) (.string s) false).run Tryz.prog w = .ok (.agg #[.int .i64 u0, .int .i64 u1, .int .i64 u2, .int .i64 u3]) w := by
    rw [h.waits.look s hs, hu]
    rfl
  have fl : ∀ W : World, (Instr.field 84 (.agg #[.int .i64 u0, .int .i64 u1, .int .i64 u2, .int .i64 u3]) 0).run Tryz.prog W = .ok (.int .i64 u0) W := fun W => by kernel_rfl
  simp only [Nat.reduceAdd] at c1
  clear h hu ht
  go_enter Tryz.func21, Tryz.ntmps21
  go_wp2
  go_ret
  exact ⟨rfl, rfl⟩
theorem next_at {w : World} {B L : Nat} {cs : Array Value} {pm : Nat} {wm : Option Nat} {x : Ix} (h : IxM w B L 2 cs 70 pm wm x) (h1 : -9223372036854775808 ≤ x.top) (h2 : x.top ≤ 9223372036854775807) :
    Calls Tryz.prog 11 #[.pointer (some ⟨L, 0, none⟩)] w fun e w' => e = .returned (.int .i64 (nextI x)) ∧ w' = w := by
  have c2 := (h.box.cell (2 + 2)).trans h.c2
  simp only [Nat.reduceAdd] at c2
  obtain ⟨t, ht⟩ : ∃ t, x.top = t := ⟨_, rfl⟩
  have hn : nextI x = if t = 9223372036854775807 then t else t + 1 := by unfold nextI; rw [ht]
  rw [hn]
  rw [ht] at c2 h1 h2
  clear h hn ht
  go_enter Tryz.func11, Tryz.ntmps11
  by_cases hm : t = 9223372036854775807
  · have d2 : (t == 9223372036854775807) = true := beq_iff_eq.2 hm
    rw [if_pos hm]
    subst hm
    go_wp2
    go_ret
    exact ⟨rfl, rfl⟩
  · have d2 : (t == 9223372036854775807) = false := beq_eq_false_iff_ne.2 hm
    have d3 : IntKind.i64.wrap (t + 1) = t + 1 := by rw [IntKind.wrap_i64]; omega
    rw [if_neg hm]
    go_wp2
    go_ret
    exact ⟨rfl, rfl⟩
theorem nil_Load (n : Int) (w : World) : Calls Tryz.prog 23 #[.pointer none, .int .i64 n] w fun e w' => e = .returned (.tuple #[.agg #[.int .i64 0, .string ⟨#[]⟩, .string ⟨#[]⟩, .int .i64 0, .int .i64 0], .bool false]) ∧ Below w.heap.size w w' := by
  have BX := Box.new w #[.int .i64 0, .string ⟨#[]⟩, .string ⟨#[]⟩, .int .i64 0, .int .i64 0] 31
  have FIN := Lib.hid (BX.setRow #[.int .i64 0, .string ⟨#[]⟩, .string ⟨#[]⟩, .int .i64 0, .int .i64 0])
  have BZ := Lib.hid (below_row (g := w.heap.size) ((Below.refl w.heap.size w).alloc (Nat.le_refl _) (.cells #[.int .i64 0, .string ⟨#[]⟩, .string ⟨#[]⟩, .int .i64 0, .int .i64 0] 31)) (Nat.le_refl _) #[.int .i64 0, .string ⟨#[]⟩, .string ⟨#[]⟩, .int .i64 0, .int .i64 0])
  go_enter Tryz.func23, Tryz.ntmps23
  go_upto_region 2 with fail
  go_wp2_with (refine wpList_storeRow rfl rfl rfl rfl BX rfl (by kernel_rfl) (by simp [Value.oneCell']) ?_)
  refine bodyPost_ret (results_cell_tmp Tryz.results23 rfl (req_row FIN.out rfl)) rfl ?_
  exact ⟨rfl, BZ.out⟩
end Go.Proofs.YteinblpkcpjpnaaGreatDoor
/- Package spill: the functions of no log. -/
namespace Go.Proofs.YteinblpkcpjpnaaGreatDoor
open Go Go.RowKit Go.Maps
set_option linter.unusedVariables false
set_option linter.unusedSimpArgs false
set_option maxRecDepth 100000

theorem nil_Put (r1 : Int) (r2 r3 : ByteArray) (r4 r5 : Int) (w : World) : Calls Tryz.prog 13 #[.pointer none, .agg #[.int .i64 r1, .string r2, .string r3, .int .i64 r4, .int .i64 r5]] w fun e w' => e = .returned (.int .i64 1) ∧ Below w.heap.size w w' := by
  go_enter Tryz.func13, Tryz.ntmps13
  go_wp2
  go_ret
  exact ⟨rfl, by first | exact Below.refl _ _ | exact (Below.refl _ _).alloc (Nat.le_refl _) _⟩
theorem nil_Done (n : Int) (w : World) : Calls Tryz.prog 14 #[.pointer none, .int .i64 n] w fun e w' => e = .returned (.int .i64 1) ∧ Below w.heap.size w w' := by
  go_enter Tryz.func14, Tryz.ntmps14
  go_wp2
  go_ret
  exact ⟨rfl, by first | exact Below.refl _ _ | exact (Below.refl _ _).alloc (Nat.le_refl _) _⟩
theorem nil_Wait (h : ByteArray) (n : Int) (w : World) : Calls Tryz.prog 15 #[.pointer none, .string h, .int .i64 n] w fun e w' => e = .returned (.int .i64 1) ∧ Below w.heap.size w w' := by
  go_enter Tryz.func15, Tryz.ntmps15
  go_wp2
  go_ret
  exact ⟨rfl, by first | exact Below.refl _ _ | exact (Below.refl _ _).alloc (Nat.le_refl _) _⟩
theorem nil_Compact  (w : World) : Calls Tryz.prog 16 #[.pointer none] w fun e w' => e = .returned (.int .i64 1) ∧ Below w.heap.size w w' := by
  go_enter Tryz.func16, Tryz.ntmps16
  go_wp2
  go_ret
  exact ⟨rfl, by first | exact Below.refl _ _ | exact (Below.refl _ _).alloc (Nat.le_refl _) _⟩
theorem nil_Pending  (w : World) : Calls Tryz.prog 19 #[.pointer none] w fun e w' => e = .returned (.slice none 0 0) ∧ Below w.heap.size w w' := by
  go_enter Tryz.func19, Tryz.ntmps19
  go_wp2
  go_ret
  exact ⟨rfl, by first | exact Below.refl _ _ | exact (Below.refl _ _).alloc (Nat.le_refl _) _⟩
theorem nil_Until (h : ByteArray) (w : World) : Calls Tryz.prog 21 #[.pointer none, .string h] w fun e w' => e = .returned (.int .i64 0) ∧ Below w.heap.size w w' := by
  go_enter Tryz.func21, Tryz.ntmps21
  go_wp2
  go_ret
  exact ⟨rfl, by first | exact Below.refl _ _ | exact (Below.refl _ _).alloc (Nat.le_refl _) _⟩
theorem nil_Next  (w : World) : Calls Tryz.prog 11 #[.pointer none] w fun e w' => e = .returned (.int .i64 0) ∧ Below w.heap.size w w' := by
  go_enter Tryz.func11, Tryz.ntmps11
  go_wp2
  go_ret
  exact ⟨rfl, by first | exact Below.refl _ _ | exact (Below.refl _ _).alloc (Nat.le_refl _) _⟩
theorem nil_Size  (w : World) : Calls Tryz.prog 22 #[.pointer none] w fun e w' => e = .returned (.int .i64 0) ∧ Below w.heap.size w w' := by
  go_enter Tryz.func22, Tryz.ntmps22
  go_wp2
  go_ret
  exact ⟨rfl, by first | exact Below.refl _ _ | exact (Below.refl _ _).alloc (Nat.le_refl _) _⟩
theorem nil_Open (n : Int) (w : World) : Calls Tryz.prog 9 #[.pointer none, .int .i64 n] w fun e w' => e = .returned (.tuple #[.pointer none, .int .i64 1]) ∧ Below w.heap.size w w' := by
  go_enter Tryz.func9, Tryz.ntmps9
  go_wp2
  go_ret2
  exact ⟨rfl, by first | exact Below.refl _ _ | exact (Below.refl _ _).alloc (Nat.le_refl _) _⟩
end Go.Proofs.YteinblpkcpjpnaaGreatDoor
