/- The document's own Same, of Robots that hold the same. -/
import Derived.Test.YtodlecjbpmggiaaGreatDoorRbMg
import Derived.Laws.StructEq
import Derived.BigQuiet
namespace Go.Proofs.YtodlecjbpmggiaaGreatDoor
open Go Go.RowKit
set_option linter.unusedVariables false
set_option linter.unusedSimpArgs false
set_option maxRecDepth 10000

theorem rule_neq (b : Bool) (s : ByteArray) (w : World) : (binOp .neq 30 (.agg #[.bool b, .string s]) (.agg #[.bool b, .string s])).run Tryz.prog w = .ok (.bool false) w := by
  have ht : Tryz.prog.underlying 30 = some (.struct (Tryz.prog.fieldsOf 30)) := by kernel_rfl
  have hp : Tryz.prog.stoodInHeld 30 = false := by kernel_rfl
  have _hm : Tryz.prog.eqGuardType Tryz.prog.depth 30 = false := by kernel_rfl
  rw [run_neq_struct, run_equalIn_agg w 9999 _ _ _ ht hp]
  simp only [Program.fieldsOf, Tryz.underlying30]
  simp [go_sem, Tryz.underlying4, Tryz.underlying9]
theorem ruC_get {l : List (Bool × List Int)} {i : Nat} {z : Bool × List Int} (h : l[i]? = some z) : (ruC l)[i * 2]? = some (.bool z.1) ∧ (ruC l)[i * 2 + 1]? = some (.string (strL z.2)) := by
  induction l generalizing i with
  | nil => simp at h
  | cons y t ih =>
    have e : ruC (y :: t) = .bool y.1 :: .string (strL y.2) :: ruC t := by simp [ruC]
    rw [e]
    cases i with
    | zero =>
      simp at h
      subst h
      simp
    | succ i =>
      have := ih (i := i) (by simpa using h)
      rw [show (i + 1) * 2 = i * 2 + 1 + 1 by omega, show i * 2 + 1 + 1 + 1 = (i * 2 + 1) + 1 + 1 by omega]
      simpa using this
set_option maxHeartbeats 4000000 in
theorem same_at (al no : Bool) (d : Int) (L : List (Bool × List Int)) (n : Nat) (hn : L.length = n) (hn2 : n ≤ 1000000) (a1 a2 : Option Addr) (c1 c2 : Nat) (w : World) (h1 : RdC w a1 (ruC L)) (h2 : RdC w a2 (ruC L)) :
    Calls Tryz.prog 7 #[.agg #[.bool al, .bool no, .slice a1 n c1, .int .i64 d], .agg #[.bool al, .bool no, .slice a2 n c2, .int .i64 d]] w fun e w' => e = .returned (.bool true) ∧ Below w.heap.size w w' := by
  have BX := Lib.hid ((Box.new w #[.bool al, .bool no, .slice a1 n c1, .int .i64 d] 26).alloc (.cells #[.bool al, .bool no, .slice a2 n c2, .int .i64 d] 26))
  have BY : Hid (Box ((w.alloc (.cells #[.bool al, .bool no, .slice a1 n c1, .int .i64 d] 26)).alloc (.cells #[.bool al, .bool no, .slice a2 n c2, .int .i64 d] 26)) (w.heap.size + 1) #[.bool al, .bool no, .slice a2 n c2, .int .i64 d] 26) := Lib.hid (by simpa using Box.new (w.alloc (.cells #[.bool al, .bool no, .slice a1 n c1, .int .i64 d] 26)) #[.bool al, .bool no, .slice a2 n c2, .int .i64 d] 26)
  have BB := Lib.hid (((Below.refl w.heap.size w).alloc (Nat.le_refl _) (.cells #[.bool al, .bool no, .slice a1 n c1, .int .i64 d] 26)).alloc (by simp) (.cells #[.bool al, .bool no, .slice a2 n c2, .int .i64 d] 26))
  have H1 := Lib.hid (h1.later BB.out)
  have H2 := Lib.hid (h2.later BB.out)
  have HN := Lib.hid hn
  clear h1 h2 hn
  have q0 : (al != al) = false := by simp
  have q1 : (no != no) = false := by simp
  have q2 : (d != d) = false := by simp
  have q3 : ((n : Int) != (n : Int)) = false := by simp
  go_enter Tryz.func7, Tryz.ntmps7
  go_upto_region 1 with fail
  obtain ⟨w1, hw1⟩ : ∃ W, (w.alloc (.cells #[.bool al, .bool no, .slice a1 n c1, .int .i64 d] 26)).alloc (.cells #[.bool al, .bool no, .slice a2 n c2, .int .i64 d] 26) = W := ⟨_, rfl⟩
  rw [hw1] at BX BY BB H1 H2
  rw [hw1]
  clear hw1
  have c0 := BX.out.cell 0
  have c1 := BX.out.cell 1
  have c2 := BX.out.cell 2
  have c3 := BX.out.cell 3
  have k0 := BY.out.cell 0
  have k1 := BY.out.cell 1
  have k2 := BY.out.cell 2
  have k3 := BY.out.cell 3
  have lx := BX.out.lt
  have ly := BY.out.lt
  go_wp2_with fail
  clear c0 c1 c2 c3 k0 k1 k2 k3 q0 q1 q2 q3
  go_loopw [5] (fun j wr => ∃ i : Nat, i ≤ n ∧ j = .int .i64 (i : Int) ∧ w.heap.size + 1 < wr.heap.size ∧ Hid (Below w1.heap.size w1 wr)) (fun j _ => n - (intOf j).toNat)
  case atStart => exact ⟨0, by omega, rfl, ly, Lib.hid (Below.refl _ _)⟩
  case round =>
    obtain ⟨i, hi, rfl, sz, HB⟩ := hrel
    have x2 := (BX.out.later HB.out).cell 2
    have y2 := (BY.out.later HB.out).cell 2
    by_cases hlt : i < n
    · have hkd : decide ((i : Int) < (n : Int)) = true := decide_eq_true (by omega)
      obtain ⟨z, hz⟩ : ∃ z, L[i]? = some z := ⟨_, List.getElem?_eq_getElem (by rw [HN.out]; exact hlt)⟩
      obtain ⟨e1, e2⟩ := ruC_get hz
      obtain ⟨g1, rfl, m1⟩ := H1.out _ _ e1
      obtain ⟨g1', hg, m2⟩ := H1.out _ _ e2
      injection hg with hg
      injection hg with hg
      subst hg
      obtain ⟨g2, rfl, m3⟩ := H2.out _ _ e1
      obtain ⟨g2', hg, m4⟩ := H2.out _ _ e2
      injection hg with hg
      injection hg with hg
      subst hg
      have n1 := (HB.out.cell (World.block_lt_of_cell? _ _ m1)).trans m1
      have n2 := (HB.out.cell (World.block_lt_of_cell? _ _ m2)).trans m2
      have n3 := (HB.out.cell (World.block_lt_of_cell? _ _ m3)).trans m3
      have n4 := (HB.out.cell (World.block_lt_of_cell? _ _ m4)).trans m4
      have RN := fun W => rule_neq z.1 (strL z.2) W
      obtain ⟨zb, zs⟩ := z
      obtain ⟨sv, hsv⟩ : ∃ sv, strL zs = sv := ⟨_, rfl⟩
      dsimp only at n1 n2 n3 n4 RN
      rw [hsv] at n2 n4 RN
      have hx0 : (0 : Int) ≤ (i : Int) := by omega
      have hx1 : (i : Int) < (n : Int) := by omega
      clear e1 e2 m1 m2 m3 m4 hz hsv H1 H2 BX BY
      go_upto_region 6 with fail
      go_quiet (fail)
      go_wp2
      go_roundw
      case rel => exact ⟨i + 1, by omega, by simp, by simpa using sz, Lib.hid (ln_drewN HB.out nq)⟩
      case measure =>
        simp only [intOf]
        omega
    · have hkd : decide ((i : Int) < (n : Int)) = false := decide_eq_false (by omega)
      obtain rfl : i = n := by omega
      go_wp2
      go_ret
      exact ⟨rfl, BB.out.trans (HB.out.mono BB.out.size)⟩
end Go.Proofs.YtodlecjbpmggiaaGreatDoor
