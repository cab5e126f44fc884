/- Part of a chain: SpIn3. -/
import Derived.Test.YteinblpkcpjpnaaGreatDoorSm01
/- SpillLasts: the law's own functions small and in. -/
namespace Go.Proofs.YteinblpkcpjpnaaGreatDoor
open Go Go.RowKit
set_option linter.unusedVariables false
set_option linter.unusedSimpArgs false
set_option maxRecDepth 100000

theorem small_at (r1 : Int) (r2 r3 : ByteArray) (r4 r5 : Int) (w : World) (q : Bool) (hq : q = (decide ((r2.size : Int) ≤ 300) && decide ((r3.size : Int) ≤ 800))) :
    Calls Tryz.prog 10 #[.agg #[.int .i64 r1, .string r2, .string r3, .int .i64 r4, .int .i64 r5]] w fun e w' => e = .returned (.bool q) ∧ Below w.heap.size w w' := by
  go_enter Tryz.func10, Tryz.ntmps10
  by_cases h1 : (r2.size : Int) ≤ 300
  · have d1 : decide ((r2.size : Int) ≤ 300) = true := decide_eq_true h1
    obtain ⟨q2, hq2⟩ : ∃ b, decide ((r3.size : Int) ≤ 800) = b := ⟨_, rfl⟩
    rw [d1, hq2, Bool.true_and] at hq
    subst hq
    cases q with
    | true =>
      go_wp2
      go_ret
      exact ⟨rfl, (Below.refl _ _).alloc (Nat.le_refl _) _⟩
    | false =>
      go_wp2
      go_ret
      exact ⟨rfl, (Below.refl _ _).alloc (Nat.le_refl _) _⟩
  · have d1 : decide ((r2.size : Int) ≤ 300) = false := decide_eq_false h1
    rw [d1, Bool.false_and] at hq
    subst hq
    go_wp2
    go_ret
    exact ⟨rfl, (Below.refl _ _).alloc (Nat.le_refl _) _⟩
def sqR (a b : Rc) : Bool := a.id == b.id && (a.host.toList == b.host.toList && (a.path.toList == b.path.toList && (a.prio == b.prio && a.till == b.till)))
theorem sqR_same (a : Rc) : sqR a a = true := by simp [sqR]
theorem rq_eql (a b : Rc) (q : Bool) (hq : sqR a b = q) (w : World) : (binOp .eql 31 (.agg #[.int .i64 a.id, .string a.host, .string a.path, .int .i64 a.prio, .int .i64 a.till]) (.agg #[.int .i64 b.id, .string b.host, .string b.path, .int .i64 b.prio, .int .i64 b.till])).run Tryz.prog w = .ok (.bool q) w := by
  have ht : Tryz.prog.underlying 31 = some (.struct (Tryz.prog.fieldsOf 31)) := by kernel_rfl
  have hp : Tryz.prog.stoodInHeld 31 = false := by kernel_rfl
  have _hm : Tryz.prog.eqGuardType Tryz.prog.depth 31 = false := by kernel_rfl
  rw [← hq, run_eql_struct, run_equalIn_agg w 9999 _ _ _ ht hp]
  simp only [Program.fieldsOf, Tryz.underlying31]
  simp [go_sem, Tryz.underlying9, Tryz.underlying3]
  unfold sqR
  repeat' split
  all_goals simp_all
set_option maxHeartbeats 2000000 in
theorem in_at (L : List Rc) (n : Nat) (hn : L.length = n) (hn2 : n ≤ 999999) (a : Option Addr) (c : Nat) (r : Rc) (w : World) (h1 : RqAt w a L) (hr : r ∈ L) :
    Calls Tryz.prog 20 #[.slice a n c, .agg #[.int .i64 r.id, .string r.host, .string r.path, .int .i64 r.prio, .int .i64 r.till]] w fun e w' => e = .returned (.bool true) ∧ Below w.heap.size w w' := by
  obtain ⟨m0, hm0, hm1⟩ := List.mem_iff_getElem.1 hr
  have HM : Hid (L[m0]? = some r) := Lib.hid (by rw [List.getElem?_eq_getElem hm0, hm1])
  have HML : Hid (m0 < n) := Lib.hid (by omega)
  have H1 := Lib.hid h1
  have HN := Lib.hid hn
  clear h1 hn hr hm0 hm1
  go_enter Tryz.func20, Tryz.ntmps20
  go_upto_region 1 with fail
  refine code_forget (fun W => Hid (Box W w.heap.size #[.int .i64 r.id, .string r.host, .string r.path, .int .i64 r.prio, .int .i64 r.till] 31) ∧ Hid (Below w.heap.size w W)) ⟨Lib.hid (Box.new w _ _), Lib.hid ((Below.refl w.heap.size w).alloc (Nat.le_refl _) _)⟩ ?_
  obtain ⟨rb, hrb⟩ : ∃ p, w.heap.size = p := ⟨_, rfl⟩
  have HRB := Lib.hid hrb
  rw [hrb]
  rintro w1 ⟨BR, B1⟩
  rw [← HRB.out] at B1
  clear hrb
  go_wp2_with fail
  go_loopw [5] (fun j wr => ∃ i : Nat, i ≤ m0 ∧ j = .int .i64 (i : Int) ∧ Hid (Box wr rb #[.int .i64 r.id, .string r.host, .string r.path, .int .i64 r.prio, .int .i64 r.till] 31) ∧ Hid (Below w.heap.size w wr)) (fun j _ => m0 + 1 - (intOf j).toNat)
  case atStart => exact ⟨0, by omega, rfl, BR, B1⟩
  case round =>
    obtain ⟨i, hi, rfl, BR, HB⟩ := hrel
    have hin : i < n := by have := HML.out; omega
    have hkd : decide ((i : Int) < (n : Int)) = true := decide_eq_true (by omega)
    obtain ⟨z, hz⟩ : ∃ z, L[i]? = some z := ⟨_, List.getElem?_eq_getElem (by rw [HN.out]; exact hin)⟩
    have HZ := Lib.hid hz
    obtain ⟨g1, rfl, m⟩ := (H1.out.later HB.out) i z hz
    have a0 := m 0 _ rfl
    have a1 := m 1 _ rfl
    have a2 := m 2 _ rfl
    have a3 := m 3 _ rfl
    have a4 := m 4 _ rfl
    have k0 := BR.out.cell 0
    have k1 := BR.out.cell 1
    have k2 := BR.out.cell 2
    have k3 := BR.out.cell 3
    have k4 := BR.out.cell 4
    simp only [Nat.add_zero] at a0
    have hx0 : (0 : Int) ≤ (i : Int) := by omega
    have hx1 : (i : Int) < (n : Int) := by omega
    obtain ⟨q, hq⟩ : ∃ q, sqR z r = q := ⟨_, rfl⟩
    have RN := fun W => rq_eql z r q hq W
    have HQ := Lib.hid hq
    clear m hz H1 hq
    go_upto_region 4 with fail
    go_quiet (fail)
    cases q with
    | true =>
      go_wp2
      go_ret
      exact ⟨rfl, bin_drewN HB.out nq⟩
    | false =>
      have hlt : i < m0 := by
        refine Nat.lt_of_le_of_ne hi (fun e => ?_)
        have h9 := HZ.out
        rw [e, HM.out] at h9
        injection h9 with h9
        have h8 := HQ.out
        rw [← h9, sqR_same] at h8
        cases h8
      have BRN : Hid (Box (wr.drewN nq) rb #[.int .i64 r.id, .string r.host, .string r.path, .int .i64 r.prio, .int .i64 r.till] 31) := Lib.hid (BR.out.later (bin_drewN (Below.refl _ _) nq))
      go_wp2
      go_roundw
      case rel => exact ⟨i + 1, by omega, by simp, BRN, Lib.hid (bin_drewN HB.out nq)⟩
      case measure =>
        simp only [intOf]
        omega
end Go.Proofs.YteinblpkcpjpnaaGreatDoor
