/- DateThree: the walk. -/
import Derived.Test.YtcdodpkfhkfnkaaDoorDtLaws
namespace Go.Proofs.YtcdodpkfhkfnkaaDoor
open Go.RowKit
set_option linter.unusedVariables false
set_option linter.unusedSimpArgs false
set_option maxRecDepth 10000

set_option maxHeartbeats 2000000 in
theorem dateThree_walk (a b : Int) (w : World) (w0 : (Lit.int .u32 a).wf = true) (w1 : (Lit.int .u32 b).wf = true) (hT : TabT w) :
    Calls Tryd.prog 6 #[.int .u32 a, .int .u32 b] w fun e w' => e = .returned (.bool true) ∧ Below w.heap.size w w' := by
  have l1 : 0 ≤ a ∧ a ≤ 4294967295 := by simp [Lit.wf, IntKind.min, IntKind.max, IntKind.signed, IntKind.bits] at w0; omega
  have l2 : 0 ≤ b ∧ b ≤ 4294967295 := by simp [Lit.wf, IntKind.min, IntKind.max, IntKind.signed, IntKind.bits] at w1; omega
  obtain ⟨l1, l1'⟩ := l1
  obtain ⟨l2, l2'⟩ := l2
  clear w0 w1
  have HT := Lib.hid hT
  have AW := Lib.hid (fun (W : World) (hW : TabT W) => d_awake W hW)
  clear hT
  obtain ⟨y, mo, d, hv, hn⟩ := sec_day a (by omega)
  obtain ⟨t, ht⟩ : ∃ t, strL (firstL (moS a y mo d)) = t := ⟨_, rfl⟩
  have F := Lib.hid (fun (W : World) (hW : TabT W) => format_yes a y mo d t hv hn ht W hW)
  have P : Hid (∀ W : World, TabT W → Calls Tryd.prog 14 #[.string t, .int .i64 a] W fun e w' => e = .returned (.tuple #[.int .i64 a, .bool true]) ∧ Below W.heap.size W w') := Lib.hid (fun W hW => parse_as _ a (some a) (by omega) (by omega) (fun Y _ => (par_first hv hn ht).1) W hW)
  obtain ⟨y2, mo2, d2, hv2, hn2⟩ := sec_day b (by omega)
  obtain ⟨u, hu⟩ : ∃ t, strL (firstL (moS b y2 mo2 d2)) = t := ⟨_, rfl⟩
  have F2 := Lib.hid (fun (W : World) (hW : TabT W) => format_yes b y2 mo2 d2 u hv2 hn2 hu W hW)
  have P2 : Hid (∀ W : World, TabT W → Calls Tryd.prog 14 #[.string u, .int .i64 b] W fun e w' => e = .returned (.tuple #[.int .i64 b, .bool true]) ∧ Below W.heap.size W w') := Lib.hid (fun W hW => parse_as _ b (some b) (by omega) (by omega) (fun Y _ => (par_first hv2 hn2 hu).1) W hW)
  have hiff : (t = u ↔ a = b) := by
    constructor
    · intro h
      have h1 := (par_first (Y := 0) hv hn ht).1
      have h2 := (par_first (Y := 0) hv2 hn2 hu).1
      rw [h, h2] at h1
      injection h1 with h1
      exact h1.symm
    · intro h
      subst h
      obtain ⟨rfl, rfl, rfl⟩ := num_inj y mo d y2 mo2 d2 hv hv2 (by rw [hn, hn2])
      rw [← ht, ← hu]
  clear hv hn ht hv2 hn2 hu
  obtain ⟨c, hc⟩ : ∃ c, decide (a < b) = c := ⟨_, rfl⟩
  obtain ⟨z, hz⟩ : ∃ z, (t.toList == u.toList) = z := ⟨_, rfl⟩
  have hz2 : (a == b) = z := by
    rw [← hz, Bool.eq_iff_iff, beq_iff_eq, beq_iff_eq, ← hiff]
    constructor
    · intro h; rw [h]
    · intro h
      rw [Lib.toList_data, Lib.toList_data] at h
      cases t; cases u
      simp at h
      simp [h]
  have H := Lib.hid hiff
  clear hiff
  go_enter Tryd.func6, Tryd.ntmps6
  go_wp2_with fail
  refine (F.out _ HT.out).mono ?_
  rintro e wa ⟨rfl, B1⟩
  have T1 := Lib.hid (HT.out.later B1)
  have B1 := Lib.hid B1
  go_wp2_with fail
  refine (F2.out _ T1.out).mono ?_
  rintro e wb ⟨rfl, B2⟩
  have T2 := Lib.hid (T1.out.later B2)
  have B2 := Lib.hid (B1.out.trans (B2.mono B1.out.size))
  go_wp2_with fail
  refine (P.out _ T2.out).mono ?_
  rintro e wc ⟨rfl, B3⟩
  have T3 := Lib.hid (T2.out.later B3)
  have B3 := Lib.hid (B2.out.trans (B3.mono B2.out.size))
  go_wp2_with fail
  refine (P2.out _ T3.out).mono ?_
  rintro e wd ⟨rfl, B4⟩
  have T4 := Lib.hid (T3.out.later B4)
  have B4 := Lib.hid (B3.out.trans (B4.mono B3.out.size))
  go_wp2_with fail
  refine (AW.out _ T4.out).mono ?_
  rintro e we ⟨rfl, B5⟩
  have B5 := Lib.hid (B4.out.trans (B5.mono B4.out.size))
  cases c <;> cases z <;> (go_wp2; go_ret; exact ⟨rfl, B5.out⟩)
end Go.Proofs.YtcdodpkfhkfnkaaDoor
