/- UrlParses: the walk. -/
import Derived.Test.YtcdodpkfhkfnkaaDoorUrAwk
import Derived.Test.YtcdodpkfhkfnkaaDoorUrEq
namespace Go.Proofs.YtcdodpkfhkfnkaaDoor
open Go.RowKit
set_option linter.unusedVariables false
set_option linter.unusedSimpArgs false
set_option maxRecDepth 10000

theorem prV_form (r : PR) : ∃ (a b c d : ByteArray) (p e : Int) (k : Bool), prV r = .tuple #[.agg #[.string a, .string b, .int .i64 p, .string c, .string d, .bool k], .int .i64 e] := by
  cases r
  · exact ⟨_, _, _, _, _, _, _, rfl⟩
  · exact ⟨_, _, _, _, _, _, _, rfl⟩
  · exact ⟨_, _, _, _, _, _, _, rfl⟩
  · exact ⟨_, _, _, _, _, _, _, rfl⟩
set_option maxHeartbeats 1000000 in
theorem urlParses_walk (s : ByteArray) (w : World) (hs : s.size ≤ maxLen) (hT : TabsU w) :
    Calls Tryd.prog 7 #[.string s] w fun e w' => e = .returned (.bool true) ∧ Below w.heap.size w w' := by
  unfold maxLen at hs
  have HT := Lib.hid hT
  obtain ⟨x, hx⟩ : ∃ x, (if 600 < s.size then s.extract 0 600 else s) = x := ⟨_, rfl⟩
  obtain ⟨va, vb, vc, vd, vp, ve, vk, hv⟩ := prV_form (parI (btL x))
  have C1 : Hid (∀ W : World, TabsU W → Calls Tryd.prog 22 #[.string x] W fun e w' => e = .returned (.tuple #[.agg #[.string va, .string vb, .int .i64 vp, .string vc, .string vd, .bool vk], .int .i64 ve]) ∧ Below W.heap.size W w') := Lib.hid (fun W hW => by
    have := parse_any x _ rfl W hW
    rw [hv] at this
    exact this)
  have C2 : Hid (∀ W : World, Calls Tryd.prog 23 #[.string x] W fun e w' => e = .returned (.tuple #[.agg #[.string va, .string vb, .int .i64 vp, .string vc, .string vd, .bool vk], .int .i64 ve]) ∧ Below W.heap.size W w') := Lib.hid (fun W => by
    have := rparse_any x _ rfl W
    rw [hv] at this
    exact this)
  have HEQ := url_same va vb vc vd vp vk
  clear hv hT
  by_cases h : 600 < s.size
  · have d : decide ((600 : Int) < (s.size : Int)) = true := decide_eq_true (by omega)
    have i0 : (600 : Int) ≤ (s.size : Int) := by omega
    rw [if_pos h] at hx
    have HX := Lib.hid hx
    clear hx
    go_enter Tryd.func7, Tryd.ntmps7
    go_wp2_with fail
    rw [HX.out]
    refine (C1.out _ HT.out).mono ?_
    rintro e w1 ⟨rfl, hb1⟩
    have B1 := Lib.hid hb1
    have T1 := Lib.hid (HT.out.later hb1)
    clear hb1
    go_wp2_with fail
    obtain ⟨g, hg⟩ : ∃ g, w1.heap.size = g := ⟨_, rfl⟩
    rw [hg]
    refine calls_forget (fun w2 => Hid (Box w2 g #[.string va, .string vb, .int .i64 vp, .string vc, .string vd, .bool vk] 41) ∧ Hid (TabsU w2) ∧ Hid (Below w.heap.size w w2)) ⟨Lib.hid (box_new_at hg.symm), Lib.hid (T1.out.later ((Below.refl _ _).alloc (Nat.le_refl _) _)), Lib.hid (B1.out.alloc B1.out.size _)⟩ ?_
    clear hg
    rintro w2 ⟨X2, T2, B2⟩
    clear T1 B1
    refine (C2.out _).mono ?_
    rintro e w3 ⟨rfl, hb3⟩
    have X3 := Lib.hid (X2.out.later hb3)
    have T3 := Lib.hid (T2.out.later hb3)
    have B3 := Lib.hid (B2.out.trans (hb3.mono B2.out.size))
    clear hb3 X2 T2 B2
    go_wp2_with fail
    obtain ⟨g2, hg2⟩ : ∃ g2, w3.heap.size = g2 := ⟨_, rfl⟩
    rw [hg2]
    refine calls_forget (fun w4 => Hid (Box w4 g #[.string va, .string vb, .int .i64 vp, .string vc, .string vd, .bool vk] 41) ∧ Hid (Box w4 g2 #[.string va, .string vb, .int .i64 vp, .string vc, .string vd, .bool vk] 41) ∧ Hid (TabsU w4) ∧ Hid (Below w.heap.size w w4)) ⟨Lib.hid (X3.out.alloc _), Lib.hid (box_new_at hg2.symm), Lib.hid (T3.out.later ((Below.refl _ _).alloc (Nat.le_refl _) _)), Lib.hid (B3.out.alloc B3.out.size _)⟩ ?_
    clear hg2
    rintro w4 ⟨X4, Y4, T4, B4⟩
    clear X3 T3 B3
    refine (awake_at _ T4.out).mono ?_
    rintro e w5 ⟨rfl, hb5⟩
    have X5 := Lib.hid (X4.out.later hb5)
    have Y5 := Lib.hid (Y4.out.later hb5)
    have B5 := Lib.hid (B4.out.trans (hb5.mono B4.out.size))
    clear hb5 X4 Y4 T4 B4
    obtain ⟨⟨c0, c1, c2, c3, c4, c5⟩, ⟨f0, f1, f2, f3, f4, f5⟩, lt⟩ := box6 X5.out
    obtain ⟨⟨e0, e1, e2, e3, e4, e5⟩, ⟨g0, g1, g2', g3, g4, g5⟩, lt2⟩ := box6 Y5.out
    clear f0 f1 f2 f3 f4 f5 g0 g1 g2' g3 g4 g5
    go_wp2
    go_ret
    exact ⟨rfl, B5.out⟩
  · have d : decide ((600 : Int) < (s.size : Int)) = false := decide_eq_false (by omega)
    rw [if_neg h] at hx
    subst hx
    go_enter Tryd.func7, Tryd.ntmps7
    go_wp2_with fail
    refine (C1.out _ HT.out).mono ?_
    rintro e w1 ⟨rfl, hb1⟩
    have B1 := Lib.hid hb1
    have T1 := Lib.hid (HT.out.later hb1)
    clear hb1
    go_wp2_with fail
    obtain ⟨g, hg⟩ : ∃ g, w1.heap.size = g := ⟨_, rfl⟩
    rw [hg]
    refine calls_forget (fun w2 => Hid (Box w2 g #[.string va, .string vb, .int .i64 vp, .string vc, .string vd, .bool vk] 41) ∧ Hid (TabsU w2) ∧ Hid (Below w.heap.size w w2)) ⟨Lib.hid (box_new_at hg.symm), Lib.hid (T1.out.later ((Below.refl _ _).alloc (Nat.le_refl _) _)), Lib.hid (B1.out.alloc B1.out.size _)⟩ ?_
    clear hg
    rintro w2 ⟨X2, T2, B2⟩
    clear T1 B1
    refine (C2.out _).mono ?_
    rintro e w3 ⟨rfl, hb3⟩
    have X3 := Lib.hid (X2.out.later hb3)
    have T3 := Lib.hid (T2.out.later hb3)
    have B3 := Lib.hid (B2.out.trans (hb3.mono B2.out.size))
    clear hb3 X2 T2 B2
    go_wp2_with fail
    obtain ⟨g2, hg2⟩ : ∃ g2, w3.heap.size = g2 := ⟨_, rfl⟩
    rw [hg2]
    refine calls_forget (fun w4 => Hid (Box w4 g #[.string va, .string vb, .int .i64 vp, .string vc, .string vd, .bool vk] 41) ∧ Hid (Box w4 g2 #[.string va, .string vb, .int .i64 vp, .string vc, .string vd, .bool vk] 41) ∧ Hid (TabsU w4) ∧ Hid (Below w.heap.size w w4)) ⟨Lib.hid (X3.out.alloc _), Lib.hid (box_new_at hg2.symm), Lib.hid (T3.out.later ((Below.refl _ _).alloc (Nat.le_refl _) _)), Lib.hid (B3.out.alloc B3.out.size _)⟩ ?_
    clear hg2
    rintro w4 ⟨X4, Y4, T4, B4⟩
    clear X3 T3 B3
    refine (awake_at _ T4.out).mono ?_
    rintro e w5 ⟨rfl, hb5⟩
    have X5 := Lib.hid (X4.out.later hb5)
    have Y5 := Lib.hid (Y4.out.later hb5)
    have B5 := Lib.hid (B4.out.trans (hb5.mono B4.out.size))
    clear hb5 X4 Y4 T4 B4
    obtain ⟨⟨c0, c1, c2, c3, c4, c5⟩, ⟨f0, f1, f2, f3, f4, f5⟩, lt⟩ := box6 X5.out
    obtain ⟨⟨e0, e1, e2, e3, e4, e5⟩, ⟨g0, g1, g2', g3, g4, g5⟩, lt2⟩ := box6 Y5.out
    clear f0 f1 f2 f3 f4 f5 g0 g1 g2' g3 g4 g5
    go_wp2
    go_ret
    exact ⟨rfl, B5.out⟩
end Go.Proofs.YtcdodpkfhkfnkaaDoor
