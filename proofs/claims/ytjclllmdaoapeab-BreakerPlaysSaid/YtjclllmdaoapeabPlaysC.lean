/- The law on any breaker, walked, where the state is C. -/
import Derived.Test.YtjclllmdaoapeabPlays
namespace Go.Proofs.Ytjclllmdaoapeab
open Go.RowKit

set_option maxRecDepth 100000 in
set_option maxHeartbeats 8000000 in
theorem plays_C (f t now fl most opn : Int)  (w : World) :
    Calls Try.prog 8 #[.agg #[.int .i64 2, .int .i64 f, .int .i64 t], .int .i64 now, .int .i64 fl, .int .i64 most, .int .i64 opn] w fun e w' => e = .returned (.bool true) ∧ Below w.heap.size w w' := by
  have HMAY : Hid (mayB 2 t now fl = decide (fl < 1)) := Lib.hid (by unfold mayB; rw [if_neg (by omega), if_neg (by omega)])
  have HSEND : Hid (sendS 2 t now = 2) := Lib.hid (by unfold sendS; rw [if_neg (by omega)])
  go_enter Try.func8, Try.ntmps8
  go_upto_if 44 with fail
  go_cut [] (fun wx => ∃ g : Int, Hid (g = max f 0) ∧ wx = ((w.alloc (.cells #[.int .i64 2, .int .i64 f, .int .i64 t] 36)).alloc (.cells #[.int .i64 2, .int .i64 f, .int .i64 t] 36)).alloc (.cells #[.int .i64 2, .int .i64 g, .int .i64 t] 36))
  case first =>
    by_cases h : f < 0
    · have E := Lib.hid (show (0 : Int) = max f 0 by omega)
      go_wp2_with fail
      go_meet
      exact ⟨0, E, rfl⟩
    · have E := Lib.hid (show f = max f 0 by omega)
      go_wp2_with fail
      go_meet
      exact ⟨f, E, rfl⟩
  case rest =>
    obtain ⟨g, HG, rfl⟩ := hcut
    have g0 : 0 ≤ g := by have := HG.out; omega
    go_upto_if 48 with fail
    go_cut [] (fun wx => ∃ g : Int, 0 ≤ g ∧ g ≤ 1099511627776 ∧ Hid (failF f = g + 1) ∧ wx = ((w.alloc (.cells #[.int .i64 2, .int .i64 f, .int .i64 t] 36)).alloc (.cells #[.int .i64 2, .int .i64 f, .int .i64 t] 36)).alloc (.cells #[.int .i64 2, .int .i64 g, .int .i64 t] 36))
    case first =>
      by_cases h : 1099511627776 < g
      · have E := Lib.hid (show failF f = 1099511627776 + 1 by have := HG.out; unfold failF; omega)
        go_wp2_with fail
        go_meet
        exact ⟨1099511627776, by omega, by omega, E, rfl⟩
      · have E := Lib.hid (show failF f = g + 1 by have := HG.out; unfold failF; omega)
        go_wp2_with fail
        go_meet
        exact ⟨g, by omega, by omega, E, rfl⟩
    case rest =>
      clear HG g0
      obtain ⟨g, g0, g1, HF, rfl⟩ := hcut
      go_upto_if 56 with fail
      go_cut [14] (fun x wx => ∃ m : Int, Hid (m = max most 1) ∧ x = .int .i64 m ∧ wx = ((w.alloc (.cells #[.int .i64 2, .int .i64 f, .int .i64 t] 36)).alloc (.cells #[.int .i64 2, .int .i64 f, .int .i64 t] 36)).alloc (.cells #[.int .i64 2, .int .i64 (g + 1), .int .i64 t] 36))
      case first =>
        by_cases h : most < 1
        · have E := Lib.hid (show (1 : Int) = max most 1 by omega)
          go_wp2_with fail
          go_meet
          exact ⟨1, E, rfl, rfl⟩
        · have E := Lib.hid (show most = max most 1 by omega)
          go_wp2_with fail
          go_meet
          exact ⟨most, E, rfl, rfl⟩
      case rest =>
        obtain ⟨m, HM, rfl, rfl⟩ := hcut
        have a1 := addI_lo now opn
        have a2 := addI_hi now opn
        obtain ⟨x, hx⟩ : ∃ x, addI now opn = x := ⟨_, rfl⟩
        rw [hx] at a1 a2
        have HX := Lib.hid hx
        clear hx
        go_upto_if 65 with fail
        go_cut [] (fun wx => ∃ a c : Int, Hid (a = failS 2 f most) ∧ Hid (c = failU 2 f t now most opn) ∧ wx = ((w.alloc (.cells #[.int .i64 2, .int .i64 f, .int .i64 t] 36)).alloc (.cells #[.int .i64 2, .int .i64 f, .int .i64 t] 36)).alloc (.cells #[.int .i64 a, .int .i64 (g + 1), .int .i64 c] 36))
        case first =>
          by_cases h : t < x
          · have EU := Lib.hid (show x = failU 2 f t now most opn by unfold failU failT; rw [if_pos (.inl rfl), HX.out]; omega)
            have ES := Lib.hid (show 1 = failS 2 f most by unfold failS; rw [if_pos (.inl rfl)])
            go_wp2_with (go_at_call 20; refine (radd_as _ _ _ HX.out _).mono ?_; rintro e w' ⟨rfl, rfl⟩)
            go_meet
            exact ⟨1, x, ES, EU, rfl⟩
          · have EU := Lib.hid (show t = failU 2 f t now most opn by unfold failU failT; rw [if_pos (.inl rfl), HX.out]; omega)
            have ES := Lib.hid (show 1 = failS 2 f most by unfold failS; rw [if_pos (.inl rfl)])
            go_wp2_with (go_at_call 20; refine (radd_as _ _ _ HX.out _).mono ?_; rintro e w' ⟨rfl, rfl⟩)
            go_meet
            exact ⟨1, t, ES, EU, rfl⟩
        case rest =>
          obtain ⟨a, c, HS, HU, rfl⟩ := hcut
          have x5 := ((Box.new w #[.int .i64 2, .int .i64 f, .int .i64 t] 36).alloc (.cells #[.int .i64 2, .int .i64 f, .int .i64 t] 36)).alloc (.cells #[.int .i64 a, .int .i64 (g + 1), .int .i64 c] 36)
          have x12 := (Box.new (w.alloc (.cells #[.int .i64 2, .int .i64 f, .int .i64 t] 36)) #[.int .i64 2, .int .i64 f, .int .i64 t] 36).alloc (.cells #[.int .i64 a, .int .i64 (g + 1), .int .i64 c] 36)
          have x13 := Box.new ((w.alloc (.cells #[.int .i64 2, .int .i64 f, .int .i64 t] 36)).alloc (.cells #[.int .i64 2, .int .i64 f, .int .i64 t] 36)) #[.int .i64 a, .int .i64 (g + 1), .int .i64 c] 36
          rw [World.size_alloc] at x12
          rw [World.size_alloc, World.size_alloc] at x13
          have hB := ((((Below.refl w.heap.size w).alloc (Nat.le_refl _) (.cells #[.int .i64 2, .int .i64 f, .int .i64 t] 36)).alloc (by simp) (.cells #[.int .i64 2, .int .i64 f, .int .i64 t] 36)).alloc (by simp; omega) (.cells #[.int .i64 a, .int .i64 (g + 1), .int .i64 c] 36))
          go_wp2_with fail
          generalize ((w.alloc (.cells #[.int .i64 2, .int .i64 f, .int .i64 t] 36)).alloc (.cells #[.int .i64 2, .int .i64 f, .int .i64 t] 36)).alloc (.cells #[.int .i64 a, .int .i64 (g + 1), .int .i64 c] 36) = wz at *
          have k0 := x5.cell 0
          have k1 := x5.cell 1
          have k2 := x5.cell 2
          have k3 := x12.cell 0
          have k4 := x12.cell 1
          have k5 := x12.cell 2
          have k6 := x13.cell 0
          have k7 := x13.cell 1
          have k8 := x13.cell 2
          simp at k0 k1 k2 k3 k4 k5 k6 k7 k8
          clear x5 x12 x13
          go_region_held3 (fun w' => Below w.heap.size w w' ∧ w'.cell? ⟨w.heap.size, 0, none⟩ = some (.int .i64 2) ∧ w'.cell? ⟨w.heap.size, 1, none⟩ = some (.int .i64 f) ∧ w'.cell? ⟨w.heap.size, 2, none⟩ = some (.int .i64 t) ∧
              w'.cell? ⟨w.heap.size + 1, 0, none⟩ = some (.int .i64 2) ∧ w'.cell? ⟨w.heap.size + 1, 1, none⟩ = some (.int .i64 f) ∧ w'.cell? ⟨w.heap.size + 1, 2, none⟩ = some (.int .i64 t) ∧
              w'.cell? ⟨w.heap.size + 2, 0, none⟩ = some (.int .i64 a) ∧ w'.cell? ⟨w.heap.size + 2, 1, none⟩ = some (.int .i64 (g + 1)) ∧ w'.cell? ⟨w.heap.size + 2, 2, none⟩ = some (.int .i64 c))
            (first
              | exact ⟨hB.drew, k0, k1, k2, k3, k4, k5, k6, k7, k8⟩
              | exact held9 (by assumption) hb)
            (first
              | (go_at_call 21; refine (awake19 _).mono ?_; rintro e w' ⟨rfl, hb⟩)
              | (go_at_call 22; refine (may_at _ _ _ _ _ _ HMAY.out _).mono ?_; rintro e w' ⟨rfl, hb⟩)
              | (go_at_call 23; refine (send_at _ _ _ _ _ HSEND.out _).mono ?_; rintro e w' ⟨rfl, hb⟩)
              | (go_at_call 24; refine (fail_at _ _ _ _ _ _ _ _ _ HS.out.symm HF.out HU.out.symm _).mono ?_; rintro e w' ⟨rfl, hb⟩)
              | (go_at_call 25; refine (good_at _ _ _ _).mono ?_; rintro e w' ⟨rfl, hb⟩))
          have hq := ‹Below w.heap.size w w' ∧ _›
          go_wp2
          go_ret
          exact ⟨rfl, hq.1⟩

end Go.Proofs.Ytjclllmdaoapeab
