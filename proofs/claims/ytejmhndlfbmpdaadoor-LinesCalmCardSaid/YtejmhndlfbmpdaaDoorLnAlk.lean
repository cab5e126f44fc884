/- The law's groups compared: the same are alike. -/
import Derived.Test.YtejmhndlfbmpdaaDoorLnPair
namespace Go.Proofs.YtejmhndlfbmpdaaDoor
open Go Go.RowKit
set_option linter.unusedVariables false
set_option linter.unusedSimpArgs false
set_option maxRecDepth 10000

theorem agC_get {l : List (List Int)} {i : Nat} {z : List Int} (h : l[i]? = some z) : (agC l)[i]? = some (.string (strL z)) := by
  unfold agC
  rw [List.getElem?_map, h]
  rfl
theorem ruC_get {l : List (Bool × List Int)} {i : Nat} {z : Bool × List Int} (h : l[i]? = some z) : (ruC l)[i * 2]? = some (.bool z.1) ∧ (ruC l)[i * 2 + 1]? = some (.string (strL z.2)) := by
  induction l generalizing i with
  | nil => simp at h
  | cons y t ih =>
    have e : ruC (y :: t) = .bool y.1 :: .string (strL y.2) :: ruC t := by simp [ruC]
    rw [e]
    cases i with
    | zero =>
      simp at h
      subst h
      simp
    | succ i =>
      have := ih (i := i) (by simpa using h)
      rw [show (i + 1) * 2 = i * 2 + 1 + 1 by omega, show i * 2 + 1 + 1 + 1 = (i * 2 + 1) + 1 + 1 by omega]
      simpa using this
theorem GsM.cell {E : TypeId} {B cap g : Nat} {w : World} {L : List (Gp × GpA)} (h : GsM E B w (some ⟨g, 0, none⟩) cap L) {i : Nat} {x : Gp × GpA} (hx : L[i]? = some x) (j : Nat) (hj : j < 3) : w.cell? ⟨g, i * 3 + j, none⟩ = (gpC x)[j]? := by
  have h2 := gsC_get hx j hj
  have el : (gpC x).length = 3 := rfl
  rw [← h2]
  have hi := (List.getElem?_eq_some_iff.1 hx).1
  exact (h.own.cell (List.getElem?_eq_getElem (by rw [gsC_len]; omega))).trans (List.getElem?_eq_getElem _).symm
/-- What the walk is told of one group. -/
structure G1 (w : World) (g i : Nat) (x : Gp × GpA) : Prop where
  c0 : w.cell? ⟨g, i * 3, none⟩ = some (.slice x.2.aa x.1.ag.length x.2.ac)
  c1 : w.cell? ⟨g, i * 3 + 1, none⟩ = some (.slice x.2.ra x.1.ru.length x.2.rc)
  c2 : w.cell? ⟨g, i * 3 + 2, none⟩ = some (.int .i64 x.1.de)
  ag : ∀ k z, x.1.ag[k]? = some z → ∃ r, x.2.aa = some ⟨r, 0, none⟩ ∧ w.cell? ⟨r, k, none⟩ = some (.string (strL z))
  ru : ∀ k z, x.1.ru[k]? = some z → ∃ r, x.2.ra = some ⟨r, 0, none⟩ ∧ w.cell? ⟨r, k * 2, none⟩ = some (.bool z.1) ∧ w.cell? ⟨r, k * 2 + 1, none⟩ = some (.string (strL z.2))
  la : x.1.ag.length ≤ 9223372036854775807
  lr : x.1.ru.length ≤ 9223372036854775807
theorem G1.later {w w' : World} {g i : Nat} {x : Gp × GpA} (h : G1 w g i x) (hb : Below w.heap.size w w') : G1 w' g i x := by
  have k : ∀ {p : Addr} {u : Value}, w.cell? p = some u → w'.cell? p = some u := fun hp => (hb.cell (World.block_lt_of_cell? _ _ hp)).trans hp
  refine ⟨k h.c0, k h.c1, k h.c2, fun j z hz => ?_, fun j z hz => ?_, h.la, h.lr⟩
  · obtain ⟨r, h1, h2⟩ := h.ag j z hz
    exact ⟨r, h1, k h2⟩
  · obtain ⟨r, h1, h2, h3⟩ := h.ru j z hz
    exact ⟨r, h1, k h2, k h3⟩
theorem GsM.one {E : TypeId} {B cap g : Nat} {w : World} {L : List (Gp × GpA)} (h : GsM E B w (some ⟨g, 0, none⟩) cap L) {i : Nat} {x : Gp × GpA} (hx : L[i]? = some x) : G1 w g i x := by
  have hr := h.all x (List.mem_of_getElem? hx)
  refine ⟨h.cell hx 0 (by omega), h.cell hx 1 (by omega), h.cell hx 2 (by omega), fun k z hz => ?_, fun k z hz => ?_, Nat.le_trans hr.a.cap_le hr.a.max, Nat.le_trans hr.r.cap_le hr.r.max⟩
  · have hk := (List.getElem?_eq_some_iff.1 hz).1
    obtain ⟨r, h1, _⟩ := Own.some_ hr.a (by omega)
    have h2 := hr.a
    rw [h1] at h2
    exact ⟨r, h1, h2.cell (agC_get hz)⟩
  · have hk := (List.getElem?_eq_some_iff.1 hz).1
    obtain ⟨r, h1, _⟩ := Own.some_ hr.r (by omega)
    have h2 := hr.r
    rw [h1] at h2
    exact ⟨r, h1, h2.cell (ruC_get hz).1, h2.cell (ruC_get hz).2⟩
set_option maxHeartbeats 4000000 in
theorem alike_yes (GA GB : List (Gp × GpA)) (n : Nat) (hn : GA.length = n) (hm : GB.length = n) (heq : GA.map (·.1) = GB.map (·.1)) (hn2 : n ≤ 10000) (a b : Option Addr) (ca cb B1 B2 : Nat) (w : World) (h1 : GsM 53 B1 w a ca GA) (h2 : GsM 59 B2 w b cb GB) :
    Calls Tryd.prog 15 #[.slice a n ca, .slice b n cb] w fun e w' => e = .returned (.bool true) ∧ Below w.heap.size w w' := by
  have HA : Hid (∀ i, i < n → ∃ ga gb x y, a = some ⟨ga, 0, none⟩ ∧ b = some ⟨gb, 0, none⟩ ∧ G1 w ga i x ∧ G1 w gb i y ∧ x.1 = y.1) := Lib.hid (fun i hi => by
    obtain ⟨ga, rfl, _⟩ := Own.some_ h1.own (by omega)
    obtain ⟨gb, rfl, _⟩ := Own.some_ h2.own (by omega)
    have hx : GA[i]? = some GA[i] := List.getElem?_eq_getElem (by omega)
    have hy : GB[i]? = some GB[i] := List.getElem?_eq_getElem (by omega)
    refine ⟨ga, gb, _, _, rfl, rfl, h1.one hx, h2.one hy, ?_⟩
    have := congrArg (fun l => l[i]?) heq
    simp only [List.getElem?_map, hx, hy, Option.map_some] at this
    injection this)
  clear h1 h2 hn hm heq
  go_enter Tryd.func15, Tryd.ntmps15
  go_wp2_with fail
  go_loopw [4, 5, 6, 7] (fun r j _ _ wr => ∃ i : Nat, i ≤ n ∧ r = .bool false ∧ j = .int .i64 (i : Int) ∧ Hid (Below w.heap.size w wr)) (fun _ j _ _ _ => n - (intOf j).toNat)
  case atStart => exact ⟨0, by omega, rfl, rfl, Lib.hid (Below.refl _ _)⟩
  case round =>
    obtain ⟨i, hi, rfl, rfl, BR⟩ := hrel
    by_cases hlt : i < n
    · have hkd : decide ((i : Int) < (n : Int)) = true := decide_eq_true (by omega)
      obtain ⟨ga, gb, x, y, ha, hb, gx, gy, hxy⟩ := HA.out i hlt
      subst ha
      subst hb
      obtain ⟨g, xa⟩ := x
      obtain ⟨g', ya⟩ := y
      dsimp only at hxy
      subst hxy
      obtain ⟨aa, ac, ra, rc⟩ := xa
      obtain ⟨ba, bc, sa, sc⟩ := ya
      have GX := Lib.hid gx
      have GY := Lib.hid gy
      have x0 := (gx.later BR.out).c0
      have x1 := (gx.later BR.out).c1
      have x2 := (gx.later BR.out).c2
      have y0 := (gy.later BR.out).c0
      have y1 := (gy.later BR.out).c1
      have y2 := (gy.later BR.out).c2
      have la := gx.la
      have lr := gx.lr
      dsimp only at x0 x1 x2 y0 y1 y2 la lr
      have ix0 : (0 : Int) ≤ (i : Int) := by omega
      have ix1 : (i : Int) < (n : Int) := by omega
      clear gx gy
      go_upto_region 6 with fail
      go_quiet (fail)
      obtain ⟨w1, hw1⟩ : ∃ W, wr.drewN nq = W := ⟨_, rfl⟩
      have B1 : Hid (Below w.heap.size w w1) := Lib.hid (by rw [← hw1]; exact ln_drewN BR.out nq)
      rw [hw1]
      clear hw1 x0 x1 x2 y0 y1 y2 BR
      go_upto_region 8 with fail
      go_wp2_with fail
      go_loopw [4, 6] (fun r j wr => ∃ k : Nat, k ≤ g.ag.length ∧ r = .bool false ∧ j = .int .i64 (k : Int) ∧ Hid (Below w.heap.size w wr)) (fun _ j _ => g.ag.length - (intOf j).toNat)
      case atStart => exact ⟨0, by omega, rfl, rfl, B1⟩
      case round =>
        clear B1
        obtain ⟨k, hk, rfl, rfl, BR⟩ := hrel
        have x0 := (GX.out.later BR.out).c0
        have y0 := (GY.out.later BR.out).c0
        dsimp only at x0 y0
        by_cases hk2 : k < g.ag.length
        · have kd : decide ((k : Int) < (g.ag.length : Int)) = true := decide_eq_true (by omega)
          obtain ⟨z, hz⟩ : ∃ z, g.ag[k]? = some z := ⟨_, List.getElem?_eq_getElem hk2⟩
          obtain ⟨r1, hr1, cr1⟩ := (GX.out.later BR.out).ag k z hz
          obtain ⟨r2, hr2, cr2⟩ := (GY.out.later BR.out).ag k z hz
          dsimp only at hr1 hr2
          subst hr1
          subst hr2
          have kx0 : (0 : Int) ≤ (k : Int) := by omega
          have kx1 : (k : Int) < (g.ag.length : Int) := by omega
          clear hz
          go_upto_region 11 with fail
          go_quiet (fail)
          obtain ⟨w2, hw2⟩ : ∃ W, wr.drewN nq = W := ⟨_, rfl⟩
          have B2 : Hid (Below w.heap.size w w2) := Lib.hid (by rw [← hw2]; exact ln_drewN BR.out nq)
          rw [hw2]
          clear hw2 x0 y0 cr1 cr2 BR
          go_wp2
          go_roundw
          case rel => exact ⟨k + 1, by omega, rfl, by go_num, B2⟩
          case measure => simp [intOf]; omega
        · have kd : decide ((k : Int) < (g.ag.length : Int)) = false := decide_eq_false (by omega)
          have B1 := BR
          clear hk BR
          go_upto_region 13 with fail
          clear x0 y0 kd hk2
          go_wp2_with fail
          go_loopw [4, 7] (fun r j wr => ∃ k : Nat, k ≤ g.ru.length ∧ r = .bool false ∧ j = .int .i64 (k : Int) ∧ Hid (Below w.heap.size w wr)) (fun _ j _ => g.ru.length - (intOf j).toNat)
          case atStart => exact ⟨0, by omega, rfl, rfl, B1⟩
          case round =>
            clear B1
            obtain ⟨k2, hk, rfl, rfl, BR⟩ := hrel
            have x0 := (GX.out.later BR.out).c1
            have y0 := (GY.out.later BR.out).c1
            dsimp only at x0 y0
            by_cases hk2 : k2 < g.ru.length
            · have kd : decide ((k2 : Int) < (g.ru.length : Int)) = true := decide_eq_true (by omega)
              obtain ⟨z, hz⟩ : ∃ z, g.ru[k2]? = some z := ⟨_, List.getElem?_eq_getElem hk2⟩
              obtain ⟨r1, hr1, cr1, dr1⟩ := (GX.out.later BR.out).ru k2 z hz
              obtain ⟨r2, hr2, cr2, dr2⟩ := (GY.out.later BR.out).ru k2 z hz
              dsimp only at hr1 hr2
              subst hr1
              subst hr2
              have kx0 : (0 : Int) ≤ (k2 : Int) := by omega
              have kx1 : (k2 : Int) < (g.ru.length : Int) := by omega
              clear hz
              go_upto_region 16 with fail
              go_quiet (fail)
              obtain ⟨w2, hw2⟩ : ∃ W, wr.drewN nq = W := ⟨_, rfl⟩
              have B2 : Hid (Below w.heap.size w w2) := Lib.hid (by rw [← hw2]; exact ln_drewN BR.out nq)
              rw [hw2]
              clear hw2 x0 y0 cr1 cr2 dr1 dr2 BR
              go_wp2
              go_roundw
              case rel => exact ⟨k2 + 1, by omega, rfl, by go_num, B2⟩
              case measure => simp [intOf]; omega
            · have kd : decide ((k2 : Int) < (g.ru.length : Int)) = false := decide_eq_false (by omega)
              go_wp2
              go_roundw
              case rel => exact ⟨i + 1, by omega, rfl, by go_num, BR⟩
              case measure => simp [intOf]; omega
    · have hkd : decide ((i : Int) < (n : Int)) = false := decide_eq_false (by omega)
      go_wp2
      go_ret
      exact ⟨rfl, BR.out⟩
end Go.Proofs.YtejmhndlfbmpdaaDoor
