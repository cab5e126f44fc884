/- Lists of requests that are the same; a list that came in. -/
import Derived.Test.YtbifnmlhbepadaaQuAwk
import Derived.Test.YtbifnmlhbepadaaQuOpen
namespace Go.Proofs.Ytbifnmlhbepadaa
open Go Go.RowKit
set_option linter.unusedVariables false
set_option linter.unusedSimpArgs false
set_option maxRecDepth 100000

theorem rq_neq (i : Int) (h p : ByteArray) (r t : Int) (w : World) : (binOp .neq 27 (.agg #[.int .i64 i, .string h, .string p, .int .i64 r, .int .i64 t]) (.agg #[.int .i64 i, .string h, .string p, .int .i64 r, .int .i64 t])).run Try.prog w = .ok (.bool false) w := by
  have ht : Try.prog.underlying 27 = some (.struct (Try.prog.fieldsOf 27)) := by kernel_rfl
  have hp : Try.prog.stoodInHeld 27 = false := by kernel_rfl
  have _hm : Try.prog.eqGuardType Try.prog.depth 27 = false := by kernel_rfl
  rw [run_neq_struct, run_equalIn_agg w 9999 _ _ _ ht hp]
  simp only [Program.fieldsOf, Try.underlying27]
  simp [go_sem, Try.underlying9, Try.underlying3]
set_option maxHeartbeats 2000000 in
theorem reqs_at (L : List Rq) (n : Nat) (hn : L.length = n) (hn2 : n ≤ 999999) (a1 a2 : Option Addr) (c1 c2 : Nat) (w : World) (h1 : RdQ w a1 L) (h2 : RdQ w a2 L) :
    Calls Try.prog 15 #[.slice a1 n c1, .slice a2 n c2] w fun e w' => e = .returned (.bool true) ∧ Below w.heap.size w w' := by
  have H1 := Lib.hid h1
  have H2 := Lib.hid h2
  have HN := Lib.hid hn
  clear h1 h2 hn
  have q3 : ((n : Int) != (n : Int)) = false := by simp
  go_enter Try.func15, Try.ntmps15
  go_wp2_with fail
  clear q3
  go_loopw [5] (fun j wr => ∃ i : Nat, i ≤ n ∧ j = .int .i64 (i : Int) ∧ Hid (Below w.heap.size w wr)) (fun j _ => n - (intOf j).toNat)
  case atStart => exact ⟨0, by omega, rfl, Lib.hid (Below.refl _ _)⟩
  case round =>
    obtain ⟨i, hi, rfl, HB⟩ := hrel
    by_cases hlt : i < n
    · have hkd : decide ((i : Int) < (n : Int)) = true := decide_eq_true (by omega)
      obtain ⟨z, hz⟩ : ∃ z, L[i]? = some z := ⟨_, List.getElem?_eq_getElem (by rw [HN.out]; exact hlt)⟩
      obtain ⟨g1, rfl, m⟩ := (H1.out.later HB.out) i z hz
      obtain ⟨g2, rfl, k⟩ := (H2.out.later HB.out) i z hz
      have m0 := m.c0
      have m1 := m.c1
      have m2 := m.c2
      have m3 := m.c3
      have m4 := m.c4
      have k0 := k.c0
      have k1 := k.c1
      have k2 := k.c2
      have k3 := k.c3
      have k4 := k.c4
      have RN := fun W => rq_neq z.id z.host z.path z.prio z.til W
      obtain ⟨zi, zh, zp, zr, zt⟩ := z
      dsimp only at m0 m1 m2 m3 m4 k0 k1 k2 k3 k4 RN
      have hx0 : (0 : Int) ≤ (i : Int) := by omega
      have hx1 : (i : Int) < (n : Int) := by omega
      clear m k hz H1 H2
      go_upto_region 6 with fail
      go_quiet (fail)
      go_wp2
      go_roundw
      case rel => exact ⟨i + 1, by omega, by simp, Lib.hid (bin_drewN HB.out nq)⟩
      case measure =>
        simp only [intOf]
        omega
    · have hkd : decide ((i : Int) < (n : Int)) = false := decide_eq_false (by omega)
      go_wp2
      go_ret
      exact ⟨rfl, HB.out⟩
/-- A list of requests that came in. -/
def RdO (w : World) (a : Option Addr) (rs : List Rq) : Prop := ∃ g off, (rs ≠ [] → a = some ⟨g, off, none⟩) ∧ ∀ i r, rs[i]? = some r → w.cell? ⟨g, off + i * 5, none⟩ = some (.int .i64 r.id) ∧ w.cell? ⟨g, off + i * 5 + 1, none⟩ = some (.string r.host) ∧ w.cell? ⟨g, off + i * 5 + 2, none⟩ = some (.string r.path) ∧ w.cell? ⟨g, off + i * 5 + 3, none⟩ = some (.int .i64 r.prio) ∧ w.cell? ⟨g, off + i * 5 + 4, none⟩ = some (.int .i64 r.til)
def IsReqs (w : World) (x : Option Addr × Nat × Nat) : Prop := ∃ rs : List Rq, rs.length = x.2.1 ∧ x.2.2 ≤ maxLen ∧ x.2.1 ≤ x.2.2 ∧ RdO w x.1 rs
section
open Go.Joins Go.Deep Go.WideShapes
variable {H : Type} {enc : TypeId × Value → H} {w : World} {base b0 : Nat} {held : Bool} {rr : Reach}
theorem open_reqs {v : Value} {d : DataW H} {p : List MemPlace} (hv : Value.okWide Try.prog w rr b0 25 v) (hd : DataW.Trod enc Try.prog w base (fun _ => true) held 25 v d p) :
    ∃ x : Option Addr × Nat × Nat, v = .slice x.1 x.2.1 x.2.2 ∧ IsReqs w x := by
  obtain ⟨a, len, cap, rfl⟩ := okWide_slice Try.underlying25 hv
  refine ⟨(a, len, cap), rfl, ?_⟩
  have h : Fits enc Try.prog w base (fun _ => true) held 25 [.slice a len cap] := Fits.of hd
  obtain ⟨C, ⟨rfl, rfl, rfl⟩ | ⟨x, rfl, hl, hm, hx⟩⟩ := h.elems Try.underlying25 (n := 5) (by kernel_rfl)
  · exact ⟨[], rfl, Nat.zero_le _, Nat.le_refl _, 0, 0, fun h => absurd rfl h, fun i r hi => by simp at hi⟩
  · by_cases h0 : 0 < cap
    · obtain ⟨b, off, rfl, hc⟩ := plain_at (by decide) (fun i hi => ⟨(hx i hi).1, (hx i hi).2.2⟩) h0
      have key : ∀ i, i < cap → ∃ e : Rq, ∀ j v, (rqL e)[j]? = some v → (C i)[j]? = some v := fun i hi => req_of (hx i hi).2.1
      let E : Nat → Rq := fun i => if hi : i < cap then Classical.choose (key i hi) else ⟨0, ⟨#[]⟩, ⟨#[]⟩, 0, 0⟩
      have hE : ∀ i, i < cap → ∀ j v, (rqL (E i))[j]? = some v → (C i)[j]? = some v := fun i hi => by
        simp only [E, dif_pos hi]
        exact Classical.choose_spec (key i hi)
      refine ⟨(List.range len).map E, by simp, hm, hl, b, off, fun _ => rfl, fun i e hi => ?_⟩
      have hil := (List.getElem?_eq_some_iff.1 hi).1
      simp at hil
      have he : E i = e := by simpa [hil] using hi
      subst he
      have h1 := hc i (by omega) 0 _ (hE i (by omega) 0 _ rfl)
      have h2 := hc i (by omega) 1 _ (hE i (by omega) 1 _ rfl)
      have h3 := hc i (by omega) 2 _ (hE i (by omega) 2 _ rfl)
      have h4 := hc i (by omega) 3 _ (hE i (by omega) 3 _ rfl)
      have h5 := hc i (by omega) 4 _ (hE i (by omega) 4 _ rfl)
      exact ⟨by simpa using h1, by simpa using h2, by simpa using h3, by simpa using h4, by simpa using h5⟩
    · obtain rfl : cap = 0 := by omega
      obtain rfl : len = 0 := by omega
      exact ⟨[], rfl, Nat.zero_le _, Nat.le_refl _, 0, 0, fun h => absurd rfl h, fun i r hi => by simp at hi⟩
end
end Go.Proofs.Ytbifnmlhbepadaa
