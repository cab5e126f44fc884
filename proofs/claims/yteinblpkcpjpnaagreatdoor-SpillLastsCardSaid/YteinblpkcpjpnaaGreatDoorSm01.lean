/- Part of a chain: SpReq, SpIn2. -/
import Derived.Test.YteinblpkcpjpnaaGreatDoorSc40
/- Lists of requests that are the same. -/
namespace Go.Proofs.YteinblpkcpjpnaaGreatDoor
open Go Go.RowKit
set_option linter.unusedVariables false
set_option linter.unusedSimpArgs false
set_option maxRecDepth 100000

theorem rq_neq (i : Int) (h p : ByteArray) (r t : Int) (w : World) : (binOp .neq 31 (.agg #[.int .i64 i, .string h, .string p, .int .i64 r, .int .i64 t]) (.agg #[.int .i64 i, .string h, .string p, .int .i64 r, .int .i64 t])).run Tryz.prog w = .ok (.bool false) w := by
  have ht : Tryz.prog.underlying 31 = some (.struct (Tryz.prog.fieldsOf 31)) := by kernel_rfl
  have hp : Tryz.prog.stoodInHeld 31 = false := by kernel_rfl
  have _hm : Tryz.prog.eqGuardType Tryz.prog.depth 31 = false := by kernel_rfl
  rw [run_neq_struct, run_equalIn_agg w 9999 _ _ _ ht hp]
  simp only [Program.fieldsOf, Tryz.underlying31]
  simp [go_sem, Tryz.underlying9, Tryz.underlying3]
/-- A list of requests in memory. -/
def RqAt (w : World) (a : Option Addr) (L : List Rc) : Prop := ∀ i r, L[i]? = some r → ∃ g, a = some ⟨g, 0, none⟩ ∧ ∀ j u, (reqL r)[j]? = some u → w.cell? ⟨g, i * 5 + j, none⟩ = some u
theorem RqAt.later {w w' : World} {a : Option Addr} {L : List Rc} (h : RqAt w a L) (hb : Below w.heap.size w w') : RqAt w' a L := fun i r hr => by
  obtain ⟨g, h1, h2⟩ := h i r hr
  exact ⟨g, h1, fun j u hu => (hb.cell (World.block_lt_of_cell? _ _ (h2 j u hu))).trans (h2 j u hu)⟩
theorem rqAt_own {w : World} {B n c : Nat} {a : Option Addr} {L : List Rc} (h : Own w B 31 5 a n c (flatQ L)) (hn : L.length = n) : RqAt w a L := fun i r hr => by
  have hlt : i < L.length := (List.getElem?_eq_some_iff.1 hr).1
  obtain ⟨g, hg, _, _⟩ := h.some_ (by omega)
  refine ⟨g, hg, fun j u hu => ?_⟩
  subst hg
  have hj : j < 5 := (List.getElem?_eq_some_iff.1 hu).1
  exact h.cell (j := i * 5 + j) (by rw [flatQ_at hj hr]; exact hu)
theorem bin_drewN {B : Nat} {a w : World} (h : Below B a w) (n : Nat) : Below B a (w.drewN n) := ⟨h.os, h.tape, h.output, h.size, h.block⟩
set_option maxHeartbeats 2000000 in
theorem reqs_at (L : List Rc) (n : Nat) (hn : L.length = n) (hn2 : n ≤ 999999) (a1 a2 : Option Addr) (c1 c2 : Nat) (w : World) (h1 : RqAt w a1 L) (h2 : RqAt w a2 L) :
    Calls Tryz.prog 24 #[.slice a1 n c1, .slice a2 n c2] w fun e w' => e = .returned (.bool true) ∧ Below w.heap.size w w' := by
  have H1 := Lib.hid h1
  have H2 := Lib.hid h2
  have HN := Lib.hid hn
  clear h1 h2 hn
  have q3 : ((n : Int) != (n : Int)) = false := by simp
  go_enter Tryz.func24, Tryz.ntmps24
  go_wp2_with fail
  clear q3
  go_loopw [5] (fun j wr => ∃ i : Nat, i ≤ n ∧ j = .int .i64 (i : Int) ∧ Hid (Below w.heap.size w wr)) (fun j _ => n - (intOf j).toNat)
  case atStart => exact ⟨0, by omega, rfl, Lib.hid (Below.refl _ _)⟩
  case round =>
    obtain ⟨i, hi, rfl, HB⟩ := hrel
    by_cases hlt : i < n
    · have hkd : decide ((i : Int) < (n : Int)) = true := decide_eq_true (by omega)
      obtain ⟨z, hz⟩ : ∃ z, L[i]? = some z := ⟨_, List.getElem?_eq_getElem (by rw [HN.out]; exact hlt)⟩
      obtain ⟨g1, rfl, m⟩ := (H1.out.later HB.out) i z hz
      obtain ⟨g2, rfl, k⟩ := (H2.out.later HB.out) i z hz
      have m0 := m 0 _ rfl
      have m1 := m 1 _ rfl
      have m2 := m 2 _ rfl
      have m3 := m 3 _ rfl
      have m4 := m 4 _ rfl
      have k0 := k 0 _ rfl
      have k1 := k 1 _ rfl
      have k2 := k 2 _ rfl
      have k3 := k 3 _ rfl
      have k4 := k 4 _ rfl
      have RN := fun W => rq_neq z.id z.host z.path z.prio z.till W
      obtain ⟨zk, zi, zh, zp, zr, zt⟩ := z
      simp only [Nat.add_zero] at m0 k0
      dsimp only at m0 m1 m2 m3 m4 k0 k1 k2 k3 k4 RN
      have hx0 : (0 : Int) ≤ (i : Int) := by omega
      have hx1 : (i : Int) < (n : Int) := by omega
      clear m k hz H1 H2
      go_upto_region 6 with fail
      go_quiet (fail)
      go_wp2
      go_roundw
      case rel => exact ⟨i + 1, by omega, by simp, Lib.hid (bin_drewN HB.out nq)⟩
      case measure =>
        simp only [intOf]
        omega
    · have hkd : decide ((i : Int) < (n : Int)) = false := decide_eq_false (by omega)
      go_wp2
      go_ret
      exact ⟨rfl, HB.out⟩
end Go.Proofs.YteinblpkcpjpnaaGreatDoor
/- Package spill: acts that came in, with their texts' lengths. Written by gen_cmw.py. -/
namespace Go.Proofs.YteinblpkcpjpnaaGreatDoor
open Go Go.RowKit
open Go.Joins Go.Deep Go.WideShapes
set_option linter.unusedVariables false
set_option maxRecDepth 100000
def IsActz (w : World) (x : Option Addr × Nat × Nat) : Prop :=
  ∃ b off, (0 < x.2.1 → x.1 = some ⟨b, off, none⟩) ∧ x.2.1 ≤ maxLen ∧ ∀ i, i < x.2.1 → ∃ e : AcT, (e.r.host.size ≤ maxLen ∧ e.r.path.size ≤ maxLen ∧ e.host.size ≤ maxLen) ∧ A9 w b (off + i * 9) e
section
variable {H : Type} {enc : TypeId × Value → H} {w : World} {base b0 : Nat} {held : Bool} {rr : Reach}
theorem reqz_of {cs : List Value} (hr : Fits enc Tryz.prog w base (fun _ => true) held 31 cs) : ∃ r : Rc, (r.host.size ≤ maxLen ∧ r.path.size ≤ maxLen) ∧ RcW r ∧ ∀ (j : Nat) (v : Value), (reqL r)[j]? = some v → cs[j]? = some v := by
  obtain ⟨x1, h1, w1⟩ := hr.int Tryz.underlying31 0 0 rfl rfl rfl Tryz.underlying3 (by kernel_rfl)
  obtain ⟨x2, h2, w2⟩ := hr.string Tryz.underlying31 1 1 rfl rfl rfl Tryz.underlying9 (by kernel_rfl)
  obtain ⟨x3, h3, w3⟩ := hr.string Tryz.underlying31 2 2 rfl rfl rfl Tryz.underlying9 (by kernel_rfl)
  obtain ⟨x4, h4, w4⟩ := hr.int Tryz.underlying31 3 3 rfl rfl rfl Tryz.underlying3 (by kernel_rfl)
  obtain ⟨x5, h5, w5⟩ := hr.int Tryz.underlying31 4 4 rfl rfl rfl Tryz.underlying3 (by kernel_rfl)
  refine ⟨⟨1, x1, x2, x3, x4, x5⟩, ⟨w2, w3⟩, ⟨rfl, w1, w4, w5⟩, fun j v hv => ?_⟩
  have hj : j < 5 := (List.getElem?_eq_some_iff.1 hv).1
  match j, hj with
  | 0, _ => cases hv; exact h1
  | 1, _ => cases hv; exact h2
  | 2, _ => cases hv; exact h3
  | 3, _ => cases hv; exact h4
  | 4, _ => cases hv; exact h5
theorem acz_of {cs : List Value} (hr : Fits enc Tryz.prog w base (fun _ => true) held 33 cs) : ∃ x : AcT, (x.r.host.size ≤ maxLen ∧ x.r.path.size ≤ maxLen ∧ x.host.size ≤ maxLen) ∧ RcW x.r ∧ okI x.what ∧ okI x.n ∧ okI x.m ∧ ∀ (j : Nat) (v : Value), (acT x)[j]? = some v → cs[j]? = some v := by
  obtain ⟨x1, h1, w1⟩ := hr.int Tryz.underlying33 0 0 rfl rfl rfl Tryz.underlying3 (by kernel_rfl)
  obtain ⟨x2, h2, w2⟩ := hr.int Tryz.underlying33 1 1 rfl rfl rfl Tryz.underlying3 (by kernel_rfl)
  obtain ⟨x3, h3, w3⟩ := hr.int Tryz.underlying33 2 2 rfl rfl rfl Tryz.underlying3 (by kernel_rfl)
  obtain ⟨x5, h5, w5⟩ := hr.string Tryz.underlying33 4 8 rfl rfl rfl Tryz.underlying9 (by kernel_rfl)
  have hq := hr.struct Tryz.underlying33 3 3 5 (u := 31) rfl rfl rfl (by kernel_rfl)
  obtain ⟨r, hsz, hw, hr5⟩ := reqz_of hq
  have k : ∀ j v, j < 5 → (reqL r)[j]? = some v → cs[3 + j]? = some v := fun j v hj hv => by
    have := hr5 j v hv
    rw [List.getElem?_take, if_pos hj, List.getElem?_drop] at this
    exact this
  refine ⟨⟨x1, x2, x3, r, x5⟩, ⟨hsz.1, hsz.2, w5⟩, hw, w1, w2, w3, fun j v hv => ?_⟩
  have hj : j < 9 := (List.getElem?_eq_some_iff.1 hv).1
  match j, hj with
  | 0, _ => cases hv; exact h1
  | 1, _ => cases hv; exact h2
  | 2, _ => cases hv; exact h3
  | 3, _ => exact k 0 v (by decide) hv
  | 4, _ => exact k 1 v (by decide) hv
  | 5, _ => exact k 2 v (by decide) hv
  | 6, _ => exact k 3 v (by decide) hv
  | 7, _ => exact k 4 v (by decide) hv
  | 8, _ => cases hv; exact h5
theorem open_actz {v : Value} {d : DataW H} {p : List MemPlace} (hv : Value.okWide Tryz.prog w rr b0 22 v) (hd : DataW.Trod enc Tryz.prog w base (fun _ => true) held 22 v d p) :
    ∃ x : Option Addr × Nat × Nat, v = .slice x.1 x.2.1 x.2.2 ∧ IsActz w x := by
  obtain ⟨a, len, cap, rfl⟩ := okWide_slice Tryz.underlying22 hv
  refine ⟨(a, len, cap), rfl, ?_⟩
  have h : Fits enc Tryz.prog w base (fun _ => true) held 22 [.slice a len cap] := Fits.of hd
  obtain ⟨C, ⟨rfl, rfl, rfl⟩ | ⟨x, rfl, hl, hm, hx⟩⟩ := h.elems Tryz.underlying22 (n := 9) (by kernel_rfl)
  · exact ⟨0, 0, fun h => absurd h (by decide), by decide, fun i hi => absurd hi (Nat.not_lt_zero i)⟩
  · by_cases h0 : 0 < cap
    · obtain ⟨b, off, rfl, hc⟩ := plain_at (by decide) (fun i hi => ⟨(hx i hi).1, (hx i hi).2.2⟩) h0
      refine ⟨b, off, fun _ => rfl, (by omega : len ≤ maxLen), fun i hi => ?_⟩
      have hi : i < cap := Nat.lt_of_lt_of_le hi hl
      obtain ⟨e, hsz, hw, u1, u2, u3, he⟩ := acz_of (hx i hi).2.1
      exact ⟨e, hsz, by simpa using hc i hi 0 _ (he 0 _ rfl), hc i hi 1 _ (he 1 _ rfl), hc i hi 2 _ (he 2 _ rfl), hc i hi 3 _ (he 3 _ rfl), hc i hi 4 _ (he 4 _ rfl), hc i hi 5 _ (he 5 _ rfl), hc i hi 6 _ (he 6 _ rfl), hc i hi 7 _ (he 7 _ rfl), hc i hi 8 _ (he 8 _ rfl), hw, u2, u3, u1⟩
    · obtain rfl : cap = 0 := by omega
      obtain rfl : len = 0 := by omega
      exact ⟨0, 0, fun h => absurd h (Nat.lt_irrefl 0), Nat.zero_le _, fun i hi => absurd hi (Nat.not_lt_zero i)⟩
end
end Go.Proofs.YteinblpkcpjpnaaGreatDoor
