/- Steps that came in: one, and a list of them. -/
import Derived.Test.YtbfdklmljcdonaaDoorTlSiz
import Derived.Test.YtbfdklmljcdonaaDoorDeepW
namespace Go.Proofs.YtbfdklmljcdonaaDoor
open Go Go.RowKit
set_option linter.unusedVariables false
set_option linter.unusedSimpArgs false
set_option maxRecDepth 10000

section
open Go.Joins Go.Deep Go.WideShapes
theorem FitsW.len {H : Type} {enc : TypeId × Value → H} {P : Program} {w : World} {base : Nat} {held : Bool} {N : Nat} {t e : TypeId} {a : Option Addr} {len cap : Nat} (h : FitsW enc P w base (fun _ => true) held N t [.slice a len cap]) (ht : P.underlying t = some (.slice e)) : len * P.bytesOf e ≤ N := by
  obtain ⟨m, x, h, hw⟩ := h
  rcases open_slice ht h with ⟨hcs, _⟩ | ⟨a', len', cap', m', n', D, Pl, hcs, _, hl, hm, hmm, hxe, hx⟩
  · simp at hcs
    rw [hcs.2.1]
    simp
  · simp at hcs
    obtain ⟨rfl, rfl, rfl⟩ := hcs
    rw [hxe] at hw
    simp only [DataW.weights, ht] at hw
    have := hw _ (List.mem_cons_self ..)
    rw [List.length_map, List.length_range] at this
    exact Nat.le_trans (Nat.mul_le_mul_right _ (Nat.le_add_right _ _)) this
theorem FitsW.fits {H : Type} {enc : TypeId × Value → H} {P : Program} {w : World} {base : Nat} {spare : Nat → Bool} {held : Bool} {N : Nat} {t : TypeId} {cs : List Value} (h : FitsW enc P w base spare held N t cs) : Fits enc P w base spare held t cs := by
  obtain ⟨n, x, h, _⟩ := h
  exact ⟨n, x, h⟩
variable {H : Type} {enc : TypeId × Value → H} {w : World} {base b0 : Nat} {held : Bool} {rr : Reach}
theorem hdrs_of {a : Option Addr} {len cap : Nat} (h : FitsW enc Tryd.prog w base (fun _ => true) held reachBytes 24 [.slice a len cap]) :
    ∃ hs : List (ByteArray × ByteArray), hs.length = len ∧ RdC w a (hdV hs) ∧ len ≤ reachBytes ∧ ∀ h ∈ hs, h.1.size ≤ reachBytes ∧ h.2.size ≤ reachBytes := by
  have hlen : len ≤ reachBytes := by
    have := h.len Tryd.underlying24
    have e : Tryd.prog.bytesOf 36 = 32 := by kernel_rfl
    rw [e] at this
    omega
  obtain ⟨C, ⟨rfl, rfl, rfl⟩ | ⟨x, rfl, hl, hm, hx⟩⟩ := h.elems Tryd.underlying24 (n := 2) (by kernel_rfl)
  · exact ⟨[], rfl, fun j u hj => by simp [hdV] at hj, hlen, fun h hh => by cases hh⟩
  · by_cases h0 : 0 < cap
    · obtain ⟨b, off, rfl, hc⟩ := plain_at (by decide) (fun i hi => ⟨(hx i hi).1, (hx i hi).2.2⟩) h0
      have key : ∀ i, i < len → ∃ p : ByteArray × ByteArray, (C i)[0]? = some (.string p.1) ∧ (C i)[1]? = some (.string p.2) ∧ p.1.size ≤ reachBytes ∧ p.2.size ≤ reachBytes := fun i hi => by
        have hr := (hx i (by omega)).2.1.2 hi
        obtain ⟨x0, h0, w0⟩ := hr.string Tryd.underlying36 0 0 rfl rfl rfl Tryd.underlying9 (by kernel_rfl)
        obtain ⟨x1, h1, w1⟩ := hr.string Tryd.underlying36 1 1 rfl rfl rfl Tryd.underlying9 (by kernel_rfl)
        exact ⟨(x0, x1), h0, h1, w0, w1⟩
      let E : Nat → ByteArray × ByteArray := fun i => if hi : i < len then Classical.choose (key i hi) else (ByteArray.empty, ByteArray.empty)
      have hE : ∀ i, i < len → (C i)[0]? = some (.string (E i).1) ∧ (C i)[1]? = some (.string (E i).2) ∧ (E i).1.size ≤ reachBytes ∧ (E i).2.size ≤ reachBytes := fun i hi => by
        simp only [E, dif_pos hi]
        exact Classical.choose_spec (key i hi)
      refine ⟨(List.range len).map E, by simp, fun j u hj => ?_, hlen, fun e he => ?_⟩
      · have hjl := (List.getElem?_eq_some_iff.1 hj).1
        rw [hdV_len] at hjl
        simp at hjl
        have hi : j / 2 < len := by omega
        have hv : ((List.range len).map E)[j / 2]? = some (E (j / 2)) := by simp [hi]
        obtain ⟨p1, p2⟩ := hdV_at hv
        obtain ⟨q1, q2, _⟩ := hE _ hi
        refine ⟨b, off, rfl, ?_⟩
        have hm2 : j % 2 = 0 ∨ j % 2 = 1 := by omega
        rcases hm2 with e | e
        · have ej : j / 2 * 2 = j := by omega
          rw [ej, hj] at p1
          rw [Option.some.inj p1]
          have := hc (j / 2) (by omega) 0 _ q1
          rw [ej] at this
          exact this
        · have ej : j / 2 * 2 + 1 = j := by omega
          rw [ej, hj] at p2
          rw [Option.some.inj p2]
          have := hc (j / 2) (by omega) 1 _ q2
          rw [Nat.add_assoc, ej] at this
          exact this
      · obtain ⟨i, hi, rfl⟩ := List.mem_map.1 he
        exact (hE i (List.mem_range.1 hi)).2.2
    · obtain rfl : cap = 0 := by omega
      obtain rfl : len = 0 := by omega
      exact ⟨[], rfl, fun j u hj => by simp [hdV] at hj, hlen, fun h hh => by cases hh⟩
/-- One step: the value, the row of its headers, the row's capacity. -/
def IsStp (w : World) (x : Stp) (ha : Option Addr) : Prop := SzB x ∧ RgS x ∧ RdC w ha (hdV x.hs)
theorem IsStp.later {w w' : World} {x : Stp} {ha : Option Addr} (h : IsStp w x ha) (hb : Below w.heap.size w w') : IsStp w' x ha := ⟨h.1, h.2.1, h.2.2.later hb⟩
theorem step_of {cs : List Value} (h : FitsW enc Tryd.prog w base (fun _ => true) held reachBytes 26 cs) :
    ∃ (x : Stp) (ha : Option Addr) (hc : Nat), IsStp w x ha ∧ cs[0]? = some (.int .i64 x.k) ∧ cs[1]? = some (.int .i64 x.a) ∧ cs[2]? = some (.int .i64 x.b) ∧ cs[3]? = some (.int .i64 x.c) ∧ cs[4]? = some (.string x.t) ∧ cs[5]? = some (.slice ha x.hs.length hc) := by
  have hf := h.fits
  obtain ⟨x0, h0, w0⟩ := hf.int Tryd.underlying26 0 0 rfl rfl rfl Tryd.underlying3 (by kernel_rfl)
  obtain ⟨x1, h1, w1⟩ := hf.int Tryd.underlying26 1 1 rfl rfl rfl Tryd.underlying3 (by kernel_rfl)
  obtain ⟨x2, h2, w2⟩ := hf.int Tryd.underlying26 2 2 rfl rfl rfl Tryd.underlying3 (by kernel_rfl)
  obtain ⟨x3, h3, w3⟩ := hf.int Tryd.underlying26 3 3 rfl rfl rfl Tryd.underlying3 (by kernel_rfl)
  obtain ⟨x4, h4, w4⟩ := h.string Tryd.underlying26 4 4 rfl rfl rfl Tryd.underlying9 (by kernel_rfl)
  obtain ⟨a5, l5, c5, h5, _⟩ := hf.slice Tryd.underlying26 5 5 rfl rfl rfl Tryd.underlying24 (by kernel_rfl)
  have f5 := h.struct Tryd.underlying26 5 5 1 rfl rfl rfl (by kernel_rfl)
  have e5 : (cs.drop 5).take 1 = [.slice a5 l5 c5] := by
    have hl := (List.getElem?_eq_some_iff.1 h5)
    rw [List.drop_eq_getElem_cons hl.1, hl.2]
    rfl
  rw [e5] at f5
  obtain ⟨hs, rfl, hr, hl, hb⟩ := hdrs_of f5
  have rng : ∀ {z : Int}, (Lit.int .i64 z).wf = true → Rng z := fun hz => by
    simp [Lit.wf, IntKind.min, IntKind.max, IntKind.signed, IntKind.bits] at hz
    unfold Rng
    omega
  exact ⟨⟨x0, x1, x2, x3, x4, hs⟩, a5, c5, ⟨⟨w4, hl, hb⟩, ⟨rng w1, rng w2, rng w3⟩, hr⟩, h0, h1, h2, h3, h4, h5⟩
theorem open_step {v : Value} {d : DataW H} {p : List MemPlace} (hv : Value.okWide Tryd.prog w rr b0 26 v) (hd : DataW.Trod enc Tryd.prog w base (fun _ => true) held 26 v d p) (hwt : ∀ k ∈ d.weights Tryd.prog 26, k ≤ reachBytes) :
    ∃ x : Stp × Option Addr × Nat, v = .agg (stA x.1.k x.1.a x.1.b x.1.c x.1.t x.2.1 x.1.hs.length x.2.2) ∧ IsStp w x.1 x.2.1 := by
  obtain ⟨cs, rfl, hsz⟩ := okWide_struct Tryd.underlying26 hv
  have hw : FitsW enc Tryd.prog w base (fun _ => true) held reachBytes 26 cs.toList := by
    obtain ⟨fu, hfu⟩ := hd
    exact ⟨fu, _, hfu, hwt⟩
  obtain ⟨x, ha, hc, hx, h0, h1, h2, h3, h4, h5⟩ := step_of hw
  refine ⟨(x, ha, hc), congrArg Value.agg (Array.ext' (List.ext_getElem? fun i => ?_)), hx⟩
  have hsz : cs.size = 6 := hsz.trans (by kernel_rfl)
  by_cases hi : i < 6
  · match i, hi with
    | 0, _ => exact h0
    | 1, _ => exact h1
    | 2, _ => exact h2
    | 3, _ => exact h3
    | 4, _ => exact h4
    | 5, _ => exact h5
  · rw [List.getElem?_eq_none (by simp; omega), List.getElem?_eq_none (by simp [stA]; omega)]
/-- A list of steps in memory. -/
def IsStps (w : World) (x : Option Addr × Nat × Nat) : Prop :=
  ∃ b off, (0 < x.2.1 → x.1 = some ⟨b, off, none⟩) ∧ x.2.1 ≤ maxLen ∧ ∀ i, i < x.2.1 → ∃ (y : Stp) (ha : Option Addr) (hc : Nat), IsStp w y ha ∧ ∀ j u, (stA y.k y.a y.b y.c y.t ha y.hs.length hc).toList[j]? = some u → w.cell? ⟨b, off + i * 6 + j, none⟩ = some u
theorem open_steps {v : Value} {d : DataW H} {p : List MemPlace} (hv : Value.okWide Tryd.prog w rr b0 22 v) (hd : DataW.Trod enc Tryd.prog w base (fun _ => true) held 22 v d p) (hwt : ∀ k ∈ d.weights Tryd.prog 22, k ≤ reachBytes) :
    ∃ x : Option Addr × Nat × Nat, v = .slice x.1 x.2.1 x.2.2 ∧ IsStps w x := by
  obtain ⟨a, len, cap, rfl⟩ := okWide_slice Tryd.underlying22 hv
  refine ⟨(a, len, cap), rfl, ?_⟩
  have h : FitsW enc Tryd.prog w base (fun _ => true) held reachBytes 22 [.slice a len cap] := by
    obtain ⟨fu, hfu⟩ := hd
    exact ⟨fu, _, hfu, hwt⟩
  obtain ⟨C, ⟨rfl, rfl, rfl⟩ | ⟨x, rfl, hl, hm, hx⟩⟩ := h.elems Tryd.underlying22 (n := 6) (by kernel_rfl)
  · exact ⟨0, 0, fun h => absurd h (by decide), by decide, fun i hi => absurd hi (Nat.not_lt_zero i)⟩
  · by_cases h0 : 0 < cap
    · obtain ⟨b, off, rfl, hc⟩ := plain_at (by decide) (fun i hi => ⟨(hx i hi).1, (hx i hi).2.2⟩) h0
      refine ⟨b, off, fun _ => rfl, (by omega : len ≤ maxLen), fun i hi => ?_⟩
      have hi : i < len := hi
      obtain ⟨y, ha, hcc, hy, g0, g1, g2, g3, g4, g5⟩ := step_of ((hx i (by omega)).2.1.2 hi)
      refine ⟨y, ha, hcc, hy, fun j u hu => hc i (by omega) j u ?_⟩
      have hj : j < 6 := (List.getElem?_eq_some_iff.1 hu).1
      match j, hj with
      | 0, _ => cases hu; exact g0
      | 1, _ => cases hu; exact g1
      | 2, _ => cases hu; exact g2
      | 3, _ => cases hu; exact g3
      | 4, _ => cases hu; exact g4
      | 5, _ => cases hu; exact g5
    · obtain rfl : cap = 0 := by omega
      obtain rfl : len = 0 := by omega
      exact ⟨0, 0, fun h => absurd h (Nat.lt_irrefl 0), Nat.zero_le _, fun i hi => absurd hi (Nat.not_lt_zero i)⟩
end
end Go.Proofs.YtbfdklmljcdonaaDoor
