/- Rules that came in; MatchRules, the walk. -/
import Derived.Test.YtcedckkmdpecmaaDoorMtFew
import Derived.Test.YtcedckkmdpecmaaDoorDeep
namespace Go.Proofs.YtcedckkmdpecmaaDoor
open Go.RowKit
set_option linter.unusedVariables false
set_option linter.unusedSimpArgs false

/-- What a slice of rules is. -/
def IsRls (w : World) (x : Option Addr × Nat × Nat) : Prop := ∃ es : List Rl, es.length = x.2.1 ∧ x.2.1 ≤ maxLen ∧ x.2.1 ≤ x.2.2 ∧ RdR w x.1 es ∧ ∀ e, e ∈ es → e.pat.size ≤ maxLen
section
open Go.Joins Go.Deep Go.WideShapes
variable {H : Type} {enc : TypeId × Value → H} {w : World} {base b0 : Nat} {held : Bool} {rr : Reach}
theorem open_rules {v : Value} {d : DataW H} {p : List MemPlace} (hv : Value.okWide Tryd.prog w rr b0 29 v) (hd : DataW.Trod enc Tryd.prog w base (fun _ => true) held 29 v d p) :
    ∃ x : Option Addr × Nat × Nat, v = .slice x.1 x.2.1 x.2.2 ∧ IsRls w x := by
  obtain ⟨a, len, cap, rfl⟩ := okWide_slice Tryd.underlying29 hv
  refine ⟨(a, len, cap), rfl, ?_⟩
  have h : Fits enc Tryd.prog w base (fun _ => true) held 29 [.slice a len cap] := Fits.of hd
  obtain ⟨C, ⟨rfl, rfl, rfl⟩ | ⟨x, rfl, hl, hm, hx⟩⟩ := h.elems Tryd.underlying29 (n := 2) (by kernel_rfl)
  · exact ⟨[], rfl, Nat.zero_le _, Nat.le_refl _, RdR.nil _ _, fun e he => by simp at he⟩
  · by_cases h0 : 0 < cap
    · obtain ⟨b, off, rfl, hc⟩ := plain_at (by decide) (fun i hi => ⟨(hx i hi).1, (hx i hi).2.2⟩) h0
      have key : ∀ i, i < cap → ∃ e : Rl, (∀ j v, (rlL e)[j]? = some v → (C i)[j]? = some v) ∧ e.pat.size ≤ maxLen := fun i hi => by
        obtain ⟨x0, h0⟩ := (hx i hi).2.1.bool Tryd.underlying34 0 0 rfl rfl rfl Tryd.underlying4 (by kernel_rfl)
        obtain ⟨x1, h1, w1⟩ := (hx i hi).2.1.string Tryd.underlying34 1 1 rfl rfl rfl Tryd.underlying9 (by kernel_rfl)
        refine ⟨⟨x0, x1⟩, fun j v hv => ?_, w1⟩
        have hj : j < 2 := (List.getElem?_eq_some_iff.1 hv).1
        match j, hj with
        | 0, _ => cases hv; exact h0
        | 1, _ => cases hv; exact h1
      let E : Nat → Rl := fun i => if hi : i < cap then Classical.choose (key i hi) else ⟨false, ByteArray.empty⟩
      have hE : ∀ i, i < cap → (∀ j v, (rlL (E i))[j]? = some v → (C i)[j]? = some v) ∧ (E i).pat.size ≤ maxLen := fun i hi => by
        simp only [E, dif_pos hi]
        exact Classical.choose_spec (key i hi)
      refine ⟨(List.range len).map E, by simp, Nat.le_trans hl hm, hl, ⟨b, off, fun _ => rfl, fun i e hi => ?_⟩, fun e he => ?_⟩
      · have hil := (List.getElem?_eq_some_iff.1 hi).1
        simp at hil
        have he : E i = e := by simpa [hil] using hi
        subst he
        have h1 := hc i (by omega) 0 _ ((hE i (by omega)).1 0 _ rfl)
        have h2 := hc i (by omega) 1 _ ((hE i (by omega)).1 1 _ rfl)
        exact ⟨by simpa using h1, by simpa using h2⟩
      · obtain ⟨i, hi, rfl⟩ := List.mem_map.1 he
        exact (hE i (by have := List.mem_range.1 hi; omega)).2
    · obtain rfl : cap = 0 := by omega
      obtain rfl : len = 0 := by omega
      exact ⟨[], rfl, Nat.zero_le _, Nat.le_refl _, RdR.nil _ _, fun e he => by simp at he⟩
end
set_option maxHeartbeats 4000000 in
set_option maxRecDepth 100000 in
theorem matchRules_walk (x : Option Addr × Nat × Nat) (p0 : ByteArray) (w : World) (hx : IsRls w x) (wp : p0.size ≤ maxLen) (hT : TabsM w) :
    Calls Tryd.prog 10 #[.slice x.1 x.2.1 x.2.2, .string p0] w fun e w' => e = .returned (.bool true) ∧ Below w.heap.size w w' := by
  obtain ⟨a, len, cap⟩ := x
  obtain ⟨rs, h1, h2, h3, h4, h5⟩ := hx
  simp only at h1 h2 h3 h4 h5 ⊢
  have HT := Lib.hid hT
  obtain ⟨qs, hqs⟩ : ∃ q, fewR rs = q := ⟨_, rfl⟩
  obtain ⟨n, hn⟩ : ∃ q, qs.length = q := ⟨_, rfl⟩
  obtain ⟨p, hp⟩ : ∃ p, c100 p0 = p := ⟨_, rfl⟩
  have zp : p.size ≤ 100 := by rw [← hp]; exact c100_size p0
  have zn : n ≤ 20 := by rw [← hn, ← hqs]; exact (fewR_size rs).1
  have zs : Hid (∀ r ∈ qs, r.pat.size ≤ 10000) := Lib.hid (by rw [← hqs]; intro r hr; have := (fewR_size rs).2 r hr; omega)
  obtain ⟨p', hp'⟩ : ∃ x, nfB p = x := ⟨_, rfl⟩
  obtain ⟨b, hb⟩ : ∃ b : Bool, b = true ↔ allowP qs p' := ⟨decide (allowP qs p'), by simp⟩
  have H1 := Lib.hid hp
  have H2 := Lib.hid hp'
  have H3 := Lib.hid hb
  have H4 := Lib.hid hqs
  have H5 := Lib.hid hn
  have H6 := Lib.hid h1
  have H7 := Lib.hid h4
  have H8 := Lib.hid h5
  have W1 := Lib.hid wp
  have W2 := Lib.hid h2
  clear hT hp hp' hb hqs hn h1 h2 h3 h4 h5 wp
  go_enter Tryd.func10, Tryd.ntmps10
  go_wp2_with fail
  refine (few_at rs a len cap qs n H4.out H5.out _ H6.out H7.out H8.out W2.out).mono ?_
  rintro e w1 ⟨g, c, rfl, ho, hb1⟩
  have O1 := Lib.hid ho
  have B1 := Lib.hid hb1
  have T1 := Lib.hid (HT.out.later hb1)
  clear ho hb1
  go_wp2_with fail
  refine (cut10_at p0 p H1.out W1.out _).mono ?_
  rintro e w' ⟨rfl, rfl⟩
  go_wp2_with fail
  refine (awake10_at _ T1.out).mono ?_
  rintro e w2 ⟨rfl, hb2⟩
  have T2 := Lib.hid (T1.out.later hb2)
  have O2 := Lib.hid (O1.out.later hb2)
  have B2 := Lib.hid (B1.out.trans (hb2.mono B1.out.size))
  clear hb2
  go_wp2_with fail
  refine (allowed_at qs _ n c p p' b H2.out H3.out _ H5.out O2.out.rd (by omega) zs.out (by omega) T2.out).mono ?_
  rintro e w3 ⟨rfl, hb3⟩
  have O3 := Lib.hid (O2.out.later hb3)
  have B3 := Lib.hid (B2.out.trans (hb3.mono B2.out.size))
  clear hb3
  go_wp2_with fail
  refine (rallowed_at qs _ n c p p' b H2.out H3.out _ H5.out O3.out.rd (by omega) zs.out (by omega)).mono ?_
  rintro e w4 ⟨rfl, hb4⟩
  have B4 := Lib.hid (B3.out.trans (hb4.mono B3.out.size))
  clear hb4
  cases b
  all_goals
    go_wp2
    go_ret
    exact ⟨rfl, B4.out⟩
end Go.Proofs.YtcedckkmdpecmaaDoor
