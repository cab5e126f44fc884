/- Events that came in; not too many. -/
import Derived.Test.YtelakgbpfnlpiaaAudAwake
namespace Go.Proofs.Ytelakgbpfnlpiaa
open Go.RowKit

section
open Go.Joins Go.Deep Go.WideShapes
variable {H : Type} {enc : TypeId × Value → H} {w : World} {base b0 : Nat} {held : Bool} {rr : Reach}
/-- What a slice of events is. -/
def IsEvs (w : World) (x : Option Addr × Nat × Nat) : Prop := ∃ es : List Ev, es.length = x.2.1 ∧ es.length ≤ maxLen ∧ x.2.1 ≤ x.2.2 ∧ Rd w x.1 es ∧ ∀ e, e ∈ es → EvOk e
theorem in64_of {z : Int} (h : (Lit.int .i64 z).wf = true) : In64 z := by
  simp [Lit.wf, IntKind.min, IntKind.max, IntKind.signed, IntKind.bits] at h
  unfold In64
  omega
theorem open_evs {v : Value} {d : DataW H} {p : List MemPlace} (hv : Value.okWide Try.prog w rr b0 52 v) (hd : DataW.Trod enc Try.prog w base (fun _ => true) held 52 v d p) :
    ∃ x : Option Addr × Nat × Nat, v = .slice x.1 x.2.1 x.2.2 ∧ IsEvs w x := by
  obtain ⟨a, len, cap, rfl⟩ := okWide_slice Try.underlying52 hv
  refine ⟨(a, len, cap), rfl, ?_⟩
  have h : Fits enc Try.prog w base (fun _ => true) held 52 [.slice a len cap] := Fits.of hd
  obtain ⟨C, ⟨rfl, rfl, rfl⟩ | ⟨x, rfl, hl, hm, hx⟩⟩ := h.elems Try.underlying52 (n := 7) (by kernel_rfl)
  · exact ⟨[], rfl, Nat.zero_le _, Nat.le_refl _, ⟨0, 0, fun h => absurd h (by decide), fun i e hi => by simp at hi⟩, fun e he => by simp at he⟩
  · by_cases h0 : 0 < cap
    · obtain ⟨b, off, rfl, hc⟩ := plain_at (by decide) (fun i hi => ⟨(hx i hi).1, (hx i hi).2.2⟩) h0
      have key : ∀ i, i < cap → ∃ e : Ev, (∀ j v, (evL e)[j]? = some v → (C i)[j]? = some v) ∧ EvOk e := fun i hi => by
        have hr := (hx i hi).2.1.struct Try.underlying58 2 2 5 rfl rfl rfl (by kernel_rfl)
        obtain ⟨x0, h0, w0⟩ := (hx i hi).2.1.int Try.underlying58 0 0 rfl rfl rfl Try.underlying3 (by kernel_rfl)
        obtain ⟨x1, h1, w1⟩ := (hx i hi).2.1.int Try.underlying58 1 1 rfl rfl rfl Try.underlying3 (by kernel_rfl)
        obtain ⟨x2, h2, w2⟩ := hr.int Try.underlying56 0 0 rfl rfl rfl Try.underlying3 (by kernel_rfl)
        obtain ⟨x3, h3, w3⟩ := hr.string Try.underlying56 1 1 rfl rfl rfl Try.underlying9 (by kernel_rfl)
        obtain ⟨x4, h4, w4⟩ := hr.string Try.underlying56 2 2 rfl rfl rfl Try.underlying9 (by kernel_rfl)
        obtain ⟨x5, h5, w5⟩ := hr.int Try.underlying56 3 3 rfl rfl rfl Try.underlying3 (by kernel_rfl)
        obtain ⟨x6, h6, w6⟩ := hr.int Try.underlying56 4 4 rfl rfl rfl Try.underlying3 (by kernel_rfl)
        have h2 := sub_at h2
        have h3 := sub_at h3
        have h4 := sub_at h4
        have h5 := sub_at h5
        have h6 := sub_at h6
        refine ⟨⟨x0, x1, x2, x3, x4, x5, x6⟩, fun j v hv => ?_, in64_of w0, in64_of w1, in64_of w2, w3⟩
        have hj : j < 7 := (List.getElem?_eq_some_iff.1 hv).1
        match j, hj with
        | 0, _ => cases hv; exact h0
        | 1, _ => cases hv; exact h1
        | 2, _ => cases hv; exact h2
        | 3, _ => cases hv; exact h3
        | 4, _ => cases hv; exact h4
        | 5, _ => cases hv; exact h5
        | 6, _ => cases hv; exact h6
      let E : Nat → Ev := fun i => if hi : i < cap then Classical.choose (key i hi) else ⟨0, 0, 0, ByteArray.empty, ByteArray.empty, 0, 0⟩
      have hE : ∀ i, i < cap → (∀ j v, (evL (E i))[j]? = some v → (C i)[j]? = some v) ∧ EvOk (E i) := fun i hi => by
        simp only [E, dif_pos hi]
        exact Classical.choose_spec (key i hi)
      refine ⟨(List.range len).map E, by simp, by simp; omega, hl, ⟨b, off, fun _ => rfl, fun i e hi j v hv => ?_⟩, fun e he => ?_⟩
      · have hil := (List.getElem?_eq_some_iff.1 hi).1
        simp at hil
        have he : E i = e := by simpa [hil] using hi
        subst he
        exact hc i (by omega) j v ((hE i (by omega)).1 j v hv)
      · obtain ⟨i, hi, rfl⟩ := List.mem_map.1 he
        exact (hE i (by have := List.mem_range.1 hi; omega)).2
    · obtain rfl : cap = 0 := by omega
      obtain rfl : len = 0 := by omega
      exact ⟨[], rfl, Nat.zero_le _, Nat.le_refl _, ⟨0, 0, fun h => absurd h (by simp), fun i e hi => by simp at hi⟩, fun e he => by simp at he⟩
end
set_option maxHeartbeats 400000 in
theorem cut_at (es : List Ev) (a : Option Addr) (cap : Nat) (w : World) (hr : Rd w a es) (hl : es.length ≤ maxLen) (hc : es.length ≤ cap) :
    Calls Try.prog 30 #[.slice a es.length cap] w fun e w' => e = .returned (.slice a (es.take 60).length cap) ∧ w' = w := by
  unfold maxLen at hl
  by_cases h : 60 < es.length
  · have hd1 : decide ((60 : Int) < es.length) = true := decide_eq_true (by omega)
    obtain ⟨b, off, ha, _⟩ := hr
    have ha := ha (by omega)
    subst ha
    have h1 : (60 : Int) ≤ (cap : Int) := by omega
    have h2 : ¬ cap = 0 := by omega
    go_enter Try.func30, Try.ntmps30
    go_wp2_with fail
    exact bodyPost_ret (v := .slice (some ⟨b, off, none⟩) 60 cap) (by simp [results, Try.results30, go_sem]) rfl ⟨by rw [show min 60 es.length = 60 by omega], rfl⟩
  · have hd1 : decide ((60 : Int) < es.length) = false := decide_eq_false (by omega)
    have HT := Lib.hid (show es.take 60 = es from List.take_of_length_le (by omega))
    clear hr
    go_enter Try.func30, Try.ntmps30
    go_wp2_with fail
    exact bodyPost_ret (v := .slice a es.length cap) (by simp [results, Try.results30, go_sem]) rfl ⟨by rw [HT.out], rfl⟩
theorem cut_as (es ls : List Ev) (h : es.take 60 = ls) (a : Option Addr) (n cap : Nat) (hn : es.length = n) (w : World) (hr : Rd w a es) (hl : es.length ≤ maxLen) (hc : es.length ≤ cap) :
    Calls Try.prog 30 #[.slice a n cap] w fun e w' => e = .returned (.slice a ls.length cap) ∧ w' = w := by
  subst h
  subst hn
  exact cut_at es a cap w hr hl hc
end Go.Proofs.Ytelakgbpfnlpiaa
