/- Configurations, policies, answers and rules that came in. -/
import Derived.Test.YtonfbkffngplcaaPolB
import Derived.Test.YtonfbkffngplcaaDeep
import Derived.Deep.Strs
namespace Go.Proofs.Ytonfbkffngplcaa
open Go.RowKit

open Go.Joins Go.Deep Go.WideShapes
section
variable {H : Type} {enc : TypeId × Value → H} {w : World} {base b0 : Nat} {held : Bool} {rr : Reach}
theorem arr_eq {cs : Array Value} {l : List Value} (hl : cs.size = l.length) (h : ∀ i, i < l.length → cs.toList[i]? = l[i]?) : cs = l.toArray := by
  apply Array.ext'
  apply List.ext_getElem?
  intro i
  by_cases hi : i < l.length
  · simpa using h i hi
  · rw [List.getElem?_eq_none (by simp; omega), List.getElem?_eq_none (by simpa using hi)]
theorem open_cfg {v : Value} {d : DataW H} {p : List MemPlace} (hv : Value.okWide Try.prog w rr b0 24 v) (hd : DataW.Trod enc Try.prog w base (fun _ => true) held 24 v d p) :
    ∃ c : Cfg, v = .agg #[.int .i64 c.hosts, .int .i64 c.perHost, .int .i64 c.memory, .int .i64 c.segs, .int .i64 c.floor, .int .i64 c.cap, .int .i64 c.base, .int .i64 c.most, .int .i64 c.brk, .int .i64 c.opn, .int .i64 c.rate, .int .i64 c.burst, .int .i64 c.keep, .string c.agent] ∧ True := by
  obtain ⟨cs, rfl, hsz⟩ := okWide_struct Try.underlying24 hv
  have h := Fits.of hd
  obtain ⟨x0, h0, _⟩ := h.int Try.underlying24 0 0 rfl rfl rfl Try.underlying3 (by kernel_rfl)
  obtain ⟨x1, h1, _⟩ := h.int Try.underlying24 1 1 rfl rfl rfl Try.underlying3 (by kernel_rfl)
  obtain ⟨x2, h2, _⟩ := h.int Try.underlying24 2 2 rfl rfl rfl Try.underlying3 (by kernel_rfl)
  obtain ⟨x3, h3, _⟩ := h.int Try.underlying24 3 3 rfl rfl rfl Try.underlying3 (by kernel_rfl)
  obtain ⟨x4, h4, _⟩ := h.int Try.underlying24 4 4 rfl rfl rfl Try.underlying3 (by kernel_rfl)
  obtain ⟨x5, h5, _⟩ := h.int Try.underlying24 5 5 rfl rfl rfl Try.underlying3 (by kernel_rfl)
  obtain ⟨x6, h6, _⟩ := h.int Try.underlying24 6 6 rfl rfl rfl Try.underlying3 (by kernel_rfl)
  obtain ⟨x7, h7, _⟩ := h.int Try.underlying24 7 7 rfl rfl rfl Try.underlying3 (by kernel_rfl)
  obtain ⟨x8, h8, _⟩ := h.int Try.underlying24 8 8 rfl rfl rfl Try.underlying3 (by kernel_rfl)
  obtain ⟨x9, h9, _⟩ := h.int Try.underlying24 9 9 rfl rfl rfl Try.underlying3 (by kernel_rfl)
  obtain ⟨x10, h10, _⟩ := h.int Try.underlying24 10 10 rfl rfl rfl Try.underlying3 (by kernel_rfl)
  obtain ⟨x11, h11, _⟩ := h.int Try.underlying24 11 11 rfl rfl rfl Try.underlying3 (by kernel_rfl)
  obtain ⟨x12, h12, _⟩ := h.int Try.underlying24 12 12 rfl rfl rfl Try.underlying3 (by kernel_rfl)
  obtain ⟨x13, h13, _⟩ := h.string Try.underlying24 13 13 rfl rfl rfl Try.underlying9 (by kernel_rfl)
  refine ⟨⟨x0, x1, x2, x3, x4, x5, x6, x7, x8, x9, x10, x11, x12, x13⟩, congrArg Value.agg (arr_eq (l := [.int .i64 x0, .int .i64 x1, .int .i64 x2, .int .i64 x3, .int .i64 x4, .int .i64 x5, .int .i64 x6, .int .i64 x7, .int .i64 x8, .int .i64 x9, .int .i64 x10, .int .i64 x11, .int .i64 x12, .string x13]) (hsz.trans (by kernel_rfl)) fun i hi => ?_), trivial⟩
  match i, hi with
  | 0, _ => exact h0
  | 1, _ => exact h1
  | 2, _ => exact h2
  | 3, _ => exact h3
  | 4, _ => exact h4
  | 5, _ => exact h5
  | 6, _ => exact h6
  | 7, _ => exact h7
  | 8, _ => exact h8
  | 9, _ => exact h9
  | 10, _ => exact h10
  | 11, _ => exact h11
  | 12, _ => exact h12
  | 13, _ => exact h13
  | n + 14, hi => simp at hi; omega
/-- The rules that a slice holds, as texts and bools. -/
def IsRules (w : World) (a : Option Addr) (len cap : Nat) (L : Nat → Bool × ByteArray) : Prop :=
  (a = none ∧ len = 0 ∧ cap = 0) ∨ ∃ b off, a = some ⟨b, off, none⟩ ∧ len ≤ cap ∧ cap ≤ maxLen ∧ ∀ i, i < cap → w.cell? ⟨b, off + i * 2, none⟩ = some (.bool (L i).1) ∧ w.cell? ⟨b, off + i * 2 + 1, none⟩ = some (.string (L i).2) ∧ (L i).2.size ≤ maxLen
theorem rules_of {a : Option Addr} {len cap : Nat} (h : Fits enc Try.prog w base (fun _ => true) held 25 [.slice a len cap]) : ∃ L a', (IsRules w a' len cap L ∧ (a' = a ∨ cap = 0)) := by
  obtain ⟨C, hC | ⟨x, rfl, hl, hm, hx⟩⟩ := h.elems Try.underlying25 (n := 2) (by kernel_rfl)
  · exact ⟨fun _ => (false, ByteArray.empty), a, Or.inl hC, Or.inl rfl⟩
  · by_cases h0 : 0 < cap
    · obtain ⟨b, off, rfl, hc⟩ := plain_at (by decide) (fun i hi => ⟨(hx i hi).1, (hx i hi).2.2⟩) h0
      have key : ∀ i, i < cap → ∃ q : Bool × ByteArray, (C i)[0]? = some (.bool q.1) ∧ (C i)[1]? = some (.string q.2) ∧ q.2.size ≤ maxLen := fun i hi => by
        obtain ⟨u, hu⟩ := (hx i hi).2.1.bool Try.underlying56 0 0 rfl rfl rfl Try.underlying4 (by kernel_rfl)
        obtain ⟨s, hs, hw⟩ := (hx i hi).2.1.string Try.underlying56 1 1 rfl rfl rfl Try.underlying9 (by kernel_rfl)
        exact ⟨(u, s), hu, hs, hw⟩
      refine ⟨fun i => if hi : i < cap then Classical.choose (key i hi) else (false, ByteArray.empty), _, Or.inr ⟨b, off, rfl, hl, hm, fun i hi => ?_⟩, Or.inl rfl⟩
      simp only [dif_pos hi]
      obtain ⟨k1, k2, k3⟩ := Classical.choose_spec (key i hi)
      exact ⟨hc i hi 0 _ k1, hc i hi 1 _ k2, k3⟩
    · obtain rfl : cap = 0 := by omega
      obtain rfl : len = 0 := by omega
      exact ⟨fun _ => (false, ByteArray.empty), none, Or.inl ⟨rfl, rfl, rfl⟩, Or.inr rfl⟩
theorem open_pol {v : Value} {d : DataW H} {p : List MemPlace} (hv : Value.okWide Try.prog w rr b0 29 v) (hd : DataW.Trod enc Try.prog w base (fun _ => true) held 29 v d p) :
    ∃ q : Pol, v = .agg #[.int .i64 q.last, .int .i64 q.gap, .int .i64 q.exp, .int .i64 q.fails, .int .i64 q.state, .int .i64 q.till, .int .i64 q.retry, .int .i64 q.reset, .int .i64 q.flying, .int .i64 q.known, .bool q.all, .bool q.none, .slice q.ra q.rl q.rc, .int .i64 q.delay] ∧ (-9223372036854775808 ≤ q.flying ∧ q.flying ≤ 9223372036854775807) ∧ ∃ L a', IsRules w a' q.rl q.rc L ∧ (a' = q.ra ∨ q.rc = 0) := by
  obtain ⟨cs, rfl, hsz⟩ := okWide_struct Try.underlying29 hv
  have h := Fits.of hd
  have hr := h.struct Try.underlying29 10 10 4 rfl rfl rfl (by kernel_rfl)
  obtain ⟨x0, h0, w0⟩ := h.int Try.underlying29 0 0 rfl rfl rfl Try.underlying3 (by kernel_rfl)
  obtain ⟨x1, h1, w1⟩ := h.int Try.underlying29 1 1 rfl rfl rfl Try.underlying3 (by kernel_rfl)
  obtain ⟨x2, h2, w2⟩ := h.int Try.underlying29 2 2 rfl rfl rfl Try.underlying3 (by kernel_rfl)
  obtain ⟨x3, h3, w3⟩ := h.int Try.underlying29 3 3 rfl rfl rfl Try.underlying3 (by kernel_rfl)
  obtain ⟨x4, h4, w4⟩ := h.int Try.underlying29 4 4 rfl rfl rfl Try.underlying3 (by kernel_rfl)
  obtain ⟨x5, h5, w5⟩ := h.int Try.underlying29 5 5 rfl rfl rfl Try.underlying3 (by kernel_rfl)
  obtain ⟨x6, h6, w6⟩ := h.int Try.underlying29 6 6 rfl rfl rfl Try.underlying3 (by kernel_rfl)
  obtain ⟨x7, h7, w7⟩ := h.int Try.underlying29 7 7 rfl rfl rfl Try.underlying3 (by kernel_rfl)
  obtain ⟨x8, h8, w8⟩ := h.int Try.underlying29 8 8 rfl rfl rfl Try.underlying3 (by kernel_rfl)
  obtain ⟨x9, h9, w9⟩ := h.int Try.underlying29 9 9 rfl rfl rfl Try.underlying3 (by kernel_rfl)
  obtain ⟨x10, h10⟩ := hr.bool Try.underlying27 0 0 rfl rfl rfl Try.underlying4 (by kernel_rfl)
  obtain ⟨x11, h11⟩ := hr.bool Try.underlying27 1 1 rfl rfl rfl Try.underlying4 (by kernel_rfl)
  obtain ⟨ra, rl, rc, h12, hs⟩ := hr.slice Try.underlying27 2 2 rfl rfl rfl Try.underlying25 (by kernel_rfl)
  obtain ⟨x13, h13, _⟩ := hr.int Try.underlying27 3 3 rfl rfl rfl Try.underlying3 (by kernel_rfl)
  have h10 := sub_at h10
  have h11 := sub_at h11
  have h12 := sub_at h12
  have h13 := sub_at h13
  refine ⟨⟨x0, x1, x2, x3, x4, x5, x6, x7, x8, x9, x10, x11, ra, rl, rc, x13⟩, congrArg Value.agg (arr_eq (l := [.int .i64 x0, .int .i64 x1, .int .i64 x2, .int .i64 x3, .int .i64 x4, .int .i64 x5, .int .i64 x6, .int .i64 x7, .int .i64 x8, .int .i64 x9, .bool x10, .bool x11, .slice ra rl rc, .int .i64 x13]) (hsz.trans (by kernel_rfl)) fun i hi => ?_), bounds_i64 w8, rules_of hs⟩
  match i, hi with
  | 0, _ => exact h0
  | 1, _ => exact h1
  | 2, _ => exact h2
  | 3, _ => exact h3
  | 4, _ => exact h4
  | 5, _ => exact h5
  | 6, _ => exact h6
  | 7, _ => exact h7
  | 8, _ => exact h8
  | 9, _ => exact h9
  | 10, _ => exact h10
  | 11, _ => exact h11
  | 12, _ => exact h12
  | 13, _ => exact h13
  | n + 14, hi => simp at hi; omega
theorem open_fb {v : Value} {d : DataW H} {p : List MemPlace} (hv : Value.okWide Try.prog w rr b0 35 v) (hd : DataW.Trod enc Try.prog w base (fun _ => true) held 35 v d p) :
    ∃ f : Fb, v = .agg #[.int .i64 f.cls, .int .i64 f.retry, .int .i64 f.reset] ∧ True := by
  obtain ⟨cs, rfl, hsz⟩ := okWide_struct Try.underlying35 hv
  have h := Fits.of hd
  obtain ⟨x0, h0, _⟩ := h.int Try.underlying35 0 0 rfl rfl rfl Try.underlying3 (by kernel_rfl)
  obtain ⟨x1, h1, _⟩ := h.int Try.underlying35 1 1 rfl rfl rfl Try.underlying3 (by kernel_rfl)
  obtain ⟨x2, h2, _⟩ := h.int Try.underlying35 2 2 rfl rfl rfl Try.underlying3 (by kernel_rfl)
  refine ⟨⟨x0, x1, x2⟩, congrArg Value.agg (arr_eq (l := [.int .i64 x0, .int .i64 x1, .int .i64 x2]) (hsz.trans (by kernel_rfl)) fun i hi => ?_), trivial⟩
  match i, hi with
  | 0, _ => exact h0
  | 1, _ => exact h1
  | 2, _ => exact h2
  | n + 3, hi => simp at hi; omega
theorem open_rob {v : Value} {d : DataW H} {p : List MemPlace} (hv : Value.okWide Try.prog w rr b0 27 v) (hd : DataW.Trod enc Try.prog w base (fun _ => true) held 27 v d p) :
    ∃ r : Rob, v = .agg #[.bool r.all, .bool r.none, .slice r.ra r.rl r.rc, .int .i64 r.delay] ∧ ∃ L a', IsRules w a' r.rl r.rc L ∧ (a' = r.ra ∨ r.rc = 0) := by
  obtain ⟨cs, rfl, hsz⟩ := okWide_struct Try.underlying27 hv
  have hr := Fits.of hd
  obtain ⟨x0, h0⟩ := hr.bool Try.underlying27 0 0 rfl rfl rfl Try.underlying4 (by kernel_rfl)
  obtain ⟨x1, h1⟩ := hr.bool Try.underlying27 1 1 rfl rfl rfl Try.underlying4 (by kernel_rfl)
  obtain ⟨ra, rl, rc, h2, hs⟩ := hr.slice Try.underlying27 2 2 rfl rfl rfl Try.underlying25 (by kernel_rfl)
  obtain ⟨x3, h3, _⟩ := hr.int Try.underlying27 3 3 rfl rfl rfl Try.underlying3 (by kernel_rfl)
  refine ⟨⟨x0, x1, ra, rl, rc, x3⟩, congrArg Value.agg (arr_eq (l := [.bool x0, .bool x1, .slice ra rl rc, .int .i64 x3]) (hsz.trans (by kernel_rfl)) fun i hi => ?_), rules_of hs⟩
  match i, hi with
  | 0, _ => exact h0
  | 1, _ => exact h1
  | 2, _ => exact h2
  | 3, _ => exact h3
  | n + 4, hi => simp at hi; omega
end
end Go.Proofs.Ytonfbkffngplcaa
