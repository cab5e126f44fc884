/- QueuePlays: the acts that came in. -/
import Derived.Test.YtbifnmlhbepadaaQuOpen
namespace Go.Proofs.Ytbifnmlhbepadaa
open Go Go.RowKit
open Go.Joins Go.Deep Go.WideShapes
set_option linter.unusedVariables false
set_option maxRecDepth 100000
structure Ac where
  what : Int
  n : Int
  r : Rq
def acL (x : Ac) : List Value := [.int .i64 x.what, .int .i64 x.n, .int .i64 x.r.id, .string x.r.host, .string x.r.path, .int .i64 x.r.prio, .int .i64 x.r.til]
/-- What a walk is told of one act. -/
structure A7 (w : World) (g o : Nat) (x : Ac) : Prop where
  c0 : w.cell? ⟨g, o, none⟩ = some (.int .i64 x.what)
  c1 : w.cell? ⟨g, o + 1, none⟩ = some (.int .i64 x.n)
  c2 : w.cell? ⟨g, o + 2, none⟩ = some (.int .i64 x.r.id)
  c3 : w.cell? ⟨g, o + 3, none⟩ = some (.string x.r.host)
  c4 : w.cell? ⟨g, o + 4, none⟩ = some (.string x.r.path)
  c5 : w.cell? ⟨g, o + 5, none⟩ = some (.int .i64 x.r.prio)
  c6 : w.cell? ⟨g, o + 6, none⟩ = some (.int .i64 x.r.til)
theorem A7.later {w w' : World} {g o : Nat} {x : Ac} (h : A7 w g o x) (hb : Below w.heap.size w w') : A7 w' g o x := by
  have k : ∀ {p : Addr} {u : Value}, w.cell? p = some u → w'.cell? p = some u := fun hp => (hb.cell (World.block_lt_of_cell? _ _ hp)).trans hp
  exact ⟨k h.c0, k h.c1, k h.c2, k h.c3, k h.c4, k h.c5, k h.c6⟩
def IsActs (w : World) (x : Option Addr × Nat × Nat) : Prop :=
  ∃ b off, (0 < x.2.1 → x.1 = some ⟨b, off, none⟩) ∧ x.2.1 ≤ maxLen ∧ ∀ i, i < x.2.1 → ∃ e : Ac, A7 w b (off + i * 7) e
section
variable {H : Type} {enc : TypeId × Value → H} {w : World} {base b0 : Nat} {held : Bool} {rr : Reach}
theorem ac_of {cs : List Value} (hr : Fits enc Try.prog w base (fun _ => true) held 29 cs) : ∃ x : Ac, ∀ (j : Nat) (v : Value), (acL x)[j]? = some v → cs[j]? = some v := by
  obtain ⟨x1, h1, w1⟩ := hr.int Try.underlying29 0 0 rfl rfl rfl Try.underlying3 (by kernel_rfl)
  obtain ⟨x2, h2, w2⟩ := hr.int Try.underlying29 1 1 rfl rfl rfl Try.underlying3 (by kernel_rfl)
  have hq := hr.struct Try.underlying29 2 2 5 (u := 27) rfl rfl rfl (by kernel_rfl)
  obtain ⟨r, hr5⟩ := req_of hq
  have k : ∀ j v, j < 5 → (rqL r)[j]? = some v → cs[2 + j]? = some v := fun j v hj hv => by
    have := hr5 j v hv
    rw [List.getElem?_take, if_pos hj, List.getElem?_drop] at this
    exact this
  refine ⟨⟨x1, x2, r⟩, fun j v hv => ?_⟩
  have hj : j < 7 := (List.getElem?_eq_some_iff.1 hv).1
  match j, hj with
  | 0, _ => cases hv; exact h1
  | 1, _ => cases hv; exact h2
  | 2, _ => exact k 0 v (by decide) hv
  | 3, _ => exact k 1 v (by decide) hv
  | 4, _ => exact k 2 v (by decide) hv
  | 5, _ => exact k 3 v (by decide) hv
  | 6, _ => exact k 4 v (by decide) hv
theorem open_acts {v : Value} {d : DataW H} {p : List MemPlace} (hv : Value.okWide Try.prog w rr b0 22 v) (hd : DataW.Trod enc Try.prog w base (fun _ => true) held 22 v d p) :
    ∃ x : Option Addr × Nat × Nat, v = .slice x.1 x.2.1 x.2.2 ∧ IsActs w x := by
  obtain ⟨a, len, cap, rfl⟩ := okWide_slice Try.underlying22 hv
  refine ⟨(a, len, cap), rfl, ?_⟩
  have h : Fits enc Try.prog w base (fun _ => true) held 22 [.slice a len cap] := Fits.of hd
  obtain ⟨C, ⟨rfl, rfl, rfl⟩ | ⟨x, rfl, hl, hm, hx⟩⟩ := h.elems Try.underlying22 (n := 7) (by kernel_rfl)
  · exact ⟨0, 0, fun h => absurd h (by decide), by decide, fun i hi => absurd hi (Nat.not_lt_zero i)⟩
  · by_cases h0 : 0 < cap
    · obtain ⟨b, off, rfl, hc⟩ := plain_at (by decide) (fun i hi => ⟨(hx i hi).1, (hx i hi).2.2⟩) h0
      refine ⟨b, off, fun _ => rfl, (by omega : len ≤ maxLen), fun i hi => ?_⟩
      have hi : i < cap := Nat.lt_of_lt_of_le hi hl
      obtain ⟨e, he⟩ := ac_of (hx i hi).2.1
      exact ⟨e, by simpa using hc i hi 0 _ (he 0 _ rfl), hc i hi 1 _ (he 1 _ rfl), hc i hi 2 _ (he 2 _ rfl), hc i hi 3 _ (he 3 _ rfl), hc i hi 4 _ (he 4 _ rfl), hc i hi 5 _ (he 5 _ rfl), hc i hi 6 _ (he 6 _ rfl)⟩
    · obtain rfl : cap = 0 := by omega
      obtain rfl : len = 0 := by omega
      exact ⟨0, 0, fun h => absurd h (Nat.lt_irrefl 0), Nat.zero_le _, fun i hi => absurd hi (Nat.not_lt_zero i)⟩
end
end Go.Proofs.Ytbifnmlhbepadaa
