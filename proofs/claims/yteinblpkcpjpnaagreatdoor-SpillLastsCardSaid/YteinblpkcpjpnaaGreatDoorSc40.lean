/- Part of a chain: SpIn. -/
import Derived.Test.YteinblpkcpjpnaaGreatDoorSc37
import Derived.Test.YteinblpkcpjpnaaGreatDoorSc38
/- Package spill: requests and acts that came in. -/
namespace Go.Proofs.YteinblpkcpjpnaaGreatDoor
open Go Go.RowKit
open Go.Joins Go.Deep Go.WideShapes
set_option linter.unusedVariables false
set_option maxRecDepth 100000
/-- A request's numbers are numbers of the machine. -/
structure RcW (r : Rc) : Prop where
  k : r.kind = 1
  id : okI r.id
  pr : okI r.prio
  ti : okI r.till
structure AcT where
  what : Int
  n : Int
  m : Int
  r : Rc
  host : ByteArray
def acT (x : AcT) : List Value := [.int .i64 x.what, .int .i64 x.n, .int .i64 x.m, .int .i64 x.r.id, .string x.r.host, .string x.r.path, .int .i64 x.r.prio, .int .i64 x.r.till, .string x.host]
/-- What a walk is told of one act. -/
structure A9 (w : World) (g o : Nat) (x : AcT) : Prop where
  c0 : w.cell? ⟨g, o, none⟩ = some (.int .i64 x.what)
  c1 : w.cell? ⟨g, o + 1, none⟩ = some (.int .i64 x.n)
  c2 : w.cell? ⟨g, o + 2, none⟩ = some (.int .i64 x.m)
  c3 : w.cell? ⟨g, o + 3, none⟩ = some (.int .i64 x.r.id)
  c4 : w.cell? ⟨g, o + 4, none⟩ = some (.string x.r.host)
  c5 : w.cell? ⟨g, o + 5, none⟩ = some (.string x.r.path)
  c6 : w.cell? ⟨g, o + 6, none⟩ = some (.int .i64 x.r.prio)
  c7 : w.cell? ⟨g, o + 7, none⟩ = some (.int .i64 x.r.till)
  c8 : w.cell? ⟨g, o + 8, none⟩ = some (.string x.host)
  rw : RcW x.r
  nw : okI x.n
  mw : okI x.m
  ww : okI x.what
theorem A9.later {w w' : World} {g o : Nat} {x : AcT} (h : A9 w g o x) (hb : Below w.heap.size w w') : A9 w' g o x := by
  have k : ∀ {p : Addr} {u : Value}, w.cell? p = some u → w'.cell? p = some u := fun hp => (hb.cell (World.block_lt_of_cell? _ _ hp)).trans hp
  exact ⟨k h.c0, k h.c1, k h.c2, k h.c3, k h.c4, k h.c5, k h.c6, k h.c7, k h.c8, h.rw, h.nw, h.mw, h.ww⟩
def IsActs (w : World) (x : Option Addr × Nat × Nat) : Prop :=
  ∃ b off, (0 < x.2.1 → x.1 = some ⟨b, off, none⟩) ∧ x.2.1 ≤ maxLen ∧ ∀ i, i < x.2.1 → ∃ e : AcT, A9 w b (off + i * 9) e
section
variable {H : Type} {enc : TypeId × Value → H} {w : World} {base b0 : Nat} {held : Bool} {rr : Reach}
theorem sp_arr {cs : Array Value} {l : List Value} (hl : cs.size = l.length) (h : ∀ i, i < l.length → cs.toList[i]? = l[i]?) : cs = l.toArray := by
  apply Array.ext'
  apply List.ext_getElem?
  intro i
  by_cases hi : i < l.length
  · simpa using h i hi
  · rw [List.getElem?_eq_none (by simp; omega), List.getElem?_eq_none (by simpa using hi)]
theorem req_of {cs : List Value} (hr : Fits enc Tryz.prog w base (fun _ => true) held 31 cs) : ∃ r : Rc, RcW r ∧ ∀ (j : Nat) (v : Value), (reqL r)[j]? = some v → cs[j]? = some v := by
  obtain ⟨x1, h1, w1⟩ := hr.int Tryz.underlying31 0 0 rfl rfl rfl Tryz.underlying3 (by kernel_rfl)
  obtain ⟨x2, h2, w2⟩ := hr.string Tryz.underlying31 1 1 rfl rfl rfl Tryz.underlying9 (by kernel_rfl)
  obtain ⟨x3, h3, w3⟩ := hr.string Tryz.underlying31 2 2 rfl rfl rfl Tryz.underlying9 (by kernel_rfl)
  obtain ⟨x4, h4, w4⟩ := hr.int Tryz.underlying31 3 3 rfl rfl rfl Tryz.underlying3 (by kernel_rfl)
  obtain ⟨x5, h5, w5⟩ := hr.int Tryz.underlying31 4 4 rfl rfl rfl Tryz.underlying3 (by kernel_rfl)
  refine ⟨⟨1, x1, x2, x3, x4, x5⟩, ⟨rfl, w1, w4, w5⟩, fun j v hv => ?_⟩
  have hj : j < 5 := (List.getElem?_eq_some_iff.1 hv).1
  match j, hj with
  | 0, _ => cases hv; exact h1
  | 1, _ => cases hv; exact h2
  | 2, _ => cases hv; exact h3
  | 3, _ => cases hv; exact h4
  | 4, _ => cases hv; exact h5
theorem open_req {v : Value} {d : DataW H} {p : List MemPlace} (hv : Value.okWide Tryz.prog w rr b0 31 v) (hd : DataW.Trod enc Tryz.prog w base (fun _ => true) held 31 v d p) :
    ∃ r : Rc, v = .agg (reqL r).toArray ∧ RcW r := by
  obtain ⟨cs, rfl, hsz⟩ := okWide_struct Tryz.underlying31 hv
  have h := Fits.of hd
  obtain ⟨r, hw, hr⟩ := req_of h
  refine ⟨r, congrArg Value.agg (sp_arr (l := reqL r) (hsz.trans (by kernel_rfl)) fun i hi => ?_), hw⟩
  have := hr i _ (List.getElem?_eq_getElem hi)
  rw [List.getElem?_eq_getElem hi]
  exact this
theorem ac_of {cs : List Value} (hr : Fits enc Tryz.prog w base (fun _ => true) held 33 cs) : ∃ x : AcT, RcW x.r ∧ okI x.what ∧ okI x.n ∧ okI x.m ∧ ∀ (j : Nat) (v : Value), (acT x)[j]? = some v → cs[j]? = some v := by
  obtain ⟨x1, h1, w1⟩ := hr.int Tryz.underlying33 0 0 rfl rfl rfl Tryz.underlying3 (by kernel_rfl)
  obtain ⟨x2, h2, w2⟩ := hr.int Tryz.underlying33 1 1 rfl rfl rfl Tryz.underlying3 (by kernel_rfl)
  obtain ⟨x3, h3, w3⟩ := hr.int Tryz.underlying33 2 2 rfl rfl rfl Tryz.underlying3 (by kernel_rfl)
  obtain ⟨x5, h5, w5⟩ := hr.string Tryz.underlying33 4 8 rfl rfl rfl Tryz.underlying9 (by kernel_rfl)
  have hq := hr.struct Tryz.underlying33 3 3 5 (u := 31) rfl rfl rfl (by kernel_rfl)
  obtain ⟨r, hw, hr5⟩ := req_of hq
  have k : ∀ j v, j < 5 → (reqL r)[j]? = some v → cs[3 + j]? = some v := fun j v hj hv => by
    have := hr5 j v hv
    rw [List.getElem?_take, if_pos hj, List.getElem?_drop] at this
    exact this
  refine ⟨⟨x1, x2, x3, r, x5⟩, hw, w1, w2, w3, fun j v hv => ?_⟩
  have hj : j < 9 := (List.getElem?_eq_some_iff.1 hv).1
  match j, hj with
  | 0, _ => cases hv; exact h1
  | 1, _ => cases hv; exact h2
  | 2, _ => cases hv; exact h3
  | 3, _ => exact k 0 v (by decide) hv
  | 4, _ => exact k 1 v (by decide) hv
  | 5, _ => exact k 2 v (by decide) hv
  | 6, _ => exact k 3 v (by decide) hv
  | 7, _ => exact k 4 v (by decide) hv
  | 8, _ => cases hv; exact h5
theorem open_acts {v : Value} {d : DataW H} {p : List MemPlace} (hv : Value.okWide Tryz.prog w rr b0 22 v) (hd : DataW.Trod enc Tryz.prog w base (fun _ => true) held 22 v d p) :
    ∃ x : Option Addr × Nat × Nat, v = .slice x.1 x.2.1 x.2.2 ∧ IsActs w x := by
  obtain ⟨a, len, cap, rfl⟩ := okWide_slice Tryz.underlying22 hv
  refine ⟨(a, len, cap), rfl, ?_⟩
  have h : Fits enc Tryz.prog w base (fun _ => true) held 22 [.slice a len cap] := Fits.of hd
  obtain ⟨C, ⟨rfl, rfl, rfl⟩ | ⟨x, rfl, hl, hm, hx⟩⟩ := h.elems Tryz.underlying22 (n := 9) (by kernel_rfl)
  · exact ⟨0, 0, fun h => absurd h (by decide), by decide, fun i hi => absurd hi (Nat.not_lt_zero i)⟩
  · by_cases h0 : 0 < cap
    · obtain ⟨b, off, rfl, hc⟩ := plain_at (by decide) (fun i hi => ⟨(hx i hi).1, (hx i hi).2.2⟩) h0
      refine ⟨b, off, fun _ => rfl, (by omega : len ≤ maxLen), fun i hi => ?_⟩
      have hi : i < cap := Nat.lt_of_lt_of_le hi hl
      obtain ⟨e, hw, u1, u2, u3, he⟩ := ac_of (hx i hi).2.1
      exact ⟨e, by simpa using hc i hi 0 _ (he 0 _ rfl), hc i hi 1 _ (he 1 _ rfl), hc i hi 2 _ (he 2 _ rfl), hc i hi 3 _ (he 3 _ rfl), hc i hi 4 _ (he 4 _ rfl), hc i hi 5 _ (he 5 _ rfl), hc i hi 6 _ (he 6 _ rfl), hc i hi 7 _ (he 7 _ rfl), hc i hi 8 _ (he 8 _ rfl), hw, u2, u3, u1⟩
    · obtain rfl : cap = 0 := by omega
      obtain rfl : len = 0 := by omega
      exact ⟨0, 0, fun h => absurd h (Nat.lt_irrefl 0), Nat.zero_le _, fun i hi => absurd hi (Nat.not_lt_zero i)⟩
end
end Go.Proofs.YteinblpkcpjpnaaGreatDoor
