/- Package heap: comparing two places; two entries change places. -/
import Derived.Test.YtdkghinjpnelhaaHeapPut2
namespace Go.Proofs.Ytdkghinjpnelhaa
open Go.RowKit Go.Maps Go.WideMaps

section
variable {w : World} {B p bm : Nat} {a : Option Addr} {cap : Nat} {es : Ents} {f : Int → Option Nat} {N : Nat} {wk : Int}

theorem Hp.worked (h : Hp w B p bm a cap es f N wk) (wk' : Int) : Hp (w.setCell ⟨p, 2, none⟩ (.int .i64 wk')) B p bm a cap es f N wk' ∧ Turn p bm a w a (w.setCell ⟨p, 2, none⟩ (.int .i64 wk')) := by
  obtain ⟨D, hD, ht⟩ := h.map
  have hb := h.box.set 2 (.int .i64 wk')
  refine ⟨⟨by simpa using hb, ⟨D, hD.setCell (Ne.symm h.pm) _, ht⟩, ?_, h.wf, h.hp, h.hm, h.pm, h.sep⟩, (Only.refl _ w).setCell (p := ⟨p, 2, none⟩) (Or.inl (Or.inl rfl)) _, fun x hx => Or.inl ⟨x, hx, rfl⟩⟩
  have ho : Only (fun k => k = p) w (w.setCell ⟨p, 2, none⟩ (.int .i64 wk')) := Only.setCell (R := fun k => k = p) (Only.refl _ w) (p := ⟨p, 2, none⟩) (Or.inl rfl) _
  refine row_only h.row ho (fun k hk e => ?_)
  cases a with
  | none => simp [Value.ownBlock] at hk
  | some x => simp [Value.ownBlock] at hk; exact (h.sep x rfl).1 (hk.trans e)

set_option maxHeartbeats 2000000 in
theorem less_yes (h : Hp w B p bm a cap es f N wk) (i j : Nat) (x y : Int × Int) (hi : es[i]? = some x) (hj : es[j]? = some y) (hl : es.length < 1000000) (hw0 : 0 ≤ wk) (hw : wk < 1000000000) (b : Bool) (hb : b = true ↔ lt x y) :
    Calls Try.prog 31 #[.pointer (some ⟨p, 0, none⟩), .int .i64 i, .int .i64 j] w fun r w' => r = .returned (.bool b) ∧ Hp w' B p bm a cap es f N (wk + 1) ∧ Turn p bm a w a w' := by
  have hil := (List.getElem?_eq_some_iff.1 hi).1
  have hjl := (List.getElem?_eq_some_iff.1 hj).1
  obtain ⟨g, rfl, _, hg⟩ := h.place (by omega)
  obtain ⟨h1, t1⟩ := h.worked (wk + 1)
  have a1 := h1.cell1 hi
  have a2 := h1.cell2 hi
  have b1 := h1.cell1 hj
  have b2 := h1.cell2 hj
  obtain ⟨l, c, fz⟩ := h.box.facts
  obtain ⟨l1, c1, fz1⟩ := h1.box.facts
  have h := Lib.hid h
  have h1 := Lib.hid h1
  have t1 := Lib.hid t1
  have hb := Lib.hid hb
  go_enter Try.func31, Try.ntmps31
  go_wp2
  go_region
  all_goals rcases (by omega : x.2 < y.2 ∨ (¬ x.2 < y.2 ∧ ¬ x.2 = y.2) ∨ (¬ x.2 < y.2 ∧ x.2 = y.2 ∧ x.1 < y.1) ∨ (¬ x.2 < y.2 ∧ x.2 = y.2 ∧ ¬ x.1 < y.1)) with q1 | ⟨q1, q2⟩ | ⟨q1, q2, q3⟩ | ⟨q1, q2, q3⟩
  all_goals go_wp2
  all_goals go_ret
  all_goals
    have hbv : b = true ∨ b = false := by cases b <;> simp
    have hB := fun o o' => (((Below.refl (w.setCell ⟨p, 2, none⟩ (.int .i64 (wk + 1))).heap.size (w.setCell ⟨p, 2, none⟩ (.int .i64 (wk + 1)))).alloc (Nat.le_refl _) o).alloc (by simp) o').drew
    refine ⟨?_, h1.out.later (hB _ _), t1.out.trans ⟨Only.of_below _ (hB _ _), fun x hx => Or.inl ⟨x, hx, rfl⟩⟩⟩
    first
    | (rw [show b = true from hb.out.2 (by unfold lt; omega)]; rfl)
    | (rw [show b = false from hbv.resolve_left (fun e => absurd (hb.out.1 e) (by unfold lt; omega))]; rfl)
theorem less_at (h : Hp w B p bm a cap es f N wk) (i j : Nat) (x y : Int × Int) (hi : es[i]? = some x) (hj : es[j]? = some y) (hl : es.length < 1000000) (hw0 : 0 ≤ wk) (hw : wk < 1000000000) :
    Calls Try.prog 31 #[.pointer (some ⟨p, 0, none⟩), .int .i64 i, .int .i64 j] w fun r w' => ∃ b : Bool, (b = true ↔ lt x y) ∧ r = .returned (.bool b) ∧ Hp w' B p bm a cap es f N (wk + 1) ∧ Turn p bm a w a w' := by
  by_cases hlt : lt x y
  · exact (less_yes h i j x y hi hj hl hw0 hw true (by simp [hlt])).mono (fun r w' h => ⟨true, by simp [hlt], h⟩)
  · exact (less_yes h i j x y hi hj hl hw0 hw false (by simp [hlt])).mono (fun r w' h => ⟨false, by simp [hlt], h⟩)

set_option maxHeartbeats 1000000 in
theorem swap_at (h : Hp w B p bm a cap es f N wk) (i j : Nat) (x y : Int × Int) (hi : es[i]? = some x) (hj : es[j]? = some y) (hl : es.length < 1000000) (hN : N < 100000000) :
    Calls Try.prog 32 #[.pointer (some ⟨p, 0, none⟩), .int .i64 i, .int .i64 j] w fun r w' => r = .returned (.tuple #[]) ∧ Hp w' B p bm a cap (swp es i j x y) (upd (upd f y.1 (some i)) x.1 (some j)) (N + 2) wk ∧ Turn p bm a w a w' := by
  have hil := (List.getElem?_eq_some_iff.1 hi).1
  have hjl := (List.getElem?_eq_some_iff.1 hj).1
  obtain ⟨g, rfl, _, hg⟩ := h.place (by omega)
  have a1 := h.cell1 hi
  have a2 := h.cell2 hi
  have b1 := h.cell1 hj
  have b2 := h.cell2 hj
  have wx := h.wf x (List.mem_of_getElem? hi)
  have wy := h.wf y (List.mem_of_getElem? hj)
  obtain ⟨l, c, fz⟩ := h.box.facts
  have fresh : ∀ k, w.heap.size ≤ k → ¬ Mine p bm (some ⟨g, 0, none⟩) k := by
    intro k hk e
    obtain ⟨l1, l2, l3⟩ := h.lts
    rcases e with e | e | ⟨x, e, e2⟩
    · omega
    · omega
    · have := l3 x e
      omega
  have hB : ∀ o o', Below w.heap.size w ((w.alloc o).alloc o').drew := fun o o' => (((Below.refl _ _).alloc (Nat.le_refl _) o).alloc (by simp) o').drew
  go_enter Try.func32, Try.ntmps32
  go_wp2
  go_region
  · have hz : Hp (((w.alloc (.cells #[.int .i64 x.1, .int .i64 x.2] 68)).alloc (.cells #[.int .i64 y.1, .int .i64 y.2] 68)).drew) B p bm (some ⟨g, 0, none⟩) cap es f N wk := h.later (hB _ _)
    have tz : Turn p bm (some ⟨g, 0, none⟩) w (some ⟨g, 0, none⟩) (((w.alloc (.cells #[.int .i64 x.1, .int .i64 x.2] 68)).alloc (.cells #[.int .i64 y.1, .int .i64 y.2] 68)).drew) := ⟨Only.of_below _ (hB _ _), fun x hx => Or.inl ⟨x, hx, rfl⟩⟩
    have hx : Box (((w.alloc (.cells #[.int .i64 x.1, .int .i64 x.2] 68)).alloc (.cells #[.int .i64 y.1, .int .i64 y.2] 68)).drew) w.heap.size #[.int .i64 x.1, .int .i64 x.2] 68 := ((Box.new w #[.int .i64 x.1, .int .i64 x.2] 68).alloc (.cells #[.int .i64 y.1, .int .i64 y.2] 68)).drew
    have hy : Box (((w.alloc (.cells #[.int .i64 x.1, .int .i64 x.2] 68)).alloc (.cells #[.int .i64 y.1, .int .i64 y.2] 68)).drew) (w.heap.size + 1) #[.int .i64 y.1, .int .i64 y.2] 68 := by
      have := (Box.new (w.alloc (.cells #[.int .i64 x.1, .int .i64 x.2] 68)) #[.int .i64 y.1, .int .i64 y.2] 68).drew
      rw [World.size_alloc] at this
      exact this
    obtain ⟨lx, cx, fx⟩ := hx.facts
    obtain ⟨ly, cy, fy⟩ := hy.facts
    clear a1 a2 b1 b2 c fz l hB
    have hx := Lib.hid hx
    generalize ((w.alloc (.cells #[.int .i64 x.1, .int .i64 x.2] 68)).alloc (.cells #[.int .i64 y.1, .int .i64 y.2] 68)).drew = wz at *
    go_wp2_with (first
      | (go_at_call 27; refine (put_at h1 j (by simpa using hjl) x wx (by simpa using hl) (by omega)).mono ?_; rintro r w2 ⟨rfl, h2, t2⟩)
      | (go_at_call 27; refine (put_at hz i hil y wy hl (by omega)).mono ?_; rintro r w1 ⟨rfl, h1, t1⟩; have hx1 := hx.out.only t1.1 (fresh _ (Nat.le_refl _)); obtain ⟨lx1, cx1, fx1⟩ := hx1.facts)
      | go_in)
    go_end0
    exact ⟨rfl, h2, (tz.trans t1).trans t2⟩
  · have hz : Hp (((w.alloc (.cells #[.int .i64 y.1, .int .i64 y.2] 68)).alloc (.cells #[.int .i64 x.1, .int .i64 x.2] 68)).drew) B p bm (some ⟨g, 0, none⟩) cap es f N wk := h.later (hB _ _)
    have tz : Turn p bm (some ⟨g, 0, none⟩) w (some ⟨g, 0, none⟩) (((w.alloc (.cells #[.int .i64 y.1, .int .i64 y.2] 68)).alloc (.cells #[.int .i64 x.1, .int .i64 x.2] 68)).drew) := ⟨Only.of_below _ (hB _ _), fun x hx => Or.inl ⟨x, hx, rfl⟩⟩
    have hy : Box (((w.alloc (.cells #[.int .i64 y.1, .int .i64 y.2] 68)).alloc (.cells #[.int .i64 x.1, .int .i64 x.2] 68)).drew) w.heap.size #[.int .i64 y.1, .int .i64 y.2] 68 := ((Box.new w #[.int .i64 y.1, .int .i64 y.2] 68).alloc (.cells #[.int .i64 x.1, .int .i64 x.2] 68)).drew
    have hx : Box (((w.alloc (.cells #[.int .i64 y.1, .int .i64 y.2] 68)).alloc (.cells #[.int .i64 x.1, .int .i64 x.2] 68)).drew) (w.heap.size + 1) #[.int .i64 x.1, .int .i64 x.2] 68 := by
      have := (Box.new (w.alloc (.cells #[.int .i64 y.1, .int .i64 y.2] 68)) #[.int .i64 x.1, .int .i64 x.2] 68).drew
      rw [World.size_alloc] at this
      exact this
    obtain ⟨lx, cx, fx⟩ := hx.facts
    obtain ⟨ly, cy, fy⟩ := hy.facts
    clear a1 a2 b1 b2 c fz l hB
    have hx := Lib.hid hx
    generalize ((w.alloc (.cells #[.int .i64 y.1, .int .i64 y.2] 68)).alloc (.cells #[.int .i64 x.1, .int .i64 x.2] 68)).drew = wz at *
    go_wp2_with (first
      | (go_at_call 27; refine (put_at h1 j (by simpa using hjl) x wx (by simpa using hl) (by omega)).mono ?_; rintro r w2 ⟨rfl, h2, t2⟩)
      | (go_at_call 27; refine (put_at hz i hil y wy hl (by omega)).mono ?_; rintro r w1 ⟨rfl, h1, t1⟩; have hx1 := hx.out.only t1.1 (fresh _ (by omega)); obtain ⟨lx1, cx1, fx1⟩ := hx1.facts)
      | go_in)
    go_end0
    exact ⟨rfl, h2, (tz.trans t1).trans t2⟩
theorem less_as (h : Hp w B p bm a cap es f N wk) (i j : Nat) (I J : Int) (eI : (i : Int) = I) (eJ : (j : Int) = J) (x y : Int × Int) (hi : es[i]? = some x) (hj : es[j]? = some y) (hl : es.length < 1000000) (hw0 : 0 ≤ wk) (hw : wk < 1000000000) :
    Calls Try.prog 31 #[.pointer (some ⟨p, 0, none⟩), .int .i64 I, .int .i64 J] w fun r w' => ∃ b : Bool, (b = true ↔ lt x y) ∧ r = .returned (.bool b) ∧ Hp w' B p bm a cap es f N (wk + 1) ∧ Turn p bm a w a w' := by
  subst eI
  subst eJ
  exact less_at h i j x y hi hj hl hw0 hw
theorem swap_as (h : Hp w B p bm a cap es f N wk) (i j : Nat) (I J : Int) (eI : (i : Int) = I) (eJ : (j : Int) = J) (x y : Int × Int) (hi : es[i]? = some x) (hj : es[j]? = some y) (hl : es.length < 1000000) (hN : N < 100000000) :
    Calls Try.prog 32 #[.pointer (some ⟨p, 0, none⟩), .int .i64 I, .int .i64 J] w fun r w' => r = .returned (.tuple #[]) ∧ Hp w' B p bm a cap (swp es i j x y) (upd (upd f y.1 (some i)) x.1 (some j)) (N + 2) wk ∧ Turn p bm a w a w' := by
  subst eI
  subst eJ
  exact swap_at h i j x y hi hj hl hN
end
end Go.Proofs.Ytdkghinjpnelhaa
