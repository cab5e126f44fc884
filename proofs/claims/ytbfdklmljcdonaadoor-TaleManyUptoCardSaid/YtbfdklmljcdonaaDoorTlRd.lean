/- Package tale: the steps of a text. -/
import Derived.Test.YtbfdklmljcdonaaDoorTlIt
namespace Go.Proofs.YtbfdklmljcdonaaDoor
open Go Go.RowKit Go.Shelf
set_option linter.unusedVariables false
set_option linter.unusedSimpArgs false
set_option maxRecDepth 10000

structure Yv where
  y : Stp
  ha : Option Addr
  hc : Nat
def yL (v : Yv) : List Value := [.int .i64 v.y.k, .int .i64 v.y.a, .int .i64 v.y.b, .int .i64 v.y.c, .string v.y.t, .slice v.ha v.y.hs.length v.hc]
def yV (ys : List Yv) : List Value := ys.flatMap yL
def YsOk (W : World) (B : Nat) (ys : List Yv) : Prop := ∀ v ∈ ys, Own W B 36 2 v.ha v.y.hs.length v.hc (hdV v.y.hs)
structure RdI (w : World) (lb r2 r3 r4 : Nat) (pre : List LX) (ys : List Yv) (n : Nat) (a : Option Addr) (c : Nat) (W : World) : Prop where
  bl_ : Box W lb #[.slice a n c] 22
  b2 : Box W r2 #[.slice none 0 0] 22
  b3 : Box W r3 #[.int .i64 0] 3
  b4 : Box W r4 #[.int .i64 0] 27
  own : Own W w.heap.size 26 6 a n c (yV ys)
  hd : YsOk W w.heap.size ys
  len : ys.length = n
  val : pre.map (fun x => stepS (bl x.1.2)) = ys.map (fun v => some (spOf v.y))
  bel : Below w.heap.size w W
structure RdX (w : World) (r2 r3 r4 : Nat) (pre : List LX) (W : World) : Prop where
  bad : ∃ p x, pre = p ++ [x] ∧ (∀ z ∈ p, (stepS (bl z.1.2)).isSome = true) ∧ stepS (bl x.1.2) = none ∧ Box W r3 #[.int .i64 (x.1.1 : Int)] 3
  b2 : Box W r2 #[.slice none 0 0] 22
  b4 : Box W r4 #[.int .i64 8] 27
  bel : Below w.heap.size w W
theorem box_kept {W W' : World} {b B : Nat} {cs : Array Value} {t : TypeId} {row : Option Nat} (h : Box W b cs t) (hg : W.grownBy W' row) (hr : ∀ r, row = some r → B ≤ r ∧ ∃ o : Obj, W.heap[r]? = some o ∧ o.isCells = false) : Box W' b cs t := by
  refine (hg.block b h.lt (fun e => ?_)).trans h
  obtain ⟨_, o, ho, hc⟩ := hr b e.symm
  have h2 : W.heap[b]? = some (.cells cs t (0, 0)) := h
  rw [h2] at ho
  injection ho with ho
  subst ho
  cases hc
theorem own_kept {W W' : World} {B0 B size n c : Nat} {E : TypeId} {a : Option Addr} {xs : List Value} {row : Option Nat} (h : Own W B0 E size a n c xs) (hg : W.grownBy W' row) (hr : ∀ r, row = some r → B ≤ r ∧ ∃ o : Obj, W.heap[r]? = some o ∧ o.isCells = false) : Own W' B0 E size a n c xs := by
  refine h.blocks (fun g e => ?_)
  rcases h.2 with h2 | ⟨g2, cc, cur, e2, hB, hg2, hrr⟩
  · rw [e] at h2; simp at h2
  · have e3 : g = g2 := by rw [e] at e2; simp at e2; exact e2.1
    subst e3
    refine hg.block g (Array.getElem?_eq_some_iff.1 hg2).1 (fun e4 => ?_)
    obtain ⟨_, o, ho, hc⟩ := hr g e4.symm
    rw [hg2] at ho
    injection ho with ho
    subst ho
    cases hc
theorem RdI.kept {w : World} {lb r2 r3 r4 : Nat} {pre : List LX} {ys : List Yv} {n : Nat} {a : Option Addr} {c : Nat} {W W' : World} {row : Option Nat} {B : Nat} (hB : w.heap.size ≤ B) (h : RdI w lb r2 r3 r4 pre ys n a c W) (hg : W.grownBy W' row) (hr : ∀ r, row = some r → B ≤ r ∧ ∃ o : Obj, W.heap[r]? = some o ∧ o.isCells = false) : RdI w lb r2 r3 r4 pre ys n a c W' :=
  ⟨box_kept h.bl_ hg hr, box_kept h.b2 hg hr, box_kept h.b3 hg hr, box_kept h.b4 hg hr, own_kept h.own hg hr, fun v hv => own_kept (h.hd v hv) hg hr, h.len, h.val, h.bel.grown hg h.bel.size (fun k hk => Nat.le_trans hB (hr k hk).1)⟩
theorem RdX.kept {w : World} {r2 r3 r4 : Nat} {pre : List LX} {W W' : World} {row : Option Nat} {B : Nat} (hB : w.heap.size ≤ B) (h : RdX w r2 r3 r4 pre W) (hg : W.grownBy W' row) (hr : ∀ r, row = some r → B ≤ r ∧ ∃ o : Obj, W.heap[r]? = some o ∧ o.isCells = false) : RdX w r2 r3 r4 pre W' :=
  ⟨by obtain ⟨p, x, e, h1, h2, h3⟩ := h.bad; exact ⟨p, x, e, h1, h2, box_kept h3 hg hr⟩, box_kept h.b2 hg hr, box_kept h.b4 hg hr, h.bel.grown hg h.bel.size (fun k hk => Nat.le_trans hB (hr k hk).1)⟩
theorem codeIn_forget {P : Program} {F : Fence} {n : Nat} {c : Code} {Q : Exit → Act → World → Prop} {a : Act} {w : World} (S : World → Prop) (h : S w) (k : ∀ w', S w' → Code.wpIn F n P c Q a w') : Code.wpIn F n P c Q a w := k w h
theorem keeps_below {W W' : World} (h : Below W.heap.size W W') : KeepsOthers W W' := ⟨h.size, fun k o hk _ => (h.block k (Array.getElem?_eq_some_iff.1 hk).1).trans hk⟩
theorem lnB_len (s : ByteArray) : (lnB s).length ≤ s.size := by
  unfold lnB
  rw [List.length_map, ← bl_len s]
  exact lnl_len _
theorem rd_all {pre : List LX} {ys : List Yv} (h : pre.map (fun x => stepS (bl x.1.2)) = ys.map (fun v => some (spOf v.y))) : ∀ z ∈ pre, (stepS (bl z.1.2)).isSome = true := fun z hz => by
  have h1 : stepS (bl z.1.2) ∈ pre.map (fun x => stepS (bl x.1.2)) := List.mem_map_of_mem (f := fun x : LX => stepS (bl x.1.2)) hz
  rw [h] at h1
  obtain ⟨v, _, hv⟩ := List.mem_map.1 h1
  rw [← hv]
  rfl
theorem box_set1 {w : World} {b : Nat} {u v : Value} {t : TypeId} (h : Box w b #[u] t) : Box (w.setCell ⟨b, 0, none⟩ v) b #[v] t := h.set 0 v
theorem rd_end {w W w2 : World} {lb r2 r3 r4 n c : Nat} {a : Option Addr} {pre : List LX} {x : LX} {ys : List Yv} {xn : Int} {xs : ByteArray} (h : RdI w lb r2 r3 r4 pre ys n a c W) (b2 : Below W.heap.size W w2) (hne : r2 ≠ r3 ∧ r2 ≠ r4 ∧ r2 ≠ lb ∧ r3 ≠ r4 ∧ r3 ≠ lb ∧ r4 ≠ lb)
    (hlo : w.heap.size ≤ r2 ∧ w.heap.size ≤ r3 ∧ w.heap.size ≤ r4 ∧ w.heap.size ≤ lb) (hxs : x.1.2 = xs) (hxn : (x.1.1 : Int) = xn) (hno : stepS (bl xs) = none) (cs : Array Value) (ty : TypeId) :
    KeepsOthers W ((((w2.setCell ⟨r2, 0, none⟩ (.slice none 0 0)).setCell ⟨r3, 0, none⟩ (.int .i64 xn)).setCell ⟨r4, 0, none⟩ (.int .i64 8)).alloc (.cells cs ty)) ∧
    RdX w r2 r3 r4 (pre ++ [x]) ((((w2.setCell ⟨r2, 0, none⟩ (.slice none 0 0)).setCell ⟨r3, 0, none⟩ (.int .i64 xn)).setCell ⟨r4, 0, none⟩ (.int .i64 8)).alloc (.cells cs ty)) := by
  obtain ⟨n1, n2, n3, n4, n5, n6⟩ := hne
  obtain ⟨o1, o2, o3, o4⟩ := hlo
  have q2 := h.b2.later b2
  have q3 := h.b3.later b2
  have q4 := h.b4.later b2
  have hb := h.bel.trans (b2.mono h.bel.size)
  refine ⟨((((keeps_below b2).trans (KeepsOthers.setCell _ _ _)).trans (KeepsOthers.setCell _ _ _)).trans (KeepsOthers.setCell _ _ _)).trans (KeepsOthers.alloc _ _), ⟨pre, x, rfl, fun z hz => rd_all h.val z hz, by rw [hxs]; exact hno, ?_⟩, ?_, ?_, ?_⟩
  · rw [hxn]
    exact ((box_set1 (q3.other (a := ⟨r2, 0, none⟩) (Ne.symm n1) _)).other (a := ⟨r4, 0, none⟩) n4 _).alloc _
  · exact (((box_set1 q2).other (a := ⟨r3, 0, none⟩) n1 _).other (a := ⟨r4, 0, none⟩) n2 _).alloc _
  · exact (box_set1 ((q4.other (a := ⟨r2, 0, none⟩) (Ne.symm n2) _).other (a := ⟨r3, 0, none⟩) (Ne.symm n4) _)).alloc _
  · have h3 := ((hb.setCell (p := ⟨r2, 0, none⟩) o1 (.slice none 0 0)).setCell (p := ⟨r3, 0, none⟩) o2 (.int .i64 xn)).setCell (p := ⟨r4, 0, none⟩) o3 (.int .i64 8)
    exact h3.alloc h3.size _
theorem own_cells {w : World} {B n c size : Nat} {E : TypeId} {g : Nat} {xs : List Value} (h : Own w B E size (some ⟨g, 0, none⟩) n c xs) : ∃ cs fr, w.heap[g]? = some (.cells cs E fr) := by
  rcases h.2 with h2 | ⟨g2, cc, cur, e2, hB, hg2, hrr⟩
  · simp at h2
  · simp at e2
    obtain ⟨rfl, _⟩ := e2
    exact ⟨_, _, hg2⟩
theorem own_apart2 {w : World} {B1 n1 c1 s1 B2 n2 c2 s2 : Nat} {E1 E2 : TypeId} {g : Nat} {x1 x2 : List Value} (h1 : Own w B1 E1 s1 (some ⟨g, 0, none⟩) n1 c1 x1) (h2 : Own w B2 E2 s2 (some ⟨g, 0, none⟩) n2 c2 x2) (hne : E1 ≠ E2) : False := by
  obtain ⟨cs, fr, e1⟩ := own_cells h1
  obtain ⟨cs2, fr2, e2⟩ := own_cells h2
  rw [e1] at e2
  injection e2 with e2
  injection e2 with _ e2 _
  exact hne e2
theorem infoSt : (Tryd.prog.info? 26).map (fun i => (i.zero, i.size, i.bytes)) = some (some (.agg #[.int .i64 0, .int .i64 0, .int .i64 0, .int .i64 0, .string ByteArray.empty, .slice none 0 0]), 6, 72) := by kernel_rfl
theorem rd_step {w W w2 w3 w9 : World} {lb r2 r3 r4 n c c' : Nat} {a a' : Option Addr} {pre : List LX} {x : LX} {ys : List Yv} {v : Yv} (h : RdI w lb r2 r3 r4 pre ys n a c W) (b2 : Below W.heap.size W w2) (b3 : Below w2.heap.size w2 w3) (hne : r2 ≠ r3 ∧ r2 ≠ r4 ∧ r2 ≠ lb ∧ r3 ≠ r4 ∧ r3 ≠ lb ∧ r4 ≠ lb)
    (hlo : w.heap.size ≤ r2 ∧ w.heap.size ≤ r3 ∧ w.heap.size ≤ r4 ∧ w.heap.size ≤ lb) (hg : w3.grownBy w9 (a.map (·.block))) (ho : Own w9 w.heap.size 26 6 a' (n + 1) c' (yV ys ++ yL v)) (hh : Own w2 W.heap.size 36 2 v.ha v.y.hs.length v.hc (hdV v.y.hs)) (hy : stepS (bl x.1.2) = some (spOf v.y)) :
    Box w9 lb #[.slice a n c] 22 ∧ KeepsOthers W (w9.setCell ⟨lb, 0, none⟩ (.slice a' (n + 1) c')) ∧ Below w.heap.size W (w9.setCell ⟨lb, 0, none⟩ (.slice a' (n + 1) c')) ∧ RdI w lb r2 r3 r4 (pre ++ [x]) (ys ++ [v]) (n + 1) a' c' (w9.setCell ⟨lb, 0, none⟩ (.slice a' (n + 1) c')) := by
  obtain ⟨n1, n2, n3, n4, n5, n6⟩ := hne
  obtain ⟨o1, o2, o3, o4⟩ := hlo
  have b23 : Below W.heap.size W w3 := b2.trans (b3.mono b2.size)
  have own3 := h.own.later b23
  have hon : Only (fun q => a = some ⟨q, 0, none⟩) w3 w9 := Only.of_grown hg (fun k hk => by
    rcases own3.form with ⟨e, _, _⟩ | ⟨g, e, _, _⟩
    · rw [e] at hk; cases hk
    · rw [e] at hk ⊢
      injection hk with hk
      have hk2 : g = k := hk
      rw [hk2])
  have nb : ∀ {b : Nat} {cs : Array Value} {t : TypeId}, Box w3 b cs t → t ≠ 26 → ¬ (a = some ⟨b, 0, none⟩) := fun hb ht e => by
    have h9 := own3
    rw [e] at h9
    exact own_not_box h9 hb ht rfl
  have hl3 := h.bl_.later b23
  have h23 := h.b2.later b23
  have h33 := h.b3.later b23
  have h43 := h.b4.later b23
  have hl9 := hl3.only hon (nb hl3 (by decide))
  have h29 := h23.only hon (nb h23 (by decide))
  have h39 := h33.only hon (nb h33 (by decide))
  have h49 := h43.only hon (nb h43 (by decide))
  have hb9 : Below w.heap.size W w9 := (b23.mono h.bel.size).trans (hon.below (Nat.le_trans h.bel.size b23.size) (fun k hk => by have h9 := own3; rw [hk] at h9; exact h9.lt.1))
  have hd : ∀ z : Yv, Own w3 w.heap.size 36 2 z.ha z.y.hs.length z.hc (hdV z.y.hs) → Own (w9.setCell ⟨lb, 0, none⟩ (.slice a' (n + 1) c')) w.heap.size 36 2 z.ha z.y.hs.length z.hc (hdV z.y.hs) := fun z hz => by
    have h1 := hz.only hon (fun g e e2 => by
      have h8 := hz
      have h9 := own3
      rw [e] at h8
      rw [e2] at h9
      exact own_apart2 h8 h9 (by decide))
    exact h1.other (p := ⟨lb, 0, none⟩) (fun g e => by rw [e] at h1; exact own_not_box h1 hl9 (by decide)) _
  refine ⟨hl9, (((keeps_below b23).trans (KeepsOthers.of_grownBy hg (fun j o e hj => ?_))).trans (KeepsOthers.setCell _ _ _)), hb9.setCell (p := ⟨lb, 0, none⟩) o4 _, box_set1 hl9, h29.other (a := ⟨lb, 0, none⟩) n3 _, h39.other (a := ⟨lb, 0, none⟩) n5 _, h49.other (a := ⟨lb, 0, none⟩) n6 _, ?_, fun z hz => ?_, by rw [List.length_append, h.len]; rfl, by rw [List.map_append, List.map_append, h.val]; simp [hy], h.bel.trans (hb9.setCell (p := ⟨lb, 0, none⟩) o4 _)⟩
  · rcases own3.form with ⟨e2, _, _⟩ | ⟨g, e2, _, _⟩
    · rw [e2] at e; cases e
    · rw [e2] at e
      injection e with e
      subst e
      have h9 := own3
      rw [e2] at h9
      obtain ⟨cs, fr, e3⟩ := own_cells h9
      rw [e3] at hj
      injection hj with hj
      subst hj
      rfl
  · have e : yV (ys ++ [v]) = yV ys ++ yL v := by unfold yV; rw [List.flatMap_append]; simp
    rw [e]
    exact ho.other (p := ⟨lb, 0, none⟩) (fun g e => by rw [e] at ho; exact own_not_box ho hl9 (by decide)) _
  · rcases List.mem_append.1 hz with hz | hz
    · exact hd z ((h.hd z hz).later b23)
    · rw [List.mem_singleton] at hz
      subst hz
      exact hd z ((hh.later b3).mono h.bel.size)
theorem new_cells2 (w : World) (cs : Array Value) (t : TypeId) : ∀ j u, cs.toList[j]? = some u → (w.alloc (.cells cs t)).cell? ((⟨w.heap.size, 0, none⟩ : Addr).add j) = some u := by
  intro j u hj
  rw [Go.WideShapes.add_plain]
  exact new_cells w cs t j u hj
theorem new_cells3 (w : World) (cs : Array Value) (t : TypeId) (cs' : Array Value) (t' : TypeId) : ∀ j u, cs'.toList[j]? = some u → ((w.alloc (.cells cs t)).alloc (.cells cs' t')).cell? ((⟨w.heap.size + 1, 0, none⟩ : Addr).add j) = some u := by
  have h9 := new_cells2 (w.alloc (.cells cs t)) cs' t'
  rw [World.size_alloc] at h9
  exact h9
theorem st_ones (k a b c : Int) (t : ByteArray) (ha : Option Addr) (n hc : Nat) : ∀ u ∈ ([.int .i64 k, .int .i64 a, .int .i64 b, .int .i64 c, .string t, .slice ha n hc] : List Value), u.oneCell' = true := by
  intro v hm
  simp only [List.mem_cons, List.not_mem_nil, or_false] at hm
  rcases hm with rfl | rfl | rfl | rfl | rfl | rfl <;> rfl
theorem own_blk {w w' : World} {a : Option Addr} {n c : Nat} (h : w.grownBy w' (Value.slice a n c).ownBlock) : w.grownBy w' (a.map (·.block)) := by
  have he : (Value.slice a n c).ownBlock = a.map (·.block) := by cases a <;> rfl
  rw [he] at h
  exact h
theorem put_row {W : World} {B D : Nat} (hD : B ≤ D) (hK : W.heap[D]? = some (.deferred (some []))) : ∀ r, some D = some r → B ≤ r ∧ ∃ o : Obj, W.heap[r]? = some o ∧ o.isCells = false := fun r e => by
  injection e with e
  subst e
  exact ⟨hD, _, hK, rfl⟩
theorem rd_done {w W : World} {lb r2 r3 r4 n c D : Nat} {a : Option Addr} {pre : List LX} {ys : List Yv} (h : RdI w lb r2 r3 r4 pre ys n a c W) (hne : r2 ≠ r3 ∧ r2 ≠ r4 ∧ r2 ≠ lb ∧ r3 ≠ r4 ∧ r3 ≠ lb ∧ r4 ≠ lb)
    (hlo : w.heap.size ≤ r2 ∧ w.heap.size ≤ r3 ∧ w.heap.size ≤ r4 ∧ w.heap.size ≤ lb) (hD : w.heap.size ≤ D) (hK : W.heap[D]? = some (.deferred (some []))) :
    ∃ Wf, (((W.setCell ⟨r2, 0, none⟩ (.slice a n c)).setCell ⟨r3, 0, none⟩ (.int .i64 0)).setCell ⟨r4, 0, none⟩ (.int .i64 0)).putObj D (.deferred none) = Wf ∧ (((W.setCell ⟨r2, 0, none⟩ (.slice a n c)).setCell ⟨r3, 0, none⟩ (.int .i64 0)).setCell ⟨r4, 0, none⟩ (.int .i64 0)).heap[D]? = some (.deferred (some [])) ∧
      Box Wf r2 #[.slice a n c] 22 ∧ Box Wf r3 #[.int .i64 0] 3 ∧ Box Wf r4 #[.int .i64 0] 27 ∧ Own Wf w.heap.size 26 6 a n c (yV ys) ∧ YsOk Wf w.heap.size ys ∧ Below w.heap.size w Wf := by
  obtain ⟨n1, n2, n3, n4, n5, n6⟩ := hne
  obtain ⟨o1, o2, o3, o4⟩ := hlo
  have hK2 : (((W.setCell ⟨r2, 0, none⟩ (.slice a n c)).setCell ⟨r3, 0, none⟩ (.int .i64 0)).setCell ⟨r4, 0, none⟩ (.int .i64 0)).heap[D]? = some (.deferred (some [])) :=
    (((KeepsOthers.setCell W ⟨r2, 0, none⟩ (.slice a n c)).trans (KeepsOthers.setCell _ ⟨r3, 0, none⟩ (.int .i64 0))).trans (KeepsOthers.setCell _ ⟨r4, 0, none⟩ (.int .i64 0))).same D _ hK rfl
  have hg := grownBy_putObj' (((W.setCell ⟨r2, 0, none⟩ (.slice a n c)).setCell ⟨r3, 0, none⟩ (.int .i64 0)).setCell ⟨r4, 0, none⟩ (.int .i64 0)) D (.deferred none)
  have hr := put_row hD hK2
  have b2 := ((box_set1 (v := .slice a n c) h.b2).other (a := ⟨r3, 0, none⟩) n1 (.int .i64 0)).other (a := ⟨r4, 0, none⟩) n2 (.int .i64 0)
  have b3 := (box_set1 (v := .int .i64 0) (h.b3.other (a := ⟨r2, 0, none⟩) (Ne.symm n1) (.slice a n c))).other (a := ⟨r4, 0, none⟩) n4 (.int .i64 0)
  have b4 := box_set1 (v := .int .i64 0) ((h.b4.other (a := ⟨r2, 0, none⟩) (Ne.symm n2) (.slice a n c)).other (a := ⟨r3, 0, none⟩) (Ne.symm n4) (.int .i64 0))
  have keep : ∀ {B0 E size m cc : Nat} {aa : Option Addr} {xs : List Value}, Own W B0 E size aa m cc xs → E ≠ 22 → E ≠ 3 → E ≠ 27 → Own (((W.setCell ⟨r2, 0, none⟩ (.slice a n c)).setCell ⟨r3, 0, none⟩ (.int .i64 0)).setCell ⟨r4, 0, none⟩ (.int .i64 0)) B0 E size aa m cc xs := fun {B0 E size m cc aa xs} ho e1 e2 e3 => by
    have h1 := ho.other (p := ⟨r2, 0, none⟩) (fun g e => by have h9 := ho; rw [e] at h9; exact own_not_box h9 h.b2 (fun q => e1 q.symm)) (.slice a n c)
    have q3 := h.b3.other (a := ⟨r2, 0, none⟩) (Ne.symm n1) (.slice a n c)
    have h2 := h1.other (p := ⟨r3, 0, none⟩) (fun g e => by have h9 := h1; rw [e] at h9; exact own_not_box h9 q3 (fun q => e2 q.symm)) (.int .i64 0)
    have q4 := (h.b4.other (a := ⟨r2, 0, none⟩) (Ne.symm n2) (.slice a n c)).other (a := ⟨r3, 0, none⟩) (Ne.symm n4) (.int .i64 0)
    exact h2.other (p := ⟨r4, 0, none⟩) (fun g e => by have h9 := h2; rw [e] at h9; exact own_not_box h9 q4 (fun q => e3 q.symm)) (.int .i64 0)
  have hb := ((h.bel.setCell (p := ⟨r2, 0, none⟩) o1 (.slice a n c)).setCell (p := ⟨r3, 0, none⟩) o2 (.int .i64 0)).setCell (p := ⟨r4, 0, none⟩) o3 (.int .i64 0)
  exact ⟨_, rfl, hK2, box_kept b2 hg hr, box_kept b3 hg hr, box_kept b4 hg hr, own_kept (keep h.own (by decide) (by decide) (by decide)) hg hr, fun v hv => own_kept (keep (h.hd v hv) (by decide) (by decide) (by decide)) hg hr, hb.grown hg hb.size (fun k hk => (hr k hk).1)⟩
theorem enum_map : ∀ (k : Nat) (l : List ByteArray), (enumL k l).map Prod.snd = l
  | _, [] => rfl
  | k, x :: r => by unfold enumL; rw [List.map_cons, enum_map (k + 1) r]
theorem enum_at : ∀ (k : Nat) (l : List ByteArray) (i : Nat) (p : Nat × ByteArray), (enumL k l)[i]? = some p → p.1 = k + i ∧ l[i]? = some p.2
  | _, [], i, p, h => by simp [enumL] at h
  | k, x :: r, 0, p, h => by
    unfold enumL at h
    injection h with h
    subst h
    exact ⟨rfl, rfl⟩
  | k, x :: r, i + 1, p, h => by
    unfold enumL at h
    rw [List.getElem?_cons_succ] at h
    obtain ⟨h1, h2⟩ := enum_at (k + 1) r i p h
    exact ⟨by omega, by rw [List.getElem?_cons_succ]; exact h2⟩
def ReadP (s : ByteArray) (w : World) (e : Ending) (w' : World) : Prop :=
  Below w.heap.size w w' ∧ ((∃ (ys : List Yv) (n : Nat) (a : Option Addr) (c : Nat), (lnB s).map (fun x => stepS (bl x)) = ys.map (fun v => some (spOf v.y)) ∧ ys.length = n ∧ e = .returned (.tuple #[.slice a n c, .int .i64 0, .int .i64 0]) ∧ Own w' w.heap.size 26 6 a n c (yV ys) ∧ YsOk w' w.heap.size ys) ∨
    (∃ k : Nat, (∀ i x, i < k → (lnB s)[i]? = some x → (stepS (bl x)).isSome = true) ∧ (∃ x, (lnB s)[k]? = some x ∧ stepS (bl x) = none) ∧ e = .returned (.tuple #[.slice none 0 0, .int .i64 ((k + 1 : Nat) : Int), .int .i64 8])))
attribute [local go_sem] Oper.semAt_some
set_option maxRecDepth 100000 in
set_option maxHeartbeats 4000000 in
theorem read_big (s : ByteArray) (hs : s.size ≤ 3000000) (hq : (lnB s).length ≤ 60000) (w : World) (hT : TabT w) :
    Calls Tryd.prog 6 #[.string s] w (ReadP s w) := by
  refine (callsIn_wide (n := 9)).1 ?_
  refine callsIn_of_wp_marks Tryd.func6 rfl trivial ?_ rfl
  simp only [Tryd.ntmps6, List.size_toArray, List.length_cons, List.length_nil, Nat.reduceAdd, Nat.reduceSub, Array.replicate_succ, Array.replicate_zero, List.push_toArray, List.append_toArray, List.nil_append, List.cons_append]
  gi_wp2_with fail
  refine ⟨trivial, ?_⟩
  refine (callsIn_wide.2 (lines_at s _)).mono ?_
  rintro e w' ⟨rfl, rfl⟩
  gi_wp2
  have HT := Lib.hid hT
  clear hT
  refine codeIn_forget (fun W => Hid (RdI w (w.heap.size + 1 + 1 + 1) w.heap.size (w.heap.size + 1) (w.heap.size + 1 + 1) [] [] 0 none 0 W) ∧ Hid (W.cell? ⟨w.heap.size + 1 + 1 + 1 + 1, 0, none⟩ = some (.string s) ∧ w.heap.size + 1 + 1 + 1 + 1 < W.heap.size)) ⟨Lib.hid ⟨(box_new_at (by simp)).alloc _, (((box_new_at rfl).alloc _).alloc _).alloc _ |>.alloc _, (((box_new_at (by simp)).alloc _).alloc _).alloc _, ((box_new_at (by simp)).alloc _).alloc _, Own.nil _ _ _ _, (fun v hv => by cases hv), rfl, rfl, (((((Below.refl _ w).alloc (Nat.le_refl _) _).alloc (by simp) _).alloc (by simp; omega) _).alloc (by simp; omega) _).alloc (by simp; omega) _⟩, Lib.hid ⟨by rw [(box_new_at (b := w.heap.size + 1 + 1 + 1 + 1) (by simp) : Box _ _ _ _).cell 0]; rfl, by simp⟩⟩ ?_
  obtain ⟨r2, hr2⟩ : ∃ b, w.heap.size = b := ⟨_, rfl⟩
  obtain ⟨r3, hr3⟩ : ∃ b, r2 + 1 = b := ⟨_, rfl⟩
  obtain ⟨r4, hr4⟩ : ∃ b, r3 + 1 = b := ⟨_, rfl⟩
  obtain ⟨lb, hlb⟩ : ∃ b, r4 + 1 = b := ⟨_, rfl⟩
  obtain ⟨sb, hsb⟩ : ∃ b, lb + 1 = b := ⟨_, rfl⟩
  have HR2 := Lib.hid hr2
  have HNE : Hid (r2 ≠ r3 ∧ r2 ≠ r4 ∧ r2 ≠ lb ∧ r3 ≠ r4 ∧ r3 ≠ lb ∧ r4 ≠ lb) := Lib.hid (by omega)
  have HLO : Hid (w.heap.size ≤ r2 ∧ w.heap.size ≤ r3 ∧ w.heap.size ≤ r4 ∧ w.heap.size ≤ lb) := Lib.hid (by omega)
  rw [hr2, hr3, hr4, hlb, hsb]
  clear hr2 hr3 hr4 hlb hsb
  rintro w1 ⟨H0, HS⟩
  refine wpIn_rangeFunc_ownG rfl (by omega) (gf := 20) (lb := #[.pointer (some ⟨sb, 0, none⟩)]) rfl trivial (enters_of Tryd.func20 (by kernel_rfl) rfl)
    (lines_stops (9 - 1) (by omega) sb s hs hq w w1 HT.out H0.out.bel HS.out.2 HS.out.1) belowK_t (belowK_b H0.out.bel.size) (Below.refl _ _) (fun _ => rfl)
    (fun pre W => ∃ ys n a c, RdI w lb r2 r3 r4 pre ys n a c W) (fun c pre W => c = .ret ∧ RdX w r2 r3 r4 pre W)
    (fun pre A B row hs hg hr => by obtain ⟨ys, n, a, c, h⟩ := hs; exact ⟨ys, n, a, c, h.kept H0.out.bel.size hg hr⟩)
    (fun cc pre A B row hs hg hr => ⟨hs.1, hs.2.kept H0.out.bel.size hg hr⟩) ⟨[], 0, none, 0, H0.out⟩
    (fun x => { tmps := #[.string s, undef, .pointer (some ⟨r2, 0, none⟩), .pointer (some ⟨r3, 0, none⟩), .pointer (some ⟨r4, 0, none⟩), .pointer (some ⟨lb, 0, none⟩), .int .i64 (x.1.1 : Int), .string x.1.2, undef, undef, .string s, .func (.func 20) #[] #[.pointer (some ⟨sb, 0, none⟩)], .int .i64 (x.1.1 : Int), .string x.1.2, undef, undef, undef, undef, undef, undef, undef, undef, undef, undef, undef, undef, undef, undef, undef, undef], defers := [] }) ?assign ?body ?done ?stop
  case assign =>
    intro l x W K hK
    gi_wp2
    exact hK
  case body =>
    rintro l pre x W ⟨ys, n, a, c, hI⟩ hlen
    have HI := Lib.hid hI
    have hx1 : (x.1.1 : Int) ≤ 60001 := by have := x.2.1; omega
    have hx2 := x.2.2
    have d0 : decide ((65536 : Int) < (x.1.1 : Int)) = false := decide_eq_false (by omega)
    have hn60 : n ≤ 60000 := by
      have h8 := congrArg List.length hI.val
      rw [List.length_map, List.length_map, hI.len] at h8
      omega
    have HTW := Lib.hid (HT.out.later hI.bel)
    obtain ⟨xn, hxn⟩ : ∃ v : Int, (x.1.1 : Int) = v := ⟨_, rfl⟩
    obtain ⟨xs, hxs⟩ : ∃ v, x.1.2 = v := ⟨_, rfl⟩
    rw [hxn] at d0 hx1
    rw [hxs] at hx2
    have HXN := Lib.hid hxn
    have HXS := Lib.hid hxs
    rw [hxn, hxs]
    clear hI hlen hxn hxs
    gi_wp2_with fail
    refine ⟨trivial, ?_⟩
    refine (CallsIn.inRound l (callsIn_wide.2 (step_line_at xs (by omega) W HTW.out))).mono ?_
    rintro e w2 ⟨b2, ⟨hno, rfl⟩ | ⟨y, ha, m, hc, hy, rfl, hl, ho⟩⟩
    · have HNO := Lib.hid hno
      have HB2 := Lib.hid b2
      have q2 := Lib.hid (HI.out.b2.later b2)
      have q3 := Lib.hid (HI.out.b3.later b2)
      have q4 := Lib.hid (HI.out.b4.later b2)
      have c2 := q2.out.cell 0
      have c3 := q3.out.cell 0
      have c4 := q4.out.cell 0
      have f2 := q2.out.free 0
      have f3 := q3.out.free 0
      have f4 := q4.out.free 0
      have l2 := q2.out.lt
      have l3 := q3.out.lt
      have l4 := q4.out.lt
      have n1 := HNE.out
      obtain ⟨n1, n2, n3, n4, n5, n6⟩ := n1
      clear hno b2
      gi_wp2
      have HE := Lib.hid (rd_end HI.out HB2.out HNE.out HLO.out HXS.out HXN.out HNO.out #[.int .i64 0, .int .i64 0, .int .i64 0, .int .i64 0, .string ByteArray.empty, .slice none 0 0] 26)
      exact ⟨(HE.out.1).from _, rfl, HE.out.2⟩
    · obtain ⟨v, hv⟩ : ∃ v : Yv, v = ⟨y, ha, hc⟩ := ⟨_, rfl⟩
      subst hl
      have HST := Lib.hid (fun (w3 w9 : World) (a' : Option Addr) (c' : Nat) (b3 : Below w2.heap.size w2 w3) hg ho' => rd_step (w3 := w3) (w9 := w9) (a' := a') (c' := c') (v := ⟨y, ha, hc⟩) (x := x) HI.out b2 b3 HNE.out HLO.out hg ho' ho (by rw [HXS.out]; exact hy))
      have HB2 := Lib.hid b2
      have ROW := Lib.hid (HI.out.own.later b2)
      have ql := Lib.hid (HI.out.bl_.later b2)
      have cl := ql.out.cell 0
      have fl := ql.out.free 0
      have ll := ql.out.lt
      have hBW : w.heap.size ≤ w2.heap.size := Nat.le_trans HI.out.bel.size b2.size
      obtain ⟨m, hm⟩ : ∃ m, y.hs.length = m := ⟨_, rfl⟩
      obtain ⟨yk, hyk⟩ : ∃ k, y.k = k := ⟨_, rfl⟩
      obtain ⟨ya, hya⟩ : ∃ k, y.a = k := ⟨_, rfl⟩
      obtain ⟨yb, hyb⟩ : ∃ k, y.b = k := ⟨_, rfl⟩
      obtain ⟨yc, hyc⟩ : ∃ k, y.c = k := ⟨_, rfl⟩
      obtain ⟨yt, hyt⟩ : ∃ k, y.t = k := ⟨_, rfl⟩
      have HYL : Hid (yL ⟨y, ha, hc⟩ = [.int .i64 yk, .int .i64 ya, .int .i64 yb, .int .i64 yc, .string yt, .slice ha m hc]) := Lib.hid (by unfold yL; rw [hm, hyk, hya, hyb, hyc, hyt])
      obtain ⟨i0, hi, hz0, hz1, hz2⟩ := info_parts infoSt
      unfold stA
      rw [hm, hyk, hya, hyb, hyc, hyt]
      clear hy ho b2 hv hm hyk hya hyb hyc hyt
      dsimp only
      gi_wp2_with (gi_at_builtin; refine wpListIn_append_own _ rfl _ _ 22 rfl w.heap.size 26 i0 _ 6 72 Tryd.underlying22 hi hz0 hz1 hz2 rfl (by decide) _ _ _ rfl ((ROW.out.alloc _).alloc _) ⟨_, 0, none⟩ 1 1 [.int .i64 yk, .int .i64 ya, .int .i64 yb, .int .i64 yc, .string yt, .slice ha m hc] rfl rfl (new_cells3 _ _ _ _ _) (st_ones _ _ _ _ _ _ _ _) (by unfold maxLen; omega) (by omega) (by simp; omega) ?_; intro v' w9 hown' hgrow _; obtain ⟨a', c', rfl⟩ := own_parts hown'; have HFI := HST.out _ w9 a' c' (((Below.refl _ w2).alloc (Nat.le_refl _) _).alloc (by simp) _) (own_blk hgrow) (by rw [HYL.out]; exact hown'); have gl9 := HFI.1.cell 0; have fl9 := HFI.1.free 0; have ll9 := HFI.1.lt; have HFN := Lib.hid HFI.2; clear hown' hgrow HFI)
      exact ⟨HFN.out.1.from _, HFN.out.2.1, _, _, _, _, HFN.out.2.2⟩
  case done =>
    rintro D xs W hD hS ⟨ys, n, a, c, hI⟩ hK
    have HI := Lib.hid hI
    have HK := Lib.hid hK
    have c2 := hI.b2.cell 0
    have c3 := hI.b3.cell 0
    have c4 := hI.b4.cell 0
    have cl := hI.bl_.cell 0
    have f2 := hI.b2.free 0
    have f3 := hI.b3.free 0
    have f4 := hI.b4.free 0
    have l2 := hI.b2.lt
    have l3 := hI.b3.lt
    have l4 := hI.b4.lt
    have ll := hI.bl_.lt
    have n1 := HNE.out
    obtain ⟨n1, n2, n3, n4, n5, n6⟩ := n1
    clear hI hK
    gi_wp2
    obtain ⟨Wf, hWf, hK2, g2, g3, g4, ho, hd, hb⟩ := rd_done HI.out HNE.out HLO.out (Nat.le_trans H0.out.bel.size hD) HK.out
    refine ⟨by simp, .inl ⟨_, _, rfl, run_takeDeferred hK2, ?_⟩⟩
    rw [hWf]
    have s2 := g2.cell 0
    have s3 := g3.cell 0
    have s4 := g4.cell 0
    refine ⟨.tuple #[.slice a n c, .int .i64 0, .int .i64 0], by simp [results, Tryd.results6, go_sem, s2, s3, s4], hb, Or.inl ⟨ys, n, a, c, ?_, HI.out.len, rfl, ho, hd⟩⟩
    rw [← HI.out.val, ← enum_map 1 (lnB s), ← hS, List.map_map, List.map_map]
    rfl
  case stop =>
    rintro D c pre W hD hSp ⟨rfl, hX⟩ hK
    have HX := Lib.hid hX
    have HK := Lib.hid hK
    obtain ⟨p, x, hpre, hall, hno, hb3⟩ := hX.bad
    clear hX hK
    gi_wp2
    have hg := grownBy_putObj' W D (.deferred none)
    have hr := put_row (Nat.le_trans H0.out.bel.size hD) HK.out
    have g2 := box_kept HX.out.b2 hg hr
    have g3 := box_kept hb3 hg hr
    have g4 := box_kept HX.out.b4 hg hr
    have hb := HX.out.bel.grown hg HX.out.bel.size (fun k hk => (hr k hk).1)
    refine ⟨by simp, .inl ⟨_, _, rfl, run_takeDeferred HK.out, ?_⟩⟩
    have s2 := g2.cell 0
    have s3 := g3.cell 0
    have s4 := g4.cell 0
    subst hpre
    obtain ⟨r, hr9⟩ := hSp
    rw [List.map_append, List.append_assoc] at hr9
    have hxk := enum_at 1 (lnB s) p.length x.1 (by rw [← hr9, List.getElem?_append_right (by simp)]; simp)
    refine ⟨.tuple #[.slice none 0 0, .int .i64 (x.1.1 : Int), .int .i64 8], by simp [results, Tryd.results6, go_sem, s2, s3, s4], hb, Or.inr ⟨p.length, fun i y hi hy => ?_, ⟨x.1.2, hxk.2, hno⟩, by rw [hxk.1, Nat.add_comm]⟩⟩
    have hz : (enumL 1 (lnB s))[i]? = (p[i]?).map Subtype.val := by rw [← hr9, List.getElem?_append_left (by simpa using hi), List.getElem?_map]
    rw [List.getElem?_eq_getElem hi] at hz
    have h8 := (enum_at 1 (lnB s) i _ hz).2
    rw [hy] at h8
    injection h8 with h8
    rw [h8]
    exact hall _ (List.getElem_mem hi)
theorem read_at (s : ByteArray) (hs : s.size ≤ 60000) (w : World) (hT : TabT w) : Calls Tryd.prog 6 #[.string s] w (ReadP s w) :=
  read_big s (by omega) (Nat.le_trans (lnB_len s) hs) w hT
end Go.Proofs.YtbfdklmljcdonaaDoor
