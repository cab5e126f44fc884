/- A list of steps that came in, of a bulk that is bounded; and the wrap for a row with such a bound. -/
import Derived.Test.YtbfdklmljcdonaaDoorTlOpn
import Derived.Test.YtbfdklmljcdonaaDoorRows
import Derived.JoinedCond
import Derived.Handed
namespace Go.Proofs.YtbfdklmljcdonaaDoor
open Go Go.RowKit
set_option linter.unusedVariables false
set_option linter.unusedSimpArgs false
set_option maxRecDepth 10000

section
open Go.Joins Go.Deep Go.WideShapes
variable {H : Type} {enc : TypeId × Value → H} {P : Program} {w : World} {base b0 : Nat} {held : Bool} {rr : Reach}
theorem bulk_at : ∀ {ds : List (DataW H)} {i : Nat} {d : DataW H}, ds[i]? = some d → Rows.uptoBulk d ≤ Rows.uptoBulkAll ds
  | [], i, d, h => by simp at h
  | x :: r, 0, d, h => by
    simp only [List.getElem?_cons_zero, Option.some.injEq] at h
    subst h
    rw [Rows.uptoBulkAll]
    omega
  | x :: r, i + 1, d, h => by
    have := bulk_at (ds := r) (i := i) (d := d) (by simpa using h)
    rw [Rows.uptoBulkAll]
    omega
theorem bulk_two : ∀ {ds : List (DataW H)} {i j : Nat} {d e : DataW H}, i < j → ds[i]? = some d → ds[j]? = some e → Rows.uptoBulk d + Rows.uptoBulk e ≤ Rows.uptoBulkAll ds
  | [], i, j, d, e, _, h, _ => by simp at h
  | x :: r, i, 0, d, e, hl, _, _ => by omega
  | x :: r, 0, j + 1, d, e, _, h, h2 => by
    simp only [List.getElem?_cons_zero, Option.some.injEq] at h
    subst h
    have := bulk_at (ds := r) (i := j) (d := e) (by simpa using h2)
    rw [Rows.uptoBulkAll]
    omega
  | x :: r, i + 1, j + 1, d, e, hl, h, h2 => by
    have := bulk_two (ds := r) (i := i) (j := j) (d := d) (e := e) (by omega) (by simpa using h) (by simpa using h2)
    rw [Rows.uptoBulkAll]
    omega
theorem bulk_sum (f : Nat → Nat) (D : Nat → DataW H) : ∀ l : List Nat, (∀ i ∈ l, f i ≤ Rows.uptoBulk (D i)) → (l.map f).sum ≤ Rows.uptoBulkAll (l.map D)
  | [], _ => by simp
  | i :: r, h => by
    have h1 := h i (List.mem_cons_self ..)
    have h2 := bulk_sum f D r (fun j hj => h j (List.mem_cons_of_mem _ hj))
    rw [List.map_cons, List.map_cons, List.sum_cons, Rows.uptoBulkAll]
    omega
/-- These cells read as this datum. -/
def Fd (enc : TypeId × Value → H) (P : Program) (w : World) (base : Nat) (held : Bool) (d : DataW H) (t : TypeId) (cs : List Value) : Prop := ∃ n p, DataW.trod enc P w base (fun _ => true) held n t cs = some (d, p)
theorem Fd.parts {d : DataW H} {t : TypeId} {fs : Array Field} {cs : List Value} (h : Fd enc P w base held d t cs) (ht : P.underlying t = some (.struct fs)) :
    ∃ ds : List (DataW H), d = .agg ds ∧ ∀ (i o m : Nat) (f : Field) (u : TypeId), fs[i]? = some f → f.type = u → f.offset = o → P.cellsOf u = m → ∃ di, ds[i]? = some di ∧ Fd enc P w base held di u ((cs.drop o).take m) := by
  obtain ⟨n, p, h⟩ := h
  obtain ⟨xs, m, _, he, _, hlen, hx⟩ := DataW.trod_struct ht h
  injection he with he _
  refine ⟨xs.map (·.1), he, fun i o k f u hf hu ho hc => ?_⟩
  have := hx i f hf
  have hi : i < xs.length := by rw [hlen]; exact (Array.getElem?_eq_some_iff.1 hf).1
  rw [List.getElem?_eq_getElem hi] at this
  subst hu ho hc
  exact ⟨(xs[i]).1, by rw [List.getElem?_map, List.getElem?_eq_getElem hi]; rfl, m, (xs[i]).2, this⟩
theorem Fd.string {d : DataW H} {u : TypeId} {cs : List Value} {o : Nat} (h : Fd enc P w base held d u ((cs.drop o).take 1)) (hk : P.underlying u = some .string) : ∃ z : ByteArray, cs[o]? = some (.string z) ∧ Rows.uptoBulk d = z.size + 1 := by
  obtain ⟨n, p, h⟩ := h
  obtain ⟨z, hz, he, _⟩ := DataW.trod_string hk h
  injection he with he _
  refine ⟨z, take_one hz, ?_⟩
  rw [he, Rows.uptoBulk, Array.length_toList]
  rfl
theorem Fd.elems {d : DataW H} {t e : TypeId} {n : Nat} {a : Option Addr} {len cap : Nat} (h : Fd enc P w base held d t [.slice a len cap]) (ht : P.underlying t = some (.slice e)) (hn : P.cellsOf e = n) :
    ∃ (C : Nat → List Value) (D : Nat → DataW H), (a = none ∧ len = 0 ∧ cap = 0 ∨ ∃ x, a = some x ∧ len ≤ cap ∧ cap ≤ maxLen ∧ (∀ i, i < cap → (C i).length = n ∧ (∀ j v, (C i)[j]? = some v → w.cell? ((x.add (i * n)).add j) = some v)) ∧
      (∀ i, i < len → Fd enc P w base held (D i) e (C i)) ∧ Rows.uptoBulkAll ((List.range len).map D) ≤ Rows.uptoBulk d) := by
  obtain ⟨m, p, h⟩ := h
  rcases open_slice ht h with ⟨hcs, _⟩ | ⟨a', len', cap', m', n', D, Pl, hcs, _, hl, hm, hmm, hxe, hx⟩
  · simp at hcs
    exact ⟨fun _ => [], fun _ => .nil, Or.inl ⟨hcs.1, hcs.2.1, hcs.2.2⟩⟩
  · simp at hcs
    obtain ⟨rfl, rfl, rfl⟩ := hcs
    simp at hmm
    subst hmm
    rw [hn] at hx
    injection hxe with hxe _
    refine ⟨fun i => if hi : i < m' then Classical.choose (hx i hi) else [], D, Or.inr ⟨a', rfl, hl, hm, fun i hi => ?_, fun i hi => ?_, ?_⟩⟩
    · simp only [dif_pos hi]
      have hs := Classical.choose_spec (hx i hi)
      obtain ⟨_, hlen, _⟩ := World.cells?_some hs.1
      exact ⟨hlen, fun j v hv => cells_at hs.1 j v hv⟩
    · have hi2 : i < m' := by omega
      simp only [dif_pos hi2]
      have hs := Classical.choose_spec (hx i hi2)
      exact ⟨n', _, hs.2⟩
    · rw [hxe, Rows.uptoBulk]
      omega
end
section
open Go.Joins Go.Deep Go.WideShapes
variable {H : Type} {enc : TypeId × Value → H} {w : World} {base b0 : Nat} {held : Bool} {rr : Reach}
def blkH (hs : List (ByteArray × ByteArray)) : Nat := (hs.map fun h => h.1.size + h.2.size + 3).sum
def blkS (x : Stp) : Nat := x.t.size + blkH x.hs
theorem blkH_len : ∀ hs : List (ByteArray × ByteArray), 3 * hs.length ≤ blkH hs ∧ (∀ h ∈ hs, h.1.size + h.2.size ≤ blkH hs) ∧ 3 * szH hs ≤ 4 * blkH hs
  | [] => ⟨by simp, (fun h hh => by cases hh), by simp [szH]⟩
  | h :: r => by
    obtain ⟨i1, i2, i3⟩ := blkH_len r
    have e : blkH (h :: r) = h.1.size + h.2.size + 3 + blkH r := rfl
    rw [szH_cons, e]
    refine ⟨by rw [List.length_cons]; omega, fun q hq => ?_, by omega⟩
    rcases List.mem_cons.1 hq with rfl | hq
    · omega
    · have := i2 q hq
      omega
theorem blkS_sz (x : Stp) : 3 * szS x ≤ 4 * blkS x := by
  have := (blkH_len x.hs).2.2
  unfold szS blkS
  omega
theorem blkS_SzS {x : Stp} (h : blkS x ≤ 1048576) : SzS x := by
  unfold blkS at h
  obtain ⟨h1, h2, _⟩ := blkH_len x.hs
  refine ⟨by omega, by omega, fun q hq => ?_⟩
  have := h2 q hq
  omega
theorem SzS.big {x : Stp} (h : SzS x) : SzB x := ⟨by have := h.1; omega, by have := h.2.1; omega, fun q hq => by have := h.2.2 q hq; omega⟩
theorem hdrs_ofU {d : DataW H} {a : Option Addr} {len cap : Nat} (h : Fd enc Tryd.prog w base held d 24 [.slice a len cap]) :
    ∃ hs : List (ByteArray × ByteArray), hs.length = len ∧ RdC w a (hdV hs) ∧ blkH hs ≤ Rows.uptoBulk d := by
  obtain ⟨C, D, ⟨rfl, rfl, rfl⟩ | ⟨x, rfl, hl, hm, hx, hd, hb⟩⟩ := h.elems Tryd.underlying24 (n := 2) (by kernel_rfl)
  · exact ⟨[], rfl, fun j u hj => by simp [hdV] at hj, Nat.zero_le _⟩
  · by_cases h0 : 0 < cap
    · obtain ⟨b, off, rfl, hc⟩ := plain_at (by decide) (fun i hi => hx i hi) h0
      have key : ∀ i, i < len → ∃ p : ByteArray × ByteArray, (C i)[0]? = some (.string p.1) ∧ (C i)[1]? = some (.string p.2) ∧ p.1.size + p.2.size + 3 ≤ Rows.uptoBulk (D i) := fun i hi => by
        obtain ⟨ds, he, hp⟩ := (hd i hi).parts Tryd.underlying36
        obtain ⟨d0, e0, f0⟩ := hp 0 0 1 _ 9 rfl rfl rfl (by kernel_rfl)
        obtain ⟨d1, e1, f1⟩ := hp 1 1 1 _ 9 rfl rfl rfl (by kernel_rfl)
        obtain ⟨x0, h0, w0⟩ := f0.string Tryd.underlying9
        obtain ⟨x1, h1, w1⟩ := f1.string Tryd.underlying9
        have := bulk_two (by decide) e0 e1
        exact ⟨(x0, x1), h0, h1, by rw [he, Rows.uptoBulk]; dsimp only; omega⟩
      let E : Nat → ByteArray × ByteArray := fun i => if hi : i < len then Classical.choose (key i hi) else (ByteArray.empty, ByteArray.empty)
      have hE : ∀ i, i < len → (C i)[0]? = some (.string (E i).1) ∧ (C i)[1]? = some (.string (E i).2) ∧ (E i).1.size + (E i).2.size + 3 ≤ Rows.uptoBulk (D i) := fun i hi => by
        simp only [E, dif_pos hi]
        exact Classical.choose_spec (key i hi)
      refine ⟨(List.range len).map E, by simp, fun j u hj => ?_, ?_⟩
      · have hjl := (List.getElem?_eq_some_iff.1 hj).1
        rw [hdV_len] at hjl
        simp at hjl
        have hi : j / 2 < len := by omega
        have hv : ((List.range len).map E)[j / 2]? = some (E (j / 2)) := by simp [hi]
        obtain ⟨p1, p2⟩ := hdV_at hv
        obtain ⟨q1, q2, _⟩ := hE _ hi
        refine ⟨b, off, rfl, ?_⟩
        have hm2 : j % 2 = 0 ∨ j % 2 = 1 := by omega
        rcases hm2 with e | e
        · have ej : j / 2 * 2 = j := by omega
          rw [ej, hj] at p1
          rw [Option.some.inj p1]
          have := hc (j / 2) (by omega) 0 _ q1
          rw [ej] at this
          exact this
        · have ej : j / 2 * 2 + 1 = j := by omega
          rw [ej, hj] at p2
          rw [Option.some.inj p2]
          have := hc (j / 2) (by omega) 1 _ q2
          rw [Nat.add_assoc, ej] at this
          exact this
      · refine Nat.le_trans ?_ hb
        unfold blkH
        rw [List.map_map]
        exact bulk_sum _ D _ (fun i hi => (hE i (List.mem_range.1 hi)).2.2)
    · obtain rfl : cap = 0 := by omega
      obtain rfl : len = 0 := by omega
      exact ⟨[], rfl, fun j u hj => by simp [hdV] at hj, Nat.zero_le _⟩
theorem step_ofU {d : DataW H} {cs : List Value} (h : Fd enc Tryd.prog w base held d 26 cs) :
    ∃ (x : Stp) (ha : Option Addr) (hc : Nat), (RgS x ∧ RdC w ha (hdV x.hs) ∧ blkS x ≤ Rows.uptoBulk d) ∧ cs[0]? = some (.int .i64 x.k) ∧ cs[1]? = some (.int .i64 x.a) ∧ cs[2]? = some (.int .i64 x.b) ∧ cs[3]? = some (.int .i64 x.c) ∧ cs[4]? = some (.string x.t) ∧ cs[5]? = some (.slice ha x.hs.length hc) := by
  have hf : Fits enc Tryd.prog w base (fun _ => true) held 26 cs := by obtain ⟨n, p, h⟩ := h; exact ⟨n, _, h⟩
  obtain ⟨x0, h0, w0⟩ := hf.int Tryd.underlying26 0 0 rfl rfl rfl Tryd.underlying3 (by kernel_rfl)
  obtain ⟨x1, h1, w1⟩ := hf.int Tryd.underlying26 1 1 rfl rfl rfl Tryd.underlying3 (by kernel_rfl)
  obtain ⟨x2, h2, w2⟩ := hf.int Tryd.underlying26 2 2 rfl rfl rfl Tryd.underlying3 (by kernel_rfl)
  obtain ⟨x3, h3, w3⟩ := hf.int Tryd.underlying26 3 3 rfl rfl rfl Tryd.underlying3 (by kernel_rfl)
  obtain ⟨a5, l5, c5, h5, _⟩ := hf.slice Tryd.underlying26 5 5 rfl rfl rfl Tryd.underlying24 (by kernel_rfl)
  obtain ⟨ds, he, hp⟩ := h.parts Tryd.underlying26
  obtain ⟨d4, e4, f4⟩ := hp 4 4 1 _ 9 rfl rfl rfl (by kernel_rfl)
  obtain ⟨d5, e5, f5⟩ := hp 5 5 1 _ 24 rfl rfl rfl (by kernel_rfl)
  obtain ⟨x4, h4, w4⟩ := f4.string Tryd.underlying9
  have e6 : (cs.drop 5).take 1 = [.slice a5 l5 c5] := by
    have hl := (List.getElem?_eq_some_iff.1 h5)
    rw [List.drop_eq_getElem_cons hl.1, hl.2]
    rfl
  rw [e6] at f5
  obtain ⟨hs, rfl, hr, hb⟩ := hdrs_ofU f5
  have := bulk_two (by decide) e4 e5
  have rng : ∀ {z : Int}, (Lit.int .i64 z).wf = true → Rng z := fun hz => by
    simp [Lit.wf, IntKind.min, IntKind.max, IntKind.signed, IntKind.bits] at hz
    unfold Rng
    omega
  exact ⟨⟨x0, x1, x2, x3, x4, hs⟩, a5, c5, ⟨⟨rng w1, rng w2, rng w3⟩, hr, by rw [he, Rows.uptoBulk]; unfold blkS; dsimp only; omega⟩, h0, h1, h2, h3, h4, h5⟩
/-- A list of steps in memory, of a bulk that is bounded. -/
def IsStpsU (w : World) (x : Option Addr × Nat × Nat) : Prop :=
  ∃ (b off : Nat) (xs : List Yv), (0 < x.2.1 → x.1 = some ⟨b, off, none⟩) ∧ x.2.1 ≤ maxLen ∧ xs.length = x.2.1 ∧ (xs.map fun v => blkS v.y).sum ≤ 1048576 ∧
    ∀ i v, xs[i]? = some v → RgS v.y ∧ RdC w v.ha (hdV v.y.hs) ∧ ∀ j u, (stA v.y.k v.y.a v.y.b v.y.c v.y.t v.ha v.y.hs.length v.hc).toList[j]? = some u → w.cell? ⟨b, off + i * 6 + j, none⟩ = some u
theorem open_stepsU {v : Value} {d : DataW H} {p : List MemPlace} (hv : Value.okWide Tryd.prog w rr b0 22 v) (hd : DataW.Trod enc Tryd.prog w base (fun _ => true) held 22 v d p) (hbk : Rows.uptoBulk d ≤ 1048576) :
    ∃ x : Option Addr × Nat × Nat, v = .slice x.1 x.2.1 x.2.2 ∧ IsStpsU w x := by
  obtain ⟨a, len, cap, rfl⟩ := okWide_slice Tryd.underlying22 hv
  refine ⟨(a, len, cap), rfl, ?_⟩
  have h : Fd enc Tryd.prog w base held d 22 [.slice a len cap] := by
    obtain ⟨fu, hfu⟩ := hd
    exact ⟨fu, _, hfu⟩
  obtain ⟨C, D, ⟨rfl, rfl, rfl⟩ | ⟨x, rfl, hl, hm, hx, hdd, hb⟩⟩ := h.elems Tryd.underlying22 (n := 6) (by kernel_rfl)
  · exact ⟨0, 0, [], fun h => absurd h (by decide), by decide, rfl, by simp, fun i v hi => by simp at hi⟩
  · by_cases h0 : 0 < cap
    · obtain ⟨b, off, rfl, hc⟩ := plain_at (by decide) (fun i hi => hx i hi) h0
      have key : ∀ i, i < len → ∃ v : Yv, (RgS v.y ∧ RdC w v.ha (hdV v.y.hs) ∧ blkS v.y ≤ Rows.uptoBulk (D i)) ∧ ∀ j u, (stA v.y.k v.y.a v.y.b v.y.c v.y.t v.ha v.y.hs.length v.hc).toList[j]? = some u → (C i)[j]? = some u := fun i hi => by
        obtain ⟨y, ha, hcc, hy, g0, g1, g2, g3, g4, g5⟩ := step_ofU (hdd i hi)
        refine ⟨⟨y, ha, hcc⟩, hy, fun j u hu => ?_⟩
        have hj : j < 6 := (List.getElem?_eq_some_iff.1 hu).1
        match j, hj with
        | 0, _ => cases hu; exact g0
        | 1, _ => cases hu; exact g1
        | 2, _ => cases hu; exact g2
        | 3, _ => cases hu; exact g3
        | 4, _ => cases hu; exact g4
        | 5, _ => cases hu; exact g5
      let E : Nat → Yv := fun i => if hi : i < len then Classical.choose (key i hi) else ⟨⟨0, 0, 0, 0, ByteArray.empty, []⟩, none, 0⟩
      have hE : ∀ i, i < len → (RgS (E i).y ∧ RdC w (E i).ha (hdV (E i).y.hs) ∧ blkS (E i).y ≤ Rows.uptoBulk (D i)) ∧ ∀ j u, (stA (E i).y.k (E i).y.a (E i).y.b (E i).y.c (E i).y.t (E i).ha (E i).y.hs.length (E i).hc).toList[j]? = some u → (C i)[j]? = some u := fun i hi => by
        simp only [E, dif_pos hi]
        exact Classical.choose_spec (key i hi)
      refine ⟨b, off, (List.range len).map E, fun _ => rfl, (by omega : len ≤ maxLen), by simp, ?_, fun i v hi => ?_⟩
      · refine Nat.le_trans ?_ (Nat.le_trans hb hbk)
        rw [List.map_map]
        exact bulk_sum _ D _ (fun i hi => (hE i (List.mem_range.1 hi)).1.2.2)
      · have hil : i < len := by have := (List.getElem?_eq_some_iff.1 hi).1; simpa using this
        have e : v = E i := by simp [hil] at hi; exact hi.symm
        subst e
        exact ⟨(hE i hil).1.1, (hE i hil).1.2.1, fun j u hu => hc i (by omega) j u ((hE i hil).2 j u hu)⟩
    · obtain rfl : cap = 0 := by omega
      obtain rfl : len = 0 := by omega
      exact ⟨0, 0, [], fun h => absurd h (Nat.lt_irrefl 0), Nat.zero_le _, rfl, by simp, fun i v hi => by simp at hi⟩
end
section
variable {H : Type} {enc : TypeId × Value → H}
/-- The wrap, where the specification bears a condition of its own and tables are laid. -/
theorem returnsInHanded_of_cond_and {a : Assume} {C : Checked} {os : Os} {f : FuncId} {fn : Func} {s : OpenSpec} {k : (H : Type) → List (DataW H) → Bool} (hk : s.cond = some k) {F : Stop.Interp} {conds : List PathCond} {apart fresh handsOn again : Bool} {X : World → Array Value → Prop}
    (hX : ∀ (w w' : World) (args : Array Value), w.heap = w'.heap → X w args → X w' args)
    (own : ownKnob C.prog.godebug = none) (started : os.Started) (noInit : C.prog.inits.idxOf? f = none) (hfn : C.prog.funcs[f]? = some fn)
    (witness : ∃ (w : World) (tape : Tape) (i : Input), w.os = os ∧ (w.forCall tape i).Shaped C.prog ∧ i.vars = [] ∧ Input.okWide C.prog (w.forCall tape i) .any w.heap.size f i ∧
      ((s.pre enc C.prog fn conds apart (w.forCall tape i).memory i.args ∧ X (w.forCall tape i).memory i.args) ∧ sizedMet enc C.prog fn s apart (w.forCall tape i).memory i.args) ∧ a.holds C.prog (lone (Frame.enter C.prog f i.args .normal) [] (w.forCall tape i)))
    (contract : ∀ (W : World) (base : Nat) (args : Array Value) (ds gs : List (DataW H)) (before : List MemPlace),
      (∀ (j : Nat) t v, fn.params[j]? = some t → args[j]? = some v → Value.okWide C.prog W .any base t v) →
      DataW.Whole enc C.prog fn.params.toList s.vars apart W args.toList ds gs before →
      conds.all (PathCond.test C.prog ⟨fn.params.toList, ds, s.bare.plain.varTypes C.prog, gs⟩) = true → k H (ds ++ gs) = true → X W args →
      a.holds C.prog (lone (Frame.enter C.prog f args .normal) [] W) →
      Calls C.prog f args W fun e W' => ∃ v, e = .returned v ∧ (s.at F).post enc C.prog fn apart fresh handsOn again W args v W') :
    ReturnsInHanded a C os f .any (fun w args => (s.pre enc C.prog fn conds apart w args ∧ X w args) ∧ sizedMet enc C.prog fn s apart w args) ((s.at F).post enc C.prog fn apart fresh handsOn again) := by
  refine returnsInHanded_of_calls own started noInit witness ?_
  intro w tape i _ _ _ hok hpre hholds
  obtain ⟨_, _, _, fn', hfn', _, _, _, _, hval⟩ := hok
  have e : fn' = fn := Option.some.inj (hfn'.symm.trans hfn)
  subst e
  obtain ⟨⟨hpre, hx⟩, hz⟩ := hpre
  obtain ⟨ds, gs, before, hw, hc, hkk⟩ := (OpenSpec.pre_some hk conds apart _ _).1 hpre
  have hw' := DataW.Whole.of_heap (w' := w.forCall tape i) (by rfl) hw
  refine (contract (w.forCall tape i) w.heap.size i.args ds gs before hval hw' hc hkk (hX _ _ _ (by rfl) hx) hholds).mono fun e W' ⟨v, he, hp⟩ => ?_
  subst he
  exact ChangeSpec.post_blind hp
theorem witness_cond {C : Checked} {os : Os} {f : FuncId} {fn : Func} {s : OpenSpec} {k : (H : Type) → List (DataW H) → Bool} (hk : s.cond = some k) {conds : List PathCond} {apart : Bool} {X : World → Array Value → Prop} (modest : Bool) (w0 : World) (args : Array Value) (fuel : Nat) (hos : w0.os = os)
    (hsh : (w0.forCall (fun _ _ => 0) ⟨#[], args, []⟩).Shaped C.prog)
    (hok : Input.okWideB C.prog (w0.forCall (fun _ _ => 0) ⟨#[], args, []⟩) f ⟨#[], args, []⟩ = true)
    {x : List (DataW H) × List (DataW H) × List MemPlace} (hx : DataW.whole enc C.prog (w0.forCall (fun _ _ => 0) ⟨#[], args, []⟩).memory fn.params.toList s.vars apart args.toList fuel = some x)
    (hconds : conds.all (PathCond.test C.prog ⟨fn.params.toList, x.1, s.bare.plain.varTypes C.prog, x.2.1⟩) = true) (hkk : k H (x.1 ++ x.2.1) = true)
    (hsz : s.bare.sizedB enc C.prog fn apart (w0.forCall (fun _ _ => 0) ⟨#[], args, []⟩).memory args fuel = true)
    (hX : X (w0.forCall (fun _ _ => 0) ⟨#[], args, []⟩).memory args) :
    ∃ (w : World) (tape : Tape) (i : Input), w.os = os ∧ (w.forCall tape i).Shaped C.prog ∧ i.vars = [] ∧ Input.okWide C.prog (w.forCall tape i) .any w.heap.size f i ∧
      ((s.pre enc C.prog fn conds apart (w.forCall tape i).memory i.args ∧ X (w.forCall tape i).memory i.args) ∧ sizedMet enc C.prog fn s apart (w.forCall tape i).memory i.args) ∧ ({ modest := modest } : Assume).holds C.prog (lone (Frame.enter C.prog f i.args .normal) [] (w.forCall tape i)) :=
  ⟨w0, fun _ _ => 0, ⟨#[], args, []⟩, hos, hsh, (Input.okWide_of_okWideB (base := 0) hok).1, (Input.okWide_of_okWideB hok).2,
    ⟨⟨(OpenSpec.pre_some hk conds apart _ _).2 ⟨x.1, x.2.1, x.2.2, DataW.Whole_of_whole hx, hconds, hkk⟩, hX⟩, sizedMet_of_sizedB hsz⟩, by
    simp only [Assume.holds]
    exact ⟨by simp, by simp, fun _ => Modest.zero, by simp, by simp⟩⟩
end
end Go.Proofs.YtbfdklmljcdonaaDoor
