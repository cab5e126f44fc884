/- Part of a chain: FnPlM, FnPla. -/
import Derived.Test.YtimkgaokcldgkaaGreatDoorFp00
import Derived.Test.YtimkgaokcldgkaaGreatDoorFp02
import Derived.Test.YtimkgaokcldgkaaGreatDoorFq34
/- FrontPlays: the acts that came in; the document's rows in memory; what the loops hold. -/
namespace Go.Proofs.YtimkgaokcldgkaaGreatDoor
open Go Go.RowKit Go.Maps
open Go.Joins Go.Deep Go.WideShapes
set_option linter.unusedVariables false
set_option linter.unusedSimpArgs false
set_option maxRecDepth 100000

structure AcF where
  what : Int
  host : Int
  n : Int
  path : ByteArray
  prio : Int
def acF (x : AcF) : List Value := [.int .i64 x.what, .int .i64 x.host, .int .i64 x.n, .string x.path, .int .u8 x.prio]
/-- What a walk is told of one act. -/
structure F5 (w : World) (g o : Nat) (x : AcF) : Prop where
  c0 : w.cell? ⟨g, o, none⟩ = some (.int .i64 x.what)
  c1 : w.cell? ⟨g, o + 1, none⟩ = some (.int .i64 x.host)
  c2 : w.cell? ⟨g, o + 2, none⟩ = some (.int .i64 x.n)
  c3 : w.cell? ⟨g, o + 3, none⟩ = some (.string x.path)
  c4 : w.cell? ⟨g, o + 4, none⟩ = some (.int .u8 x.prio)
  wh : okI x.host
  wn : okI x.n
  wp : x.path.size ≤ maxLen
  p0 : 0 ≤ x.prio ∧ x.prio ≤ 255
theorem F5.later {w w' : World} {g o : Nat} {x : AcF} (h : F5 w g o x) (hb : Below w.heap.size w w') : F5 w' g o x := by
  have k : ∀ {p : Addr} {u : Value}, w.cell? p = some u → w'.cell? p = some u := fun hp => (hb.cell (World.block_lt_of_cell? _ _ hp)).trans hp
  exact ⟨k h.c0, k h.c1, k h.c2, k h.c3, k h.c4, h.wh, h.wn, h.wp, h.p0⟩
def IsActF (w : World) (x : Option Addr × Nat × Nat) : Prop :=
  ∃ b off, (0 < x.2.1 → x.1 = some ⟨b, off, none⟩) ∧ x.2.1 ≤ maxLen ∧ ∀ i, i < x.2.1 → ∃ e : AcF, F5 w b (off + i * 5) e
section
variable {H : Type} {enc : TypeId × Value → H} {w : World} {base b0 : Nat} {held : Bool} {rr : Reach}
theorem acF_of {cs : List Value} (hr : Fits enc Tryz.prog w base (fun _ => true) held 33 cs) : ∃ x : AcF, (okI x.host ∧ okI x.n ∧ x.path.size ≤ maxLen ∧ 0 ≤ x.prio ∧ x.prio ≤ 255) ∧ ∀ (j : Nat) (v : Value), (acF x)[j]? = some v → cs[j]? = some v := by
  obtain ⟨x1, h1, w1⟩ := hr.int Tryz.underlying33 0 0 rfl rfl rfl Tryz.underlying3 (by kernel_rfl)
  obtain ⟨x2, h2, w2⟩ := hr.int Tryz.underlying33 1 1 rfl rfl rfl Tryz.underlying3 (by kernel_rfl)
  obtain ⟨x3, h3, w3⟩ := hr.int Tryz.underlying33 2 2 rfl rfl rfl Tryz.underlying3 (by kernel_rfl)
  obtain ⟨x4, h4, w4⟩ := hr.string Tryz.underlying33 3 3 rfl rfl rfl Tryz.underlying9 (by kernel_rfl)
  obtain ⟨x5, h5, w5⟩ := hr.int Tryz.underlying33 4 4 rfl rfl rfl Tryz.underlying5 (by kernel_rfl)
  refine ⟨⟨x1, x2, x3, x4, x5⟩, ⟨w2, w3, w4, ?_⟩, fun j v hv => ?_⟩
  · simp [Lit.wf, IntKind.min, IntKind.max, IntKind.signed, IntKind.bits] at w5
    omega
  have hj : j < 5 := (List.getElem?_eq_some_iff.1 hv).1
  match j, hj with
  | 0, _ => cases hv; exact h1
  | 1, _ => cases hv; exact h2
  | 2, _ => cases hv; exact h3
  | 3, _ => cases hv; exact h4
  | 4, _ => cases hv; exact h5
theorem open_actf {v : Value} {d : DataW H} {p : List MemPlace} (hv : Value.okWide Tryz.prog w rr b0 22 v) (hd : DataW.Trod enc Tryz.prog w base (fun _ => true) held 22 v d p) :
    ∃ x : Option Addr × Nat × Nat, v = .slice x.1 x.2.1 x.2.2 ∧ IsActF w x := by
  obtain ⟨a, len, cap, rfl⟩ := okWide_slice Tryz.underlying22 hv
  refine ⟨(a, len, cap), rfl, ?_⟩
  have h : Fits enc Tryz.prog w base (fun _ => true) held 22 [.slice a len cap] := Fits.of hd
  obtain ⟨C, ⟨rfl, rfl, rfl⟩ | ⟨x, rfl, hl, hm, hx⟩⟩ := h.elems Tryz.underlying22 (n := 5) (by kernel_rfl)
  · exact ⟨0, 0, fun h => absurd h (by decide), by decide, fun i hi => absurd hi (Nat.not_lt_zero i)⟩
  · by_cases h0 : 0 < cap
    · obtain ⟨b, off, rfl, hc⟩ := plain_at (by decide) (fun i hi => ⟨(hx i hi).1, (hx i hi).2.2⟩) h0
      refine ⟨b, off, fun _ => rfl, (by omega : len ≤ maxLen), fun i hi => ?_⟩
      have hi : i < cap := Nat.lt_of_lt_of_le hi hl
      obtain ⟨e, ⟨u1, u2, u3, u4⟩, he⟩ := acF_of (hx i hi).2.1
      exact ⟨e, by simpa using hc i hi 0 _ (he 0 _ rfl), hc i hi 1 _ (he 1 _ rfl), hc i hi 2 _ (he 2 _ rfl), hc i hi 3 _ (he 3 _ rfl), hc i hi 4 _ (he 4 _ rfl), u1, u2, u3, u4⟩
    · obtain rfl : cap = 0 := by omega
      obtain rfl : len = 0 := by omega
      exact ⟨0, 0, fun h => absurd h (Nat.lt_irrefl 0), Nat.zero_le _, fun i hi => absurd hi (Nat.not_lt_zero i)⟩
end
/-! The document's rows. -/
def slV (A : Nat → Option Addr) (C : Nat → Nat) (rs : Int → List Rq) (h : Nat) : Value := .slice (A h) (rs (h : Int)).length (C h)
def obC (A : Nat → Option Addr) (C : Nat → Nat) (rs : Int → List Rq) : Array Value := #[slV A C rs 0, slV A C rs 1, slV A C rs 2, slV A C rs 3]
def rowB (A : Nat → Option Addr) (k : Nat) : Prop := ∃ h, h < 4 ∧ A h = some ⟨k, 0, none⟩
structure PlR (W : World) (B ob : Nat) (A : Nat → Option Addr) (C : Nat → Nat) (rs : Int → List Rq) : Prop where
  box : Box W ob (obC A C rs) 38
  own : ∀ h : Nat, h < 4 → Own W B 35 5 (A h) (rs (h : Int)).length (C h) (rqC (rs (h : Int)))
  oB : B ≤ ob
section
variable {w W W' : World} {B ob d L f N K M : Nat} {A : Nat → Option Addr} {C : Nat → Nat} {rs : Int → List Rq} {g g' : Lg} {RD RL RF : Nat → Prop} {F F' : Ft} {bs : Bxs}
theorem PlR.cell (h : PlR W B ob A C rs) {k : Nat} (hk : k < 4) : W.cell? ⟨ob, k, none⟩ = some (.slice (A k) (rs (k : Int)).length (C k)) := by
  rw [h.box.cell k]
  match k, hk with
  | 0, _ => rfl
  | 1, _ => rfl
  | 2, _ => rfl
  | 3, _ => rfl
theorem ob_cell {t : TypeId} (h : Box W ob (obC A C rs) t) {k : Nat} (hk : k < 4) : W.cell? ⟨ob, k, none⟩ = some (.slice (A k) (rs (k : Int)).length (C k)) := by
  rw [h.cell k]
  match k, hk with
  | 0, _ => rfl
  | 1, _ => rfl
  | 2, _ => rfl
  | 3, _ => rfl
theorem PlR.blocks (h : PlR W B ob A C rs) (hb : ∀ k, k = ob ∨ rowB A k → W'.heap[k]? = W.heap[k]?) : PlR W' B ob A C rs :=
  ⟨(hb ob (Or.inl rfl)).trans h.box, fun k hk => (h.own k hk).blocks fun g e => hb g (Or.inr ⟨k, hk, e⟩), h.oB⟩
theorem PlR.lt (h : PlR W B ob A C rs) {k : Nat} (hk : k = ob ∨ rowB A k) : k < W.heap.size ∧ B ≤ k := by
  rcases hk with rfl | ⟨x, hx, e⟩
  · exact ⟨h.box.lt, h.oB⟩
  · have ho := h.own x hx
    rw [e] at ho
    exact ⟨ho.lt.2, ho.lt.1⟩
theorem PlR.later (h : PlR W B ob A C rs) (hb : Below W.heap.size W W') : PlR W' B ob A C rs := h.blocks fun k hk => hb.block k (h.lt hk).1
/-- A row that is another. -/
theorem PlR.put (h : PlR W B ob A C rs) {x : Nat} (hx : x < 4) {a' : Option Addr} {c' : Nat} {l : List Rq} (ho : Own W B 35 5 a' l.length c' (rqC l)) :
    PlR (W.setCell ⟨ob, x, none⟩ (.slice a' l.length c')) B ob (fun k => if k = x then a' else A k) (fun k => if k = x then c' else C k) (setR rs (x : Int) l) := by
  have hne : ∀ g, a' = some ⟨g, 0, none⟩ → g ≠ ob := fun g e => by
    rw [e] at ho
    exact own_not_box ho h.box (by decide)
  refine ⟨?_, fun k hk => ?_, h.oB⟩
  · have h9 := h.box.set x (.slice a' l.length c')
    have e : (obC A C rs).setIfInBounds x (.slice a' l.length c') = obC (fun k => if k = x then a' else A k) (fun k => if k = x then c' else C k) (setR rs (x : Int) l) := by
      match x, hx with
      | 0, _ => rfl
      | 1, _ => rfl
      | 2, _ => rfl
      | 3, _ => rfl
    rw [← e]
    exact h9
  · by_cases e : k = x
    · subst e
      show Own _ _ _ _ (if k = k then a' else A k) (setR rs (k : Int) l (k : Int)).length (if k = k then c' else C k) (rqC (setR rs (k : Int) l (k : Int)))
      rw [if_pos rfl, if_pos rfl, show setR rs (k : Int) l (k : Int) = l from if_pos rfl]
      exact ho.other hne _
    · have e2 : ¬ (k : Int) = (x : Int) := fun h => e (by omega)
      show Own _ _ _ _ (if k = x then a' else A k) (setR rs (x : Int) l (k : Int)).length (if k = x then c' else C k) (rqC (setR rs (x : Int) l (k : Int)))
      rw [if_neg e, if_neg e, show setR rs (x : Int) l (k : Int) = rs (k : Int) from if_neg e2]
      exact (h.own k hk).other (fun g eg => by
        have h8 := h.own k hk
        rw [eg] at h8
        exact own_not_box h8 h.box (by decide)) _
/-- Blocks that are kept. -/
theorem FtB.cons (h : FtB w d L K g RD RL f N RF F bs W) {k : Nat} (hk : k < W.heap.size) (h1 : ¬ (RD k ∨ RL k)) (h2 : ¬ RF k) (h3 : w.heap.size ≤ k) : ∃ o, FtB w d L K g RD RL f N RF F ((k, o) :: bs) W := by
  refine ⟨W.heap[k], h.ft, fun b hb => ?_⟩
  rcases List.mem_cons.1 hb with rfl | hb
  · exact ⟨Array.getElem?_eq_getElem hk, h1, h2, h3⟩
  · exact h.bx b hb
theorem FtB.all (h : FtB w d L K g RD RL f N RF F bs W) : ∀ ks : List Nat, (∀ k ∈ ks, k < W.heap.size ∧ ¬ (RD k ∨ RL k) ∧ ¬ RF k ∧ w.heap.size ≤ k) → ∃ bs', FtB w d L K g RD RL f N RF F bs' W ∧ (∀ b ∈ bs, b ∈ bs') ∧ ∀ k ∈ ks, ∃ o, (k, o) ∈ bs'
  | [], _ => ⟨bs, h, fun _ hb => hb, fun k hk => by cases hk⟩
  | k :: t, hk => by
    obtain ⟨bs', h1, h2, h3⟩ := h.all t (fun j hj => hk j (List.mem_cons_of_mem _ hj))
    obtain ⟨q1, q2, q3, q4⟩ := hk k List.mem_cons_self
    obtain ⟨o, h4⟩ := h1.cons q1 q2 q3 q4
    refine ⟨_, h4, fun b hb => List.mem_cons_of_mem _ (h2 b hb), fun j hj => ?_⟩
    rcases List.mem_cons.1 hj with rfl | hj
    · exact ⟨o, List.mem_cons_self⟩
    · obtain ⟨o', ho⟩ := h3 j hj
      exact ⟨o', List.mem_cons_of_mem _ ho⟩
/-- These blocks hold the rows. -/
def Cov (ob : Nat) (A : Nat → Option Addr) (bs : Bxs) : Prop := ∀ k, k = ob ∨ rowB A k → ∃ o, (k, o) ∈ bs
theorem Cov.more {bs' : Bxs} (h : Cov ob A bs) (hs : ∀ b ∈ bs, b ∈ bs') : Cov ob A bs' := fun k hk => by
  obtain ⟨o, ho⟩ := h k hk
  exact ⟨o, hs _ ho⟩
theorem FtB.rows (h : FtB w d L K g RD RL f N RF F bs W) (hr : PlR W w.heap.size ob A C rs) (ha : ∀ k, k = ob ∨ rowB A k → ¬ (RD k ∨ RL k) ∧ ¬ RF k) : ∃ bs', FtB w d L K g RD RL f N RF F bs' W ∧ (∀ b ∈ bs, b ∈ bs') ∧ Cov ob A bs' := by
  obtain ⟨bs', h1, h2, h3⟩ := h.all (ob :: (List.range 4).filterMap fun x => (A x).map (·.block)) (fun k hk => by
    have hk2 : k = ob ∨ rowB A k := by
      rcases List.mem_cons.1 hk with e | e
      · exact Or.inl e
      · obtain ⟨x, hx, e⟩ := List.mem_filterMap.1 e
        right
        have hx4 := List.mem_range.1 hx
        have ho := hr.own x hx4
        rcases ho.form with ⟨e1, _⟩ | ⟨q, e1, _⟩
        · rw [e1] at e; cases e
        · rw [e1] at e
          injection e with e
          exact ⟨x, hx4, by rw [e1, ← e]⟩
    exact ⟨(hr.lt hk2).1, (ha k hk2).1, (ha k hk2).2, (hr.lt hk2).2⟩)
  refine ⟨bs', h1, h2, fun k hk => h3 k ?_⟩
  rcases hk with rfl | ⟨x, hx, e⟩
  · exact List.mem_cons_self
  · exact List.mem_cons_of_mem _ (List.mem_filterMap.2 ⟨x, List.mem_range.2 hx, by rw [e]; rfl⟩)
theorem PlR.via {K' N' : Nat} {RD' RL' RF' : Nat → Prop} (h : PlR W B ob A C rs) (hc : Cov ob A bs) (h1 : FtB w d L K g RD RL f N RF F bs W) (h2 : FtB w d L K' g' RD' RL' f N' RF' F' bs W') : PlR W' B ob A C rs := h.blocks fun k hk => by
  obtain ⟨o, ho⟩ := hc k hk
  rw [(h1.bx _ ho).1, (h2.bx _ ho).1]
theorem FtB.apart (h : FtB w d L K g RD RL f N RF F bs W) (hc : Cov ob A bs) : ∀ k, k = ob ∨ rowB A k → ¬ (RD k ∨ RL k) ∧ ¬ RF k := fun k hk => by
  obtain ⟨o, ho⟩ := hc k hk
  exact ⟨(h.bx _ ho).2.1, (h.bx _ ho).2.2.1⟩
end
/-- While they play. -/
structure PlS (w wr : World) (d L id N : Nat) (g : Lg) (RD RL : Nat → Prop) (f : Nat) (RF : Nat → Prop) (F : Ft) (rs : Int → List Rq) (cnt most room : Int) (ob : Nat) (A : Nat → Option Addr) (C : Nat → Nat) (bs : Bxs) : Prop where
  fb : FtB w d L (32768 + id) g RD RL f N RF F bs wr
  fw : FtW F g rs
  cl : CLog 127 id g
  n7 : g.n = 7
  pr : PlR wr w.heap.size ob A C rs
  cov : Cov ob A bs
  hl : (F.hs.length : Int) = cnt
  oth : ∀ k : Int, k < 0 ∨ 4 ≤ k → rs k = []
  ids : ∀ h, ∀ r ∈ rs h, 1 ≤ r.id ∧ r.id ≤ (id : Int)
  dst : ∀ h, Dst (rs h)
  per : F.per = most
  mem : F.mem = room
section
variable {w W W' : World} {ob d L f id N : Nat} {A : Nat → Option Addr} {C : Nat → Nat} {rs : Int → List Rq} {g g2 : Lg} {RD RL RF RD2 RL2 RF2 : Nat → Prop} {F F' : Ft} {bs bs' : Bxs} {cnt most room : Int}
theorem PlS.no (h : PlS w W d L id N g RD RL f RF F rs cnt most room ob A C bs) : gA F.hs ((id : Int) + 1) = none := by
  cases hg : gA F.hs ((id : Int) + 1) with
  | none => rfl
  | some k =>
    obtain ⟨x, hx, e⟩ := (h.fb.ft.fr.ok.ids _ k).1 hg
    rw [h.fw.R k] at hx
    obtain ⟨y, hy, rfl⟩ := List.mem_map.1 hx
    have := h.ids k y hy
    have e : y.id = (id : Int) + 1 := e
    omega
theorem PlS.cnts (h : PlS w W d L id N g RD RL f RF F rs cnt most room ob A C bs) : 0 ≤ cnt ∧ cnt ≤ (N : Int) := by
  obtain ⟨q1, q2, q3, S, A1, C1, hc⟩ := h.fb.ft.fr.mm
  have := hc.hl
  have := h.hl
  omega
theorem PlS.rl (h : PlS w W d L id N g RD RL f RF F rs cnt most room ob A C bs) (k : Int) : (rs k).length ≤ N := by
  obtain ⟨q1, q2, q3, S, A1, C1, hc⟩ := h.fb.ft.fr.mm
  have := hc.rl k
  rw [h.fw.R k, List.length_map] at this
  exact this
theorem PlS.few (h : PlS w W d L id N g RD RL f RF F rs cnt most room ob A C bs) (hi : id ≤ 40) : (g.D.S.length : Int) < g.n := by
  have := few_segs_ h.cl (by decide) hi
  rw [h.n7]
  omega
theorem PlS.mono {M : Nat} (h : PlS w W d L id N g RD RL f RF F rs cnt most room ob A C bs) (hm : N ≤ M) : PlS w W d L id M g RD RL f RF F rs cnt most room ob A C bs :=
  { h with fb := ⟨⟨h.fb.ft.sp, h.fb.ft.fr.mono hm, h.fb.ft.ap, h.fb.ft.ge⟩, h.fb.bx⟩ }
theorem PlS.later (h : PlS w W d L id N g RD RL f RF F rs cnt most room ob A C bs) (hb : Below W.heap.size W W') : PlS w W' d L id N g RD RL f RF F rs cnt most room ob A C bs :=
  { h with fb := h.fb.later hb, pr := h.pr.later hb }
theorem PlS.add (h : PlS w W d L id N g RD RL f RF F rs cnt most room ob A C bs) (cs : Array Value) (t : TypeId) : PlS w (W.alloc (.cells cs t)) d L id N g RD RL f RF F rs cnt most room ob A C ((W.heap.size, .cells cs t (0, 0)) :: bs) :=
  { h with fb := h.fb.add cs t, pr := h.pr.later ((Below.refl _ _).alloc (Nat.le_refl _) _), cov := h.cov.more fun b hb => List.mem_cons_of_mem _ hb }
theorem PlS.new {mo k : Int} (h : FtB w d L 32768 g RD RL f 0 RF (ft0 mo k) [] W) (hc : CLog 127 0 g) (hn : g.n = 7) :
    PlS w (W.alloc (.cells #[.slice none 0 0, .slice none 0 0, .slice none 0 0, .slice none 0 0] 38)) d L 0 0 g RD RL f RF (ft0 mo k) (fun _ => []) 0 mo (mxF k) W.heap.size (fun _ => none) (fun _ => 0) [(W.heap.size, .cells #[.slice none 0 0, .slice none 0 0, .slice none 0 0, .slice none 0 0] 38 (0, 0))] :=
  ⟨h.add _ _, FtW.nil _ _ _, hc, hn, ⟨Box.new _ _ _, fun h _ => Own.nil _ _ _ _, h.ft.bl.size⟩, fun k hk => (by
    rcases hk with rfl | ⟨x, _, e⟩
    · exact ⟨_, List.mem_cons_self⟩
    · cases e), rfl, fun _ _ => rfl, fun _ r hr => (by cases hr), fun _ => List.Pairwise.nil, rfl, rfl⟩
/-- Another request is in the log. -/
theorem PlS.logged (h : PlS w W d L id N g RD RL f RF F rs cnt most room ob A C bs) {r : Rq} (hid : r.id = (id : Int) + 1) (hb : FtB w d L (32768 + id + 1) g2 RD2 RL2 f N RF F bs W') (hc : CLog 127 (id + 1) g2) (hl : logS g2.D.S = logS g.D.S ++ [rcQ r]) (hn : g2.n = g.n) :
    PlS w W' d L (id + 1) N g2 RD2 RL2 f RF F rs cnt most room ob A C bs ∧ loadL g2 r.id = some (rcQ r) := by
  have h9 := h.fw.put h.fb.ft.fr.ok h.cl hc hl (by rw [hid]; exact h.no)
  exact ⟨⟨hb, h9.1, hc, by rw [hn, h.n7], h.pr.via h.cov h.fb hb, h.cov, h.hl, h.oth, fun k r hr => by have := h.ids k r hr; omega, h.dst, h.per, h.mem⟩, h9.2⟩
theorem PlS.same {RF' : Nat → Prop} (h : PlS w W d L id N g RD RL f RF F rs cnt most room ob A C bs) (hb : FtB w d L (32768 + id) g RD RL f N RF' F bs W') : PlS w W' d L id N g RD RL f RF' F rs cnt most room ob A C bs :=
  ⟨hb, h.fw, h.cl, h.n7, h.pr.via h.cov h.fb hb, h.cov, h.hl, h.oth, h.ids, h.dst, h.per, h.mem⟩
theorem PlS.kep {S' : List (Int × ByteArray)} (h : PlS w W d L id N g RD RL f RF F rs cnt most room ob A C bs) (hb : FtB w d L (32768 + id) g RD RL f N RF ⟨F.per, F.mem, F.R, F.hs, S'⟩ bs W') (hw : FtW ⟨F.per, F.mem, F.R, F.hs, S'⟩ g rs) : PlS w W' d L id N g RD RL f RF ⟨F.per, F.mem, F.R, F.hs, S'⟩ rs cnt most room ob A C bs :=
  ⟨hb, hw, h.cl, h.n7, h.pr.via h.cov h.fb hb, h.cov, h.hl, h.oth, h.ids, h.dst, h.per, h.mem⟩
/-- A request has come: the Front has it, and so has the document's row. -/
theorem PlS.ins {A' : Nat → Option Addr} {C' : Nat → Nat} (h : PlS w W d L id N g RD RL f RF F rs cnt most room ob A C bs) {r : Rq} {x : Nat} (hx : x < 4) (hid : 1 ≤ r.id ∧ r.id ≤ (id : Int)) (hno : gA F.hs r.id = none)
    (hb : FtB w d L (32768 + id) g RD RL f (N + 1) RF2 (insF F (x : Int) r) bs' W') (hw : FtW (insF F (x : Int) r) g (setR rs (x : Int) (insQ (rs (x : Int)) r))) (hp : PlR W' w.heap.size ob A' C' (setR rs (x : Int) (insQ (rs (x : Int)) r))) (hc : Cov ob A' bs') :
    PlS w W' d L id (N + 1) g RD RL f RF2 (insF F (x : Int) r) (setR rs (x : Int) (insQ (rs (x : Int)) r)) (cnt + 1) most room ob A' C' bs' := by
  refine ⟨hb, hw, h.cl, h.n7, hp, hc, ?_, fun k hk => ?_, fun k y hy => ?_, fun k => ?_, h.per, h.mem⟩
  · show ((pA F.hs r.id (x : Int)).length : Int) = cnt + 1
    rw [len_pA_new _ hno]
    have := h.hl
    omega
  · have e : ¬ k = (x : Int) := by omega
    rw [show setR rs (x : Int) (insQ (rs (x : Int)) r) k = rs k from if_neg e]
    exact h.oth k hk
  · unfold setR at hy
    split at hy
    · rcases insQ_mem.1 hy with rfl | hy
      · exact hid
      · exact h.ids _ y hy
    · exact h.ids k y hy
  · unfold setR
    split
    · refine dst_ins (h.dst _) (fun y hy e => ?_)
      have h9 := (h.fb.ft.fr.ok.ids r.id (x : Int)).2 ⟨noP y, by rw [h.fw.R]; exact List.mem_map_of_mem hy, e⟩
      rw [hno] at h9
      cases h9
    · exact h.dst k
/-- A row is written. -/
theorem FtB.rowSet {K N : Nat} (hb : FtB w d L K g RD RL f N RF F bs W) (hr : PlR W w.heap.size ob A C rs) (hc : Cov ob A bs) {x : Nat} (hx : x < 4) {a' : Option Addr} {c' : Nat} {l : List Rq} (hW : Below W.heap.size W W') (ho : Own W' W.heap.size 35 5 a' l.length c' (rqC l)) {abx : Nat} {ao : Obj} (hab : (abx, ao) ∈ bs) (hne : abx ≠ ob) :
    ∃ bs', FtB w d L K g RD RL f N RF F bs' (W'.setCell ⟨ob, x, none⟩ (.slice a' l.length c')) ∧ PlR (W'.setCell ⟨ob, x, none⟩ (.slice a' l.length c')) w.heap.size ob (fun k => if k = x then a' else A k) (fun k => if k = x then c' else C k) (setR rs (x : Int) l) ∧ Cov ob (fun k => if k = x then a' else A k) bs' ∧ (abx, ao) ∈ bs' := by
  have hap := hb.apart hc
  obtain ⟨oo, hoo⟩ := hc ob (Or.inl rfl)
  obtain ⟨z1, z2, z3, z4⟩ := hb.bx _ hoo
  have h1 := hb.later hW
  have hr1 := hr.later hW
  have hon : Only (fun k => k = ob) W' (W'.setCell ⟨ob, x, none⟩ (.slice a' l.length c')) := (Only.refl (fun k => k = ob) W').setCell (p := ⟨ob, x, none⟩) (Or.inl rfl) _
  have hft : FtS w d L K g RD RL f N RF F (W'.setCell ⟨ob, x, none⟩ (.slice a' l.length c')) :=
    ⟨h1.ft.sp.only hon (fun k hk => by subst hk; exact ⟨z2, z4⟩), h1.ft.fr.only hon (fun k hk e => z3 (by rw [← e]; exact hk)), h1.ft.ap, h1.ft.ge⟩
  have hpr := hr1.put hx (ho.mono hb.ft.bl.size)
  have hb1 : FtB w d L K g RD RL f N RF F [(abx, ao)] (W'.setCell ⟨ob, x, none⟩ (.slice a' l.length c')) := ⟨hft, fun b hb' => by
    rw [List.mem_singleton] at hb'
    subst hb'
    obtain ⟨q1, q2, q3, q4⟩ := h1.bx _ hab
    exact ⟨(Below.heap_setCell _ _ _ _ hne).trans q1, q2, q3, q4⟩⟩
  obtain ⟨bs', k1, k2, k3⟩ := hb1.rows hpr (fun k hk => by
    rcases hk with hk | ⟨y, hy, e⟩
    · exact hap k (Or.inl hk)
    · have e : (if y = x then a' else A y) = some ⟨k, 0, none⟩ := e
      by_cases e2 : y = x
      · rw [if_pos e2] at e
        rw [e] at ho
        have hge := ho.lt.1
        refine ⟨fun e3 => ?_, fun e3 => ?_⟩
        · rcases e3 with e3 | e3
          · have := hb.ft.sp.lg.dk.lt _ e3; omega
          · have := hb.ft.sp.lg.lx.lt _ e3; omega
        · have := hb.ft.fr.lt e3; omega
      · rw [if_neg e2] at e
        exact hap k (Or.inr ⟨y, hy, e⟩))
  exact ⟨bs', k1, hpr, k3, k2 _ List.mem_cons_self⟩
theorem drp_setR (rs : Int → List Rq) (x id : Int) (hno : ∀ k, k ≠ x → ∀ r ∈ rs k, r.id ≠ id) : setR rs x ((rs x).filter fun y => !decide (y.id = id)) = fun k => (rs k).filter fun y => !decide (y.id = id) := by
  funext k
  unfold setR
  by_cases e : k = x
  · rw [if_pos e, e]
  · rw [if_neg e]
    exact (List.filter_eq_self.2 (fun y hy => by have := hno k e y hy; simp [this])).symm
/-- Every host's row without a request. -/
def flR (rs : Int → List Rq) (id : Int) : Int → List Rq := fun k => (rs k).filter fun y => !decide (y.id = id)
/-- The rows of the first k hosts without it. -/
def flK (rs : Int → List Rq) (id : Int) (k : Nat) : Int → List Rq := fun h => if h < (k : Int) then (rs h).filter fun y => !decide (y.id = id) else rs h
theorem flK_at (rs : Int → List Rq) (id : Int) (k : Nat) : flK rs id k (k : Int) = rs (k : Int) := if_neg (Int.lt_irrefl _)
theorem flK_no (rs : Int → List Rq) (id : Int) (k : Nat) (h : (rs (k : Int)).any (idB id) = false) : flK rs id (k + 1) = flK rs id k := by
  funext x
  unfold flK
  by_cases e : x = (k : Int)
  · subst e
    rw [if_pos (by omega), if_neg (by omega)]
    refine List.filter_eq_self.2 (fun y hy => ?_)
    have := List.any_eq_false.1 h y hy
    have h2 : ¬ (y.id == id) = true := this
    simpa using h2
  · by_cases e2 : x < (k : Int)
    · rw [if_pos (by omega), if_pos e2]
    · rw [if_neg (by omega), if_neg e2]
theorem flK_yes (rs : Int → List Rq) (id : Int) (k : Nat) : setR (flK rs id k) (k : Int) ((rs (k : Int)).filter fun y => !idB id y) = flK rs id (k + 1) := by
  funext x
  unfold setR flK
  by_cases e : x = (k : Int)
  · subst e
    rw [if_pos rfl, if_pos (by omega)]
    rfl
  · rw [if_neg e]
    by_cases e2 : x < (k : Int)
    · rw [if_pos e2, if_pos (by omega)]
    · rw [if_neg e2, if_neg (by omega)]
theorem flK_0 (rs : Int → List Rq) (id : Int) (h : ∀ k : Int, k < 0 ∨ 4 ≤ k → rs k = []) : flK rs id 0 = rs := by
  funext x
  unfold flK
  by_cases e : x < ((0 : Nat) : Int)
  · rw [if_pos e, h x (by omega)]; rfl
  · rw [if_neg e]
theorem flK_4 (rs : Int → List Rq) (id : Int) (h : ∀ k : Int, k < 0 ∨ 4 ≤ k → rs k = []) : flK rs id 4 = flR rs id := by
  funext x
  unfold flK flR
  by_cases e : x < ((4 : Nat) : Int)
  · rw [if_pos e]
  · rw [if_neg e, h x (by omega)]; rfl
/-- While a request is looked for: k hosts were looked at. -/
structure DlS (w wy : World) (d L K N : Nat) (g : Lg) (RD RL : Nat → Prop) (f : Nat) (RF : Nat → Prop) (F : Ft) (rs : Int → List Rq) (id : Int) (k : Nat) (fd : Bool) (ob : Nat) (A : Nat → Option Addr) (C : Nat → Nat) (bs : Bxs) (abx : Nat) (ao : Obj) : Prop where
  fb : FtB w d L K g RD RL f N RF F bs wy
  pr : PlR wy w.heap.size ob A C (flK rs id k)
  cov : Cov ob A bs
  hab : (abx, ao) ∈ bs
  fnd : fd = true ↔ ∃ j : Nat, j < k ∧ (rs (j : Int)).any (idB id) = true
theorem any_host (h : FtW F g rs) (ok : FtOk F) {x : Int} {i : Int} (ha : (rs x).any (idB i) = true) : gA F.hs i = some x := by
  obtain ⟨r, hr, e⟩ := List.any_eq_true.1 ha
  have e : (r.id == i) = true := e
  exact (ok.ids i x).2 ⟨noP r, by rw [h.R]; exact List.mem_map_of_mem hr, by show r.id = i; simpa using e⟩
theorem host_any (h : FtW F g rs) (ok : FtOk F) {x : Int} {i : Int} (ha : gA F.hs i = some x) : (rs x).any (idB i) = true := by
  obtain ⟨r, hr, e⟩ := (ok.ids i x).1 ha
  rw [h.R] at hr
  obtain ⟨y, hy, rfl⟩ := List.mem_map.1 hr
  have e : y.id = i := e
  exact List.any_eq_true.2 ⟨y, hy, by show (y.id == i) = true; simpa using e⟩
/-- It was not there. -/
theorem PlS.none_ {A' : Nat → Option Addr} {C' : Nat → Nat} (h : PlS w W d L id N g RD RL f RF F rs cnt most room ob A C bs) {i : Int} (hn : gA F.hs i = none) (hb : FtB w d L (32768 + id) g RD RL f N RF F bs' W') (hp : PlR W' w.heap.size ob A' C' (flK rs i 4)) (hc : Cov ob A' bs') :
    PlS w W' d L id N g RD RL f RF F rs cnt most room ob A' C' bs' := by
  have e : flK rs i 4 = rs := by
    rw [flK_4 rs i h.oth]
    funext x
    refine List.filter_eq_self.2 (fun y hy => ?_)
    have : ¬ y.id = i := fun e => by
      have := any_host h.fw h.fb.ft.fr.ok (x := x) (i := i) (List.any_eq_true.2 ⟨y, hy, by show (y.id == i) = true; simpa using e⟩)
      rw [hn] at this
      cases this
    simpa using this
  rw [e] at hp
  exact ⟨hb, h.fw, h.cl, h.n7, hp, hc, h.hl, h.oth, h.ids, h.dst, h.per, h.mem⟩
/-- It is gone. -/
theorem PlS.gone {A' : Nat → Option Addr} {C' : Nat → Nat} (h : PlS w W d L id N g RD RL f RF F rs cnt most room ob A C bs) {i x : Int} (hn : gA F.hs i = some x) (hb : FtB w d L (32768 + id) g RD RL f N RF2 (drpF F x i) bs' W') (hw : FtW (drpF F x i) g (setR rs x ((rs x).filter fun y => !decide (y.id = i)))) (hp : PlR W' w.heap.size ob A' C' (flK rs i 4)) (hc : Cov ob A' bs') :
    PlS w W' d L id N g RD RL f RF2 (drpF F x i) (flK rs i 4) (cnt - 1) most room ob A' C' bs' := by
  have e : setR rs x ((rs x).filter fun y => !decide (y.id = i)) = flK rs i 4 := by
    rw [flK_4 rs i h.oth]
    refine drp_setR rs x i (fun k hk y hy e => hk ?_)
    have h1 := any_host h.fw h.fb.ft.fr.ok (x := k) (i := i) (List.any_eq_true.2 ⟨y, hy, by show (y.id == i) = true; simpa using e⟩)
    rw [hn] at h1
    injection h1 with h1
    exact h1.symm
  rw [e] at hw
  have hm : ∀ k, ∀ y ∈ flK rs i 4 k, y ∈ rs k := fun k y hy => by
    rw [flK_4 rs i h.oth] at hy
    exact (List.mem_filter.1 hy).1
  refine ⟨hb, hw, h.cl, h.n7, hp, hc, ?_, fun k hk => ?_, fun k y hy => h.ids k y (hm k y hy), fun k => ?_, h.per, h.mem⟩
  · show ((dA F.hs i).length : Int) = cnt - 1
    have := len_dA_nd h.fb.ft.fr.ok.nd (n := i) (by rw [hn]; rfl)
    have := h.hl
    omega
  · rw [flK_4 rs i h.oth]
    show (rs k).filter _ = []
    rw [h.oth k hk]
    rfl
  · rw [flK_4 rs i h.oth]
    exact List.Pairwise.filter _ (h.dst k)
end
theorem DlS.later {w wy W : World} {d L K N f k ob abx : Nat} {g : Lg} {RD RL RF : Nat → Prop} {F : Ft} {rs : Int → List Rq} {id : Int} {fd : Bool} {A : Nat → Option Addr} {C : Nat → Nat} {bs : Bxs} {ao : Obj} (h : DlS w wy d L K N g RD RL f RF F rs id k fd ob A C bs abx ao) (hb : Below wy.heap.size wy W) : DlS w W d L K N g RD RL f RF F rs id k fd ob A C bs abx ao :=
  ⟨h.fb.later hb, h.pr.later hb, h.cov, h.hab, h.fnd⟩
theorem DlS.skip {w wy : World} {d L K N f k ob abx : Nat} {g : Lg} {RD RL RF : Nat → Prop} {F : Ft} {rs : Int → List Rq} {id : Int} {fd : Bool} {A : Nat → Option Addr} {C : Nat → Nat} {bs : Bxs} {ao : Obj} (h : DlS w wy d L K N g RD RL f RF F rs id k fd ob A C bs abx ao) (hn : (rs (k : Int)).any (idB id) = false) : DlS w wy d L K N g RD RL f RF F rs id (k + 1) fd ob A C bs abx ao :=
  ⟨h.fb, by rw [flK_no rs id k hn]; exact h.pr, h.cov, h.hab, h.fnd.trans ⟨fun ⟨j, h1, h2⟩ => ⟨j, by omega, h2⟩, fun ⟨j, h1, h2⟩ => by
    by_cases e : j = k
    · subst e; rw [hn] at h2; cases h2
    · exact ⟨j, by omega, h2⟩⟩⟩
theorem mk_rows (w : World) : (Instr.makeSlice 31 (.int .i64 4) (.int .i64 4)).run Tryz.prog w = .ok (.slice (some ⟨w.heap.size, 0, none⟩) 4 4) (w.alloc (.cells #[.slice none 0 0, .slice none 0 0, .slice none 0 0, .slice none 0 0] 38)) := by kernel_rfl
end Go.Proofs.YtimkgaokcldgkaaGreatDoor
/- FrontPlays, walked. Written by gen_pl.py. -/
namespace Go.Proofs.YtimkgaokcldgkaaGreatDoor
open Go Go.RowKit Go.Maps
set_option linter.unusedVariables false
set_option linter.unusedSimpArgs false
set_option maxRecDepth 100000

set_option maxHeartbeats 16000000 in
theorem frontPlays_walk (x1 x2 : Int) (x : Option Addr × Nat × Nat) (w : World) (h1 : (Lit.int .u8 x1).wf = true) (h2 : (Lit.int .u8 x2).wf = true) (hx : IsActF w x) (hN : NowM w) :
    Calls Tryz.prog 3 #[.int .u8 x1, .int .u8 x2, .slice x.1 x.2.1 x.2.2] w fun e w' => e = .returned (.bool true) ∧ Below w.heap.size w w' := by
  obtain ⟨a, len, cap⟩ := x
  obtain ⟨b, off, ha, hlm, hc⟩ := hx
  dsimp only at ha hlm hc ⊢
  unfold maxLen at hlm
  have HA := Lib.hid ha
  have HC := Lib.hid hc
  have HN := Lib.hid hN
  have hm1 : 0 ≤ x1 ∧ x1 ≤ 255 := by simp [Lit.wf, IntKind.min, IntKind.max, IntKind.signed, IntKind.bits] at h1; omega
  have hm2 : 0 ≤ x2 ∧ x2 ≤ 255 := by simp [Lit.wf, IntKind.min, IntKind.max, IntKind.signed, IntKind.bits] at h2; omega
  obtain ⟨mo, hmo, hmo0, hmo1⟩ : ∃ k, x1.tmod 12 = k ∧ 0 ≤ k ∧ k ≤ 11 := ⟨_, rfl, by rw [Int.tmod_eq_emod_of_nonneg hm1.1]; omega, by rw [Int.tmod_eq_emod_of_nonneg hm1.1]; omega⟩
  obtain ⟨k9, hk9, hk0, hk1⟩ : ∃ k, x2.tmod 9 = k ∧ 0 ≤ k ∧ k ≤ 8 := ⟨_, rfl, by rw [Int.tmod_eq_emod_of_nonneg hm2.1]; omega, by rw [Int.tmod_eq_emod_of_nonneg hm2.1]; omega⟩
  have wk0 : IntKind.i64.wrap mo = mo := IntWalk.i64_in _ (by omega)
  have wk1 : IntKind.i64.wrap k9 = k9 := IntWalk.i64_in _ (by omega)
  have wk2 : IntKind.i64.wrap (k9 + 1) = k9 + 1 := IntWalk.i64_in _ (by omega)
  clear ha hc hN h1 h2
  have NW := Lib.hid (s_new HN.out (Below.refl _ w) 16)
  go_enter Tryz.func3, Tryz.ntmps3
  go_wp2_with fail
  refine NW.out.mono ?_
  rintro e w1 ⟨d, RD, rfl, hd, _, _⟩
  have D1 := Lib.hid hd
  clear hd NW
  have OP := Lib.hid (s_open D1.out 7)
  go_wp2_with fail
  refine OP.out.mono ?_
  rintro e w2 ⟨L, RL, rfl, hs, _, _⟩
  have S2 := Lib.hid hs
  clear hs OP D1
  have FN := Lib.hid (fnew_at mo (k9 + 1) L w2)
  go_wp2_with fail
  refine FN.out.mono ?_
  rintro e w3 ⟨f, RF, rfl, hf, hb, hg⟩
  have T3 : Hid (FtB w d L 32768 (openL ⟨[], [], moI 16, 0, 0⟩ 7) RD RL f 0 RF (ft0 mo (k9 + 1)) [] w3) := Lib.hid ⟨FtS.new S2.out hf hb hg, fun b hb => (by cases hb)⟩
  clear hf hb hg FN S2
  have mk := mk_rows w3
  obtain ⟨room, hroom⟩ : ∃ r, mxF (k9 + 1) = r := ⟨_, rfl⟩
  have HRO : Hid (room = k9 + 1) := Lib.hid (by rw [← hroom]; unfold mxF; omega)
  have T4 := Lib.hid (PlS.new T3.out (CLog.new 127 16 7 (by decide)) rfl)
  rw [hroom] at T4
  clear hroom T3
  go_upto_region 7 with fail
  refine code_forget (fun W => Hid (PlS w W d L 0 0 (openL ⟨[], [], moI 16, 0, 0⟩ 7) RD RL f RF (ft0 mo (k9 + 1)) (fun _ => []) 0 mo room w3.heap.size (fun _ => none) (fun _ => 0) [(w3.heap.size, .cells #[.slice none 0 0, .slice none 0 0, .slice none 0 0, .slice none 0 0] 38 (0, 0))])) T4 ?_
  obtain ⟨ob, hob⟩ : ∃ p, w3.heap.size = p := ⟨_, rfl⟩
  rw [hob]
  clear hob T4 mk
  rintro w4 T4
  go_wp2_with fail
  go_loopw [13, 14, 15] (fun v13 v14 v15 wr => ∃ (i id : Nat) (cnt : Int) (g : Lg) (RD RL RF : Nat → Prop) (F : Ft) (rs : Int → List Rq) (A : Nat → Option Addr) (C : Nat → Nat) (bs : Bxs), i ≤ len ∧ i ≤ 60 ∧ id ≤ 26 ∧ v13 = .int .i64 cnt ∧ v14 = .int .i64 (id : Int) ∧ v15 = .int .i64 (i : Int) ∧ Hid (PlS w wr d L id id g RD RL f RF F rs cnt mo room ob A C bs)) (fun _ _ v15 _ => 60 - (vI v15).toNat)
  case atStart => exact ⟨0, 0, 0, _, _, _, _, _, _, _, _, _, by omega, by omega, by omega, rfl, rfl, rfl, T4⟩
  case round =>
    obtain ⟨i, id, cnt, g, RD, RL, RF, F, rs, A, C, bs, hi, hi6, hid, rfl, rfl, rfl, HQ⟩ := hrel
    clear T4
    obtain ⟨wo, rfl⟩ : ∃ W, W = wr := ⟨_, rfl⟩
    by_cases hgo : i < len ∧ i < 60
    · obtain ⟨k1, k2⟩ := hgo
      have d1 : decide ((i : Int) < (len : Int)) = true := decide_eq_true (by omega)
      have d2 : decide ((i : Int) < 60) = true := decide_eq_true (by omega)
      have haa := HA.out (by omega)
      subst haa
      obtain ⟨act, hact⟩ := HC.out i k1
      have AC := Lib.hid (hact.later HQ.out.fb.ft.bl)
      obtain ⟨xw, xh, xn, xp, xr⟩ := act
      have c0 := AC.out.c0
      have c1 := AC.out.c1
      have c2 := AC.out.c2
      have c3 := AC.out.c3
      have c4 := AC.out.c4
      have XH := Lib.hid AC.out.wh
      have XN := Lib.hid AC.out.wn
      have hpl := AC.out.wp
      have hp0 := AC.out.p0
      dsimp only at c0 c1 c2 c3 c4 XH XN hpl hp0
      unfold maxLen at hpl
      have hx0 : (0 : Int) ≤ (i : Int) := by omega
      have hx1 : (i : Int) < (len : Int) := by omega
      clear hact AC
      go_upto_region 12 with fail
      refine code_forget (fun W => Hid (PlS w W d L id id g RD RL f RF F rs cnt mo room ob A C ((wo.heap.size, .cells #[.int .i64 xw, .int .i64 xh, .int .i64 xn, .string xp, .int .u8 xr] 33 (0, 0)) :: bs)) ∧ Hid (wo.heap.size ≠ ob)) ⟨Lib.hid (HQ.out.add _ _), Lib.hid (by have := HQ.out.pr.box.lt; omega)⟩ ?_
      obtain ⟨ab, hab⟩ : ∃ p, wo.heap.size = p := ⟨_, rfl⟩
      rw [hab]
      clear hab HQ c0 c1 c2 c3 c4
      rintro wa ⟨HQ, HNE⟩
      obtain ⟨bs1, hbs1⟩ : ∃ z, ((ab, .cells #[.int .i64 xw, .int .i64 xh, .int .i64 xn, .string xp, .int .u8 xr] 33 (0, 0)) :: bs : Bxs) = z := ⟨_, rfl⟩
      have HAB : Hid ((ab, .cells #[.int .i64 xw, .int .i64 xh, .int .i64 xn, .string xp, .int .u8 xr] 33 (0, 0)) ∈ bs1) := Lib.hid (by rw [← hbs1]; exact List.mem_cons_self)
      rw [hbs1] at HQ
      clear hbs1
      have BA := Lib.hid (HQ.out.fb.box HAB.out)
      have a0 := BA.out.cell 0
      have a1 := BA.out.cell 1
      have a2 := BA.out.cell 2
      have a3 := BA.out.cell 3
      have a4 := BA.out.cell 4
      by_cases hbig : 100 < xp.size
      · have dbig : decide (100 < (xp.size : Int)) = true := decide_eq_true (by omega)
        go_wp2_with fail
        go_roundw
        case rel => exact ⟨i + 1, id, cnt, g, RD, RL, RF, F, rs, A, C, bs1, by omega, by omega, by omega, rfl, rfl, by go_num, HQ⟩
        case measure => exact cra_ms 60 i k2
      have dbig : decide (100 < (xp.size : Int)) = false := decide_eq_false (by omega)
      have hbig2 : ¬ (100 : Int) < (xp.size : Int) := by omega
      by_cases hful : 25 < id
      · have dful : decide (25 < (id : Int)) = true := decide_eq_true (by omega)
        go_wp2_with fail
        go_roundw
        case rel => exact ⟨i + 1, id, cnt, g, RD, RL, RF, F, rs, A, C, bs1, by omega, by omega, by omega, rfl, rfl, by go_num, HQ⟩
        case measure => exact cra_ms 60 i k2
      have dful : decide (25 < (id : Int)) = false := decide_eq_false (by omega)
      have hful2 : ¬ (25 : Int) < (id : Int) := by omega
      have HSZ : Hid (xp.size ≤ 100) := Lib.hid (by omega)
      obtain ⟨hm, hhm, hm0, hm1⟩ : ∃ k, xh.tmod 4 = k ∧ -4 < k ∧ k < 4 := ⟨_, rfl, by rw [Int.tmod_eq_emod]; split <;> omega, by rw [Int.tmod_eq_emod]; split <;> omega⟩
      have whm : IntKind.i64.wrap hm = hm := IntWalk.i64_in _ (by omega)
      have whm4 : IntKind.i64.wrap (hm + 4) = hm + 4 := IntWalk.i64_in _ (by omega)
      obtain ⟨qn, hqn⟩ : ∃ q, decide (hm < 0) = q := ⟨_, rfl⟩
      have HQN := Lib.hid hqn
      go_upto_if 78 with fail
      clear hqn
      go_cut [17] (fun v17 wx => ∃ hN : Nat, hN < 4 ∧ v17 = .int .i64 (hN : Int) ∧ wx = wa)
      case first =>
        cases qn with
        | true =>
          have hlt := of_decide_eq_true HQN.out
          go_wp2
          go_meet
          exact ⟨(hm + 4).toNat, by omega, by rw [show (((hm + 4).toNat : Nat) : Int) = hm + 4 by omega], rfl⟩
        | false =>
          have hlt := of_decide_eq_false HQN.out
          go_wp2
          go_meet
          exact ⟨hm.toNat, by omega, by rw [show ((hm.toNat : Nat) : Int) = hm by omega], rfl⟩
      case rest => as_aux_lemma =>
        obtain ⟨hN, hN4, rfl, hwc⟩ := hcut
        subst hwc
        obtain ⟨wa, hwa⟩ : ∃ W, wc = W := ⟨_, rfl⟩
        rw [hwa] at HQ BA a0 a1 a2 a3 a4 ⊢
        clear hwa HQN hhm whm whm4
        have wh : IntKind.i64.wrap (hN : Int) = (hN : Int) := IntWalk.i64_in _ (by omega)
        have hh0 : (0 : Int) ≤ (hN : Int) := by omega
        have hh1 : (hN : Int) < 4 := by omega
        have OH : Hid (okI (hN : Int)) := Lib.hid (okI_of (by omega) (by omega))
        go_upto_block 2 with fail
        go_cut [13, 14] (fun v13 v14 wx => ∃ (id2 : Nat) (cnt2 : Int) (g2 : Lg) (RD2 RL2 RF2 : Nat → Prop) (F2 : Ft) (rs2 : Int → List Rq) (A2 : Nat → Option Addr) (C2 : Nat → Nat) (bs2 : Bxs), id2 ≤ 26 ∧ v13 = .int .i64 cnt2 ∧ v14 = .int .i64 (id2 : Int) ∧ Hid (PlS w wx d L id2 id2 g2 RD2 RL2 f RF2 F2 rs2 cnt2 mo room ob A2 C2 bs2) ∧ Hid ((ab, .cells #[.int .i64 xw, .int .i64 xh, .int .i64 xn, .string xp, .int .u8 xr] 33 (0, 0)) ∈ bs2))
        case first =>
          by_cases k0 : xw = 0
          · as_aux_lemma =>
              subst k0
              obtain ⟨pv, hpv, hpv0, hpv1⟩ : ∃ pv, xr.tmod 8 = pv ∧ 0 ≤ pv ∧ pv ≤ 7 := ⟨_, rfl, by rw [Int.tmod_eq_emod_of_nonneg hp0.1]; omega, by rw [Int.tmod_eq_emod_of_nonneg hp0.1]; omega⟩
              have wpv : IntKind.i64.wrap pv = pv := IntWalk.i64_in _ (by omega)
              have wid : IntKind.i64.wrap ((id : Int) + 1) = (id : Int) + 1 := IntWalk.i64_in _ (by omega)
              go_upto_region 21 with fail
              refine code_forget (fun W => Hid (PlS w W d L id id g RD RL f RF F rs cnt mo room ob A C ((wa.heap.size, .cells #[.int .i64 ((id : Int) + 1), .string ⟨#[104]⟩, .string xp, .int .i64 pv, .int .i64 0] 35 (0, 0)) :: bs1))) (Lib.hid (HQ.out.add _ _)) ?_
              obtain ⟨rb, hrb⟩ : ∃ p, wa.heap.size = p := ⟨_, rfl⟩
              rw [hrb]
              rintro w6 T6
              have HNO := Lib.hid HQ.out.no
              obtain ⟨bs2, hbs2⟩ : ∃ z, ((rb, .cells #[.int .i64 ((id : Int) + 1), .string ⟨#[104]⟩, .string xp, .int .i64 pv, .int .i64 0] 35 (0, 0)) :: bs1 : Bxs) = z := ⟨_, rfl⟩
              have HRB : Hid ((rb, .cells #[.int .i64 ((id : Int) + 1), .string ⟨#[104]⟩, .string xp, .int .i64 pv, .int .i64 0] 35 (0, 0)) ∈ bs2) := Lib.hid (by rw [← hbs2]; exact List.mem_cons_self)
              have HAB2 : Hid ((ab, .cells #[.int .i64 0, .int .i64 xh, .int .i64 xn, .string xp, .int .u8 xr] 33 (0, 0)) ∈ bs2) := Lib.hid (by rw [← hbs2]; exact List.mem_cons_of_mem _ HAB.out)
              rw [hbs2] at T6
              clear hrb hbs2 hpv HQ HAB BA a0 a1 a2 a3 a4
              have hsr : soundR (rcQ ⟨(id : Int) + 1, ⟨#[104]⟩, xp, pv, 0⟩) := ⟨by show (1 : Int) ≤ 1; decide, by show (1 : Int) ≤ 3; decide, by show 0 ≤ (id : Int) + 1; omega, by show (0 : Int) ≤ 0; decide, by show 0 ≤ pv; omega, by show pv ≤ 7; omega, by show (1 : Nat) ≤ 256; decide, by show xp.size ≤ 768; have := HSZ.out; omega⟩
              obtain ⟨g2, hpg, hc2, hl2, hn2⟩ := T6.out.cl.put (by omega) (T6.out.few (by omega)) (r := rcQ ⟨(id : Int) + 1, ⟨#[104]⟩, xp, pv, 0⟩) rfl hsr ⟨by show (id : Int) + 1 < _; omega, by show (0 : Int) < _; decide⟩ (by unfold encR; rw [recB_length, contR_length]; show 6 + (20 + (1 + xp.size)) ≤ 127; have := HSZ.out; omega) (by decide)
              have OR : Hid (okI ((id : Int) + 1)) := Lib.hid (okI_of (by omega) (by omega))
              have PC := Lib.hid (s_put T6.out.fb.ft.sp (rcQ ⟨(id : Int) + 1, ⟨#[104]⟩, xp, pv, 0⟩) rfl OR.out (by omega) (by omega) (by rw [T6.out.n7]; decide) _ hpg)
              have LGX := Lib.hid (fun (W : World) (RD2 RL2 : Nat → Prop) (hb : FtB w d L (32768 + id + 1) g2 RD2 RL2 f id RF F bs2 W) => T6.out.logged (r := ⟨(id : Int) + 1, ⟨#[104]⟩, xp, pv, 0⟩) rfl hb hc2 hl2 hn2)
              unfold rcQ reqL at PC
              dsimp only at PC
              clear hsr hpg hc2 hl2 hn2
              have BR := Lib.hid (T6.out.fb.box HRB.out)
              have r0 := BR.out.cell 0
              have r1 := BR.out.cell 1
              have r2 := BR.out.cell 2
              have r3 := BR.out.cell 3
              have r4 := BR.out.cell 4
              go_wp2_with fail
              refine PC.out.mono ?_
              rintro e w7 ⟨rfl, ha⟩
              obtain ⟨RD2, RL2, ht7⟩ := T6.out.fb.spa ha
              have LGY := LGX.out _ _ _ ht7
              have T7 := Lib.hid LGY.1
              have LD := Lib.hid LGY.2
              clear ha ht7 LGY LGX PC T6 BR r0 r1 r2 r3 r4
              have BA := Lib.hid (T7.out.fb.box HAB2.out)
              have a0 := BA.out.cell 0
              have BR := Lib.hid (T7.out.fb.box HRB.out)
              have r0 := BR.out.cell 0
              have r1 := BR.out.cell 1
              have r2 := BR.out.cell 2
              have r3 := BR.out.cell 3
              have r4 := BR.out.cell 4
              have ISM : Hid ((gA (insF F (hN : Int) ⟨(id : Int) + 1, ⟨#[104]⟩, xp, pv, 0⟩).hs ((id : Int) + 1)).isSome = true) := Lib.hid (by
                show (gA (pA F.hs ((id : Int) + 1) (hN : Int)) ((id : Int) + 1)).isSome = true
                rw [gA_put, if_pos rfl]; rfl)
              have RLN := Lib.hid (T7.out.rl (hN : Int))
              have CNT := Lib.hid T7.out.cnts
              have AD := Lib.hid (ses_add T7.out.fb T7.out.fw (hN : Int) OH.out ⟨(id : Int) + 1, ⟨#[104]⟩, xp, pv, 0⟩ OR.out (by omega) (Or.inl LD.out))
              unfold rqA at AD
              dsimp only at AD
              go_wp2_with fail
              refine AD.out.mono ?_
              rintro e w8 hp
              have hno := HNO.out
              have hper := T7.out.per
              rcases hp with ⟨p1, _⟩ | ⟨_, p2, rfl, p4⟩ | ⟨_, p2, rfl, R3, p4, p5⟩
              · rw [hno] at p1; cases p1
              · have T8 := Lib.hid (T7.out.same p4)
                obtain ⟨ln, hln⟩ : ∃ n, (rs (hN : Int)).length = n := ⟨_, rfl⟩
                have oc := T8.out.pr.cell hN4
                rw [hln] at oc
                rw [hper, hln] at p2
                have dl : decide (mo ≤ (ln : Int)) = true := decide_eq_true (by omega)
                clear p4 hno hper AD T7 BA a0 BR r0 r1 r2 r3 r4 hln
                go_wp2_with fail
                go_roundw
                case rel => exact ⟨i + 1, id + 1, cnt, g2, RD2, RL2, RF, F, rs, A, C, bs2, by omega, by omega, by omega, rfl, by go_num, by go_num, Lib.hid (T8.out.mono (Nat.le_succ _))⟩
                case measure => exact cra_ms 60 i k2
              obtain ⟨ln, hln⟩ : ∃ n, (rs (hN : Int)).length = n := ⟨_, rfl⟩
              have oc := (T7.out.pr.via T7.out.cov T7.out.fb p4).cell hN4
              rw [hln] at oc
              rw [hper, hln] at p2
              have dl : decide (mo ≤ (ln : Int)) = false := decide_eq_false (by omega)
              have P4 := Lib.hid p4
              have P5 := Lib.hid p5
              clear p4 p5 hno hper AD BA a0 BR r0 r1 r2 r3 r4 hln
              have AD := Lib.hid (ses_add P4.out P5.out (hN : Int) OH.out ⟨(id : Int) + 1, ⟨#[104]⟩, xp, pv, 0⟩ OR.out (by omega) (Or.inr (Or.inl ISM.out)))
              unfold rqA at AD
              dsimp only at AD
              have BR := Lib.hid (P4.out.box HRB.out)
              have r0 := BR.out.cell 0
              have r1 := BR.out.cell 1
              have r2 := BR.out.cell 2
              have r3 := BR.out.cell 3
              have r4 := BR.out.cell 4
              go_wp2_with fail
              refine AD.out.mono ?_
              rintro e wz hp
              rcases hp with ⟨_, rfl, q⟩ | ⟨q, _⟩ | ⟨q, _⟩
              rotate_left
              · have h9 := ISM.out; rw [q] at h9; cases h9
              · have h9 := ISM.out; rw [q] at h9; cases h9
              have QF := Lib.hid q
              clear q AD BR r0 r1 r2 r3 r4 oc
              have RW := Lib.hid (T7.out.pr.via T7.out.cov T7.out.fb QF.out)
              have HCV := Lib.hid T7.out.cov
              have BR := Lib.hid (QF.out.box HRB.out)
              have OC0 : ∀ W, Box W ob (obC A C rs) 38 → W.cell? ⟨ob, hN, none⟩ = some (.slice (A hN) (rs (hN : Int)).length (C hN)) := fun W hb => ob_cell hb hN4
              have wcn : IntKind.i64.wrap (cnt + 1) = cnt + 1 := IntWalk.i64_in _ (by have := CNT.out; omega)
              go_upto_region 32 with fail
              refine wp_region_last 9 (fun w' => Box w' ob (obC A C rs) 38 ∧ Box w' rb #[.int .i64 ((id : Int) + 1), .string ⟨#[104]⟩, .string xp, .int .i64 pv, .int .i64 0] 35 ∧ Below wz.heap.size wz w') (by kernel_rfl) (⟨RW.out.box.drew, BR.out.drew, (Below.refl _ wz).drew⟩) (fun hHeld hClosed => ?_)
              refine wtk (i := 0) (v := ?_) rfl hClosed (Or.inl ⟨by rfl, ?_⟩) hHeld (fun hClosed => ?_)
              rotate_left
              · intro wv hSw; go_simp; all_goals (with_reducible rfl)
              (try simp only [List.getElem_toArray, List.getElem_cons_zero, put_at, List.set])
              refine wtk (i := 1) (v := ?_) rfl hClosed (Or.inl ⟨by rfl, ?_⟩) hHeld (fun hClosed => ?_)
              rotate_left
              · intro wv hSw; go_simp; all_goals (with_reducible rfl)
              (try simp only [List.getElem_toArray, List.getElem_cons_succ, List.getElem_cons_zero, put_at, List.set])
              refine wtk (i := 2) (v := ?_) rfl hClosed (Or.inl ⟨by rfl, ?_⟩) hHeld (fun hClosed => ?_)
              rotate_left
              · intro wv hSw; go_simp; all_goals (with_reducible rfl)
              (try simp only [List.getElem_toArray, List.getElem_cons_succ, List.getElem_cons_zero, put_at, List.set])
              refine wtk (i := 3) (v := ?_) rfl hClosed (Or.inl ⟨by rfl, ?_⟩) hHeld (fun hClosed => ?_)
              rotate_left
              · intro wv hSw; go_simp; all_goals (with_reducible rfl)
              (try simp only [List.getElem_toArray, List.getElem_cons_succ, List.getElem_cons_zero, put_at, List.set])
              refine wtk (i := 4) (v := ?_) rfl hClosed (Or.inl ⟨by rfl, ?_⟩) hHeld (fun hClosed => ?_)
              rotate_left
              · intro wv hSw; go_simp; all_goals (with_reducible rfl)
              (try simp only [List.getElem_toArray, List.getElem_cons_succ, List.getElem_cons_zero, put_at, List.set])
              refine wtk (i := 5) (v := ?_) rfl hClosed (Or.inl ⟨by rfl, ?_⟩) hHeld (fun hClosed => ?_)
              rotate_left
              · intro wv hSw; have o0 := OC0 _ hSw.1; have r0 := hSw.2.1.cell 0; have r1 := hSw.2.1.cell 1; have r2 := hSw.2.1.cell 2; have r3 := hSw.2.1.cell 3; have r4 := hSw.2.1.cell 4; go_simp; all_goals (with_reducible rfl)
              (try simp only [List.getElem_toArray, List.getElem_cons_succ, List.getElem_cons_zero, put_at, List.set])
              refine wtk (i := 6) (v := ?_) rfl hClosed (Or.inl ⟨by rfl, ?_⟩) hHeld (fun hClosed => ?_)
              rotate_left
              · intro wv hSw; have o0 := OC0 _ hSw.1; have r0 := hSw.2.1.cell 0; have r1 := hSw.2.1.cell 1; have r2 := hSw.2.1.cell 2; have r3 := hSw.2.1.cell 3; have r4 := hSw.2.1.cell 4; go_simp; all_goals (with_reducible rfl)
              (try simp only [List.getElem_toArray, List.getElem_cons_succ, List.getElem_cons_zero, put_at, List.set])
              refine wpAnyL_one (i := 7) rfl (by kernel_rfl) (by kernel_rfl) hClosed (fun KK hK => ?_)
              go_simp
              refine (rins_at (rs (hN : Int)) _ rfl (by have := RLN.out; omega) _ _ _ ⟨(id : Int) + 1, ⟨#[104]⟩, xp, pv, 0⟩ _ ((RW.out.later hHeld.2.2).own hN hN4)).mono ?_
              rintro e wq ⟨a', c', rfl, ho, hb⟩
              have HO := Lib.hid ho
              have HBI := Lib.hid hb
              clear ho
              go_wp2_with fail
              refine hK.out _ _ ?_ (fun hClosed hHeld => ?_)
              · exact ⟨hHeld.1.later hb, hHeld.2.1.later hb, hHeld.2.2.trans (hb.mono hHeld.2.2.size)⟩
              clear hK KK
              (first | simp only [List.getElem_toArray, List.getElem_cons_succ, List.getElem_cons_zero, put_at, List.set] | (try simp only [put_at, List.set]))
              refine wtk (i := 8) (v := ?_) rfl hClosed (Or.inl ⟨by rfl, ?_⟩) hHeld (fun hClosed => ?_)
              rotate_left
              · intro wv hSw; go_simp; all_goals (with_reducible rfl)
              (try simp only [List.getElem_toArray, List.getElem_cons_succ, List.getElem_cons_zero, put_at, List.set])
              refine wpAnyL_last rfl (by kernel_rfl) (by kernel_rfl) (fun KK hK => ?_)
              have o0 := OC0 _ hHeld.1
              have fo := hHeld.1.free hN
              have lo := hHeld.1.lt
              go_simp
              refine hK.out _ _ ?_
              (try simp only [put_at, List.set])
              have HB2 := Lib.hid ((Below.refl wz.heap.size wz).drew.trans HBI.out)
              obtain ⟨bs3, j1, j2, j3, j4⟩ := FtB.rowSet QF.out RW.out HCV.out hN4 HB2.out (l := insQ (rs (hN : Int)) ⟨(id : Int) + 1, ⟨#[104]⟩, xp, pv, 0⟩) (by rw [insQ_len]; exact HO.out) HAB2.out HNE.out
              rw [insQ_len] at j1 j2
              have P9 := Lib.hid (T7.out.ins (r := ⟨(id : Int) + 1, ⟨#[104]⟩, xp, pv, 0⟩) hN4 ⟨by show 1 ≤ (id : Int) + 1; omega, by show (id : Int) + 1 ≤ ((id + 1 : Nat) : Int); omega⟩ HNO.out j1 P5.out j2 j3)
              have J4 := Lib.hid j4
              clear j1 j2 j3 j4 hHeld hClosed RW BR QF T7 P4 P5 HO HBI hb OC0
              go_wp2_with fail
              go_meet
              exact ⟨id + 1, cnt + 1, g2, RD2, RL2, _, _, _, _, _, bs3, by omega, by go_num, by go_num, P9, J4⟩
          have e0 : (xw == 0) = false := beq_eq_false_iff_ne.2 k0
          by_cases k1 : xw = 1
          · as_aux_lemma =>
              subst k1
              obtain ⟨pv, hpv, hpv0, hpv1⟩ : ∃ pv, xr.tmod 8 = pv ∧ 0 ≤ pv ∧ pv ≤ 7 := ⟨_, rfl, by rw [Int.tmod_eq_emod_of_nonneg hp0.1]; omega, by rw [Int.tmod_eq_emod_of_nonneg hp0.1]; omega⟩
              have wpv : IntKind.i64.wrap pv = pv := IntWalk.i64_in _ (by omega)
              have wid : IntKind.i64.wrap ((id : Int) + 1) = (id : Int) + 1 := IntWalk.i64_in _ (by omega)
              go_upto_region 21 with fail
              refine code_forget (fun W => Hid (PlS w W d L id id g RD RL f RF F rs cnt mo room ob A C ((wa.heap.size, .cells #[.int .i64 ((id : Int) + 1), .string ⟨#[104]⟩, .string xp, .int .i64 pv, .int .i64 0] 35 (0, 0)) :: bs1))) (Lib.hid (HQ.out.add _ _)) ?_
              obtain ⟨rb, hrb⟩ : ∃ p, wa.heap.size = p := ⟨_, rfl⟩
              rw [hrb]
              rintro w6 T6
              have HNO := Lib.hid HQ.out.no
              obtain ⟨bs2, hbs2⟩ : ∃ z, ((rb, .cells #[.int .i64 ((id : Int) + 1), .string ⟨#[104]⟩, .string xp, .int .i64 pv, .int .i64 0] 35 (0, 0)) :: bs1 : Bxs) = z := ⟨_, rfl⟩
              have HRB : Hid ((rb, .cells #[.int .i64 ((id : Int) + 1), .string ⟨#[104]⟩, .string xp, .int .i64 pv, .int .i64 0] 35 (0, 0)) ∈ bs2) := Lib.hid (by rw [← hbs2]; exact List.mem_cons_self)
              have HAB2 : Hid ((ab, .cells #[.int .i64 1, .int .i64 xh, .int .i64 xn, .string xp, .int .u8 xr] 33 (0, 0)) ∈ bs2) := Lib.hid (by rw [← hbs2]; exact List.mem_cons_of_mem _ HAB.out)
              rw [hbs2] at T6
              clear hrb hbs2 hpv HQ HAB BA a0 a1 a2 a3 a4
              have hsr : soundR (rcQ ⟨(id : Int) + 1, ⟨#[104]⟩, xp, pv, 0⟩) := ⟨by show (1 : Int) ≤ 1; decide, by show (1 : Int) ≤ 3; decide, by show 0 ≤ (id : Int) + 1; omega, by show (0 : Int) ≤ 0; decide, by show 0 ≤ pv; omega, by show pv ≤ 7; omega, by show (1 : Nat) ≤ 256; decide, by show xp.size ≤ 768; have := HSZ.out; omega⟩
              obtain ⟨g2, hpg, hc2, hl2, hn2⟩ := T6.out.cl.put (by omega) (T6.out.few (by omega)) (r := rcQ ⟨(id : Int) + 1, ⟨#[104]⟩, xp, pv, 0⟩) rfl hsr ⟨by show (id : Int) + 1 < _; omega, by show (0 : Int) < _; decide⟩ (by unfold encR; rw [recB_length, contR_length]; show 6 + (20 + (1 + xp.size)) ≤ 127; have := HSZ.out; omega) (by decide)
              have OR : Hid (okI ((id : Int) + 1)) := Lib.hid (okI_of (by omega) (by omega))
              have PC := Lib.hid (s_put T6.out.fb.ft.sp (rcQ ⟨(id : Int) + 1, ⟨#[104]⟩, xp, pv, 0⟩) rfl OR.out (by omega) (by omega) (by rw [T6.out.n7]; decide) _ hpg)
              have LGX := Lib.hid (fun (W : World) (RD2 RL2 : Nat → Prop) (hb : FtB w d L (32768 + id + 1) g2 RD2 RL2 f id RF F bs2 W) => T6.out.logged (r := ⟨(id : Int) + 1, ⟨#[104]⟩, xp, pv, 0⟩) rfl hb hc2 hl2 hn2)
              unfold rcQ reqL at PC
              dsimp only at PC
              clear hsr hpg hc2 hl2 hn2
              have BR := Lib.hid (T6.out.fb.box HRB.out)
              have r0 := BR.out.cell 0
              have r1 := BR.out.cell 1
              have r2 := BR.out.cell 2
              have r3 := BR.out.cell 3
              have r4 := BR.out.cell 4
              go_wp2_with fail
              refine PC.out.mono ?_
              rintro e w7 ⟨rfl, ha⟩
              obtain ⟨RD2, RL2, ht7⟩ := T6.out.fb.spa ha
              have LGY := LGX.out _ _ _ ht7
              have T7 := Lib.hid LGY.1
              have LD := Lib.hid LGY.2
              clear ha ht7 LGY LGX PC T6 BR r0 r1 r2 r3 r4
              have BA := Lib.hid (T7.out.fb.box HAB2.out)
              have a0 := BA.out.cell 0
              have BR := Lib.hid (T7.out.fb.box HRB.out)
              have r0 := BR.out.cell 0
              have r1 := BR.out.cell 1
              have r2 := BR.out.cell 2
              have r3 := BR.out.cell 3
              have r4 := BR.out.cell 4
              have ISM : Hid ((gA (insF F (hN : Int) ⟨(id : Int) + 1, ⟨#[104]⟩, xp, pv, 0⟩).hs ((id : Int) + 1)).isSome = true) := Lib.hid (by
                show (gA (pA F.hs ((id : Int) + 1) (hN : Int)) ((id : Int) + 1)).isSome = true
                rw [gA_put, if_pos rfl]; rfl)
              have RLN := Lib.hid (T7.out.rl (hN : Int))
              have CNT := Lib.hid T7.out.cnts
              have AD := Lib.hid (ses_back T7.out.fb T7.out.fw (hN : Int) OH.out ⟨(id : Int) + 1, ⟨#[104]⟩, xp, pv, 0⟩ OR.out (by omega) (Or.inl LD.out))
              unfold rqA at AD
              dsimp only at AD
              go_wp2_with fail
              refine AD.out.mono ?_
              rintro e w8 hp
              have hno := HNO.out
              rcases hp with ⟨p1, _⟩ | ⟨_, rfl, R3, p4, p5⟩
              · rw [hno] at p1; cases p1
              have P4 := Lib.hid p4
              have P5 := Lib.hid p5
              clear p4 p5 hno AD BA a0 BR r0 r1 r2 r3 r4
              have AD := Lib.hid (ses_back P4.out P5.out (hN : Int) OH.out ⟨(id : Int) + 1, ⟨#[104]⟩, xp, pv, 0⟩ OR.out (by omega) (Or.inr ISM.out))
              unfold rqA at AD
              dsimp only at AD
              have BR := Lib.hid (P4.out.box HRB.out)
              have r0 := BR.out.cell 0
              have r1 := BR.out.cell 1
              have r2 := BR.out.cell 2
              have r3 := BR.out.cell 3
              have r4 := BR.out.cell 4
              go_wp2_with fail
              refine AD.out.mono ?_
              rintro e wz hp
              rcases hp with ⟨_, rfl, q⟩ | ⟨q, _⟩
              rotate_left
              · have h9 := ISM.out; rw [q] at h9; cases h9
              have QF := Lib.hid q
              clear q AD BR r0 r1 r2 r3 r4
              have RW := Lib.hid (T7.out.pr.via T7.out.cov T7.out.fb QF.out)
              have HCV := Lib.hid T7.out.cov
              have BR := Lib.hid (QF.out.box HRB.out)
              have OC0 : ∀ W, Box W ob (obC A C rs) 38 → W.cell? ⟨ob, hN, none⟩ = some (.slice (A hN) (rs (hN : Int)).length (C hN)) := fun W hb => ob_cell hb hN4
              have wcn : IntKind.i64.wrap (cnt + 1) = cnt + 1 := IntWalk.i64_in _ (by have := CNT.out; omega)
              go_upto_region 32 with fail
              refine wp_region_last 9 (fun w' => Box w' ob (obC A C rs) 38 ∧ Box w' rb #[.int .i64 ((id : Int) + 1), .string ⟨#[104]⟩, .string xp, .int .i64 pv, .int .i64 0] 35 ∧ Below wz.heap.size wz w') (by kernel_rfl) (⟨RW.out.box.drew, BR.out.drew, (Below.refl _ wz).drew⟩) (fun hHeld hClosed => ?_)
              refine wtk (i := 0) (v := ?_) rfl hClosed (Or.inl ⟨by rfl, ?_⟩) hHeld (fun hClosed => ?_)
              rotate_left
              · intro wv hSw; go_simp; all_goals (with_reducible rfl)
              (try simp only [List.getElem_toArray, List.getElem_cons_zero, put_at, List.set])
              refine wtk (i := 1) (v := ?_) rfl hClosed (Or.inl ⟨by rfl, ?_⟩) hHeld (fun hClosed => ?_)
              rotate_left
              · intro wv hSw; go_simp; all_goals (with_reducible rfl)
              (try simp only [List.getElem_toArray, List.getElem_cons_succ, List.getElem_cons_zero, put_at, List.set])
              refine wtk (i := 2) (v := ?_) rfl hClosed (Or.inl ⟨by rfl, ?_⟩) hHeld (fun hClosed => ?_)
              rotate_left
              · intro wv hSw; go_simp; all_goals (with_reducible rfl)
              (try simp only [List.getElem_toArray, List.getElem_cons_succ, List.getElem_cons_zero, put_at, List.set])
              refine wtk (i := 3) (v := ?_) rfl hClosed (Or.inl ⟨by rfl, ?_⟩) hHeld (fun hClosed => ?_)
              rotate_left
              · intro wv hSw; go_simp; all_goals (with_reducible rfl)
              (try simp only [List.getElem_toArray, List.getElem_cons_succ, List.getElem_cons_zero, put_at, List.set])
              refine wtk (i := 4) (v := ?_) rfl hClosed (Or.inl ⟨by rfl, ?_⟩) hHeld (fun hClosed => ?_)
              rotate_left
              · intro wv hSw; go_simp; all_goals (with_reducible rfl)
              (try simp only [List.getElem_toArray, List.getElem_cons_succ, List.getElem_cons_zero, put_at, List.set])
              refine wtk (i := 5) (v := ?_) rfl hClosed (Or.inl ⟨by rfl, ?_⟩) hHeld (fun hClosed => ?_)
              rotate_left
              · intro wv hSw; have o0 := OC0 _ hSw.1; have r0 := hSw.2.1.cell 0; have r1 := hSw.2.1.cell 1; have r2 := hSw.2.1.cell 2; have r3 := hSw.2.1.cell 3; have r4 := hSw.2.1.cell 4; go_simp; all_goals (with_reducible rfl)
              (try simp only [List.getElem_toArray, List.getElem_cons_succ, List.getElem_cons_zero, put_at, List.set])
              refine wtk (i := 6) (v := ?_) rfl hClosed (Or.inl ⟨by rfl, ?_⟩) hHeld (fun hClosed => ?_)
              rotate_left
              · intro wv hSw; have o0 := OC0 _ hSw.1; have r0 := hSw.2.1.cell 0; have r1 := hSw.2.1.cell 1; have r2 := hSw.2.1.cell 2; have r3 := hSw.2.1.cell 3; have r4 := hSw.2.1.cell 4; go_simp; all_goals (with_reducible rfl)
              (try simp only [List.getElem_toArray, List.getElem_cons_succ, List.getElem_cons_zero, put_at, List.set])
              refine wpAnyL_one (i := 7) rfl (by kernel_rfl) (by kernel_rfl) hClosed (fun KK hK => ?_)
              go_simp
              refine (rins_at (rs (hN : Int)) _ rfl (by have := RLN.out; omega) _ _ _ ⟨(id : Int) + 1, ⟨#[104]⟩, xp, pv, 0⟩ _ ((RW.out.later hHeld.2.2).own hN hN4)).mono ?_
              rintro e wq ⟨a', c', rfl, ho, hb⟩
              have HO := Lib.hid ho
              have HBI := Lib.hid hb
              clear ho
              go_wp2_with fail
              refine hK.out _ _ ?_ (fun hClosed hHeld => ?_)
              · exact ⟨hHeld.1.later hb, hHeld.2.1.later hb, hHeld.2.2.trans (hb.mono hHeld.2.2.size)⟩
              clear hK KK
              (first | simp only [List.getElem_toArray, List.getElem_cons_succ, List.getElem_cons_zero, put_at, List.set] | (try simp only [put_at, List.set]))
              refine wtk (i := 8) (v := ?_) rfl hClosed (Or.inl ⟨by rfl, ?_⟩) hHeld (fun hClosed => ?_)
              rotate_left
              · intro wv hSw; go_simp; all_goals (with_reducible rfl)
              (try simp only [List.getElem_toArray, List.getElem_cons_succ, List.getElem_cons_zero, put_at, List.set])
              refine wpAnyL_last rfl (by kernel_rfl) (by kernel_rfl) (fun KK hK => ?_)
              have o0 := OC0 _ hHeld.1
              have fo := hHeld.1.free hN
              have lo := hHeld.1.lt
              go_simp
              refine hK.out _ _ ?_
              (try simp only [put_at, List.set])
              have HB2 := Lib.hid ((Below.refl wz.heap.size wz).drew.trans HBI.out)
              obtain ⟨bs3, j1, j2, j3, j4⟩ := FtB.rowSet QF.out RW.out HCV.out hN4 HB2.out (l := insQ (rs (hN : Int)) ⟨(id : Int) + 1, ⟨#[104]⟩, xp, pv, 0⟩) (by rw [insQ_len]; exact HO.out) HAB2.out HNE.out
              rw [insQ_len] at j1 j2
              have P9 := Lib.hid (T7.out.ins (r := ⟨(id : Int) + 1, ⟨#[104]⟩, xp, pv, 0⟩) hN4 ⟨by show 1 ≤ (id : Int) + 1; omega, by show (id : Int) + 1 ≤ ((id + 1 : Nat) : Int); omega⟩ HNO.out j1 P5.out j2 j3)
              have J4 := Lib.hid j4
              clear j1 j2 j3 j4 hHeld hClosed RW BR QF T7 P4 P5 HO HBI hb OC0
              go_wp2_with fail
              go_meet
              exact ⟨id + 1, cnt + 1, g2, RD2, RL2, _, _, _, _, _, bs3, by omega, by go_num, by go_num, P9, J4⟩
          have e1 : (xw == 1) = false := beq_eq_false_iff_ne.2 k1
          by_cases k2 : xw = 2
          · as_aux_lemma =>
              subst k2
              have HD0 : Hid (DlS w wa d L (32768 + id) id g RD RL f RF F rs xn 0 false ob A C bs1 ab (.cells #[.int .i64 2, .int .i64 xh, .int .i64 xn, .string xp, .int .u8 xr] 33 (0, 0))) := Lib.hid ⟨HQ.out.fb, by rw [flK_0 rs xn HQ.out.oth]; exact HQ.out.pr, HQ.out.cov, HAB.out, ⟨fun h => (by cases h), fun ⟨j, h, _⟩ => absurd h (Nat.not_lt_zero j)⟩⟩
              have CNT := Lib.hid HQ.out.cnts
              have FWX := Lib.hid HQ.out.fw
              have OKX := Lib.hid HQ.out.fb.ft.fr.ok
              have OTH := Lib.hid HQ.out.oth
              have DST := Lib.hid HQ.out.dst
              have RLX := Lib.hid HQ.out.rl
              clear BA a0 a1 a2 a3 a4 HAB
              go_upto_region 36 with fail
              clear e0 e1
              go_wp2_with fail
              go_loopw [13, 20, 21] (fun v13 v20 v21 wy => ∃ (k : Nat) (fd : Bool) (cn : Int) (A1 : Nat → Option Addr) (C1 : Nat → Nat) (bs3 : Bxs), k ≤ 4 ∧ v13 = .int .i64 cn ∧ v20 = .bool fd ∧ v21 = .int .i64 (k : Int) ∧ Hid ((fd = true → cn = cnt - 1) ∧ (fd = false → cn = cnt)) ∧ Hid (DlS w wy d L (32768 + id) id g RD RL f RF F rs xn k fd ob A1 C1 bs3 ab (.cells #[.int .i64 2, .int .i64 xh, .int .i64 xn, .string xp, .int .u8 xr] 33 (0, 0)))) (fun _ _ v21 _ => 4 - (vI v21).toNat)
              case atStart => exact ⟨0, false, cnt, A, C, bs1, by omega, rfl, rfl, rfl, Lib.hid ⟨fun h => (by cases h), fun _ => rfl⟩, HD0⟩
              case round =>
                obtain ⟨k, fd, cn, A1, C1, bs3, hk, rfl, rfl, rfl, HCN, HD⟩ := hrel
                clear HD0
                obtain ⟨wy, rfl⟩ : ∃ W, W = wr := ⟨_, rfl⟩
                by_cases hk4 : k < 4
                · have dk4 : decide ((k : Int) < 4) = true := decide_eq_true (by omega)
                  have BA := Lib.hid (HD.out.fb.box HD.out.hab)
                  have a2 := BA.out.cell 2
                  have RLN := Lib.hid (RLX.out (k : Int))
                  obtain ⟨n, hn⟩ : ∃ n, (rs (k : Int)).length = n := ⟨_, rfl⟩
                  have oc : wy.cell? ⟨ob, k, none⟩ = some (.slice (A1 k) n (C1 k)) := by
                    have h9 := HD.out.pr.cell hk4
                    rw [flK_at, hn] at h9
                    exact h9
                  obtain ⟨v, hv⟩ : ∃ v, atQ (rs (k : Int)) xn = v := ⟨_, rfl⟩
                  have AT : ∀ j, Hid (Calls Tryz.prog 13 #[.slice (A1 k) n (C1 k), .int .i64 xn] (wy.drewN j) fun e w' => e = .returned (.int .i64 v) ∧ w' = wy.drewN j) := fun j => Lib.hid (by
                    have h9 := HD.out.pr.own k hk4
                    rw [flK_at] at h9
                    have h8 := at_at (rs (k : Int)) n hn (by have := RLN.out; omega) (A1 k) (C1 k) xn (wy.drewN j) (h9.rdQ.later (dk_drewN (Below.refl _ wy) j))
                    rw [hv] at h8
                    exact h8)
                  have HV := Lib.hid hv
                  have HNN := Lib.hid hn
                  have hx20 : (0 : Int) ≤ (k : Int) := by omega
                  have hx21 : (k : Int) < 4 := by omega
                  have wkk : IntKind.i64.wrap (k : Int) = (k : Int) := IntWalk.i64_in _ (by omega)
                  clear hv hn
                  go_upto_region 39 with fail
                  go_quiet ((go_at_call 13; exact Calls.quiet_of_same ((AT _).out)))
                  have HD2 := Lib.hid (HD.out.later (dk_drewN (Below.refl _ wy) nq))
                  obtain ⟨wz, hwz⟩ : ∃ W, wy.drewN nq = W := ⟨_, rfl⟩
                  rw [hwz] at HD2
                  rw [hwz]
                  clear hwz AT oc a2 BA HD
                  obtain ⟨q, hq⟩ : ∃ q, (rs (k : Int)).any (idB xn) = q := ⟨_, rfl⟩
                  have HQV : Hid (decide (0 ≤ v) = q) := Lib.hid (by rw [← HV.out, ← hq]; exact atQ_any _ _)
                  have HQ9 := Lib.hid hq
                  clear hq
                  cases q with
                  | false =>
                    have dv : decide (0 ≤ v) = false := HQV.out
                    have nv : ¬ 0 ≤ v := of_decide_eq_false HQV.out
                    go_wp2_with fail
                    go_roundw
                    case rel => exact ⟨k + 1, fd, cn, A1, C1, bs3, by omega, rfl, rfl, by go_num, HCN, Lib.hid (HD2.out.skip HQ9.out)⟩
                    case measure => exact cra_ms 4 k hk4
                  | true =>
                    obtain ⟨j, hj1, hjl, hj2⟩ := atQ_in (DST.out (k : Int)) HQ9.out
                    obtain rfl : (j : Int) = v := by rw [← HV.out, hj1]
                    have dv : decide ((0 : Int) ≤ (j : Int)) = true := decide_eq_true (by omega)
                    have HGK := Lib.hid (any_host FWX.out OKX.out HQ9.out)
                    have FDF : Hid (fd = false) := Lib.hid (by
                      cases fd with
                      | false => rfl
                      | true =>
                        obtain ⟨j2, h1, h2⟩ := HD2.out.fnd.1 rfl
                        have h3 := any_host FWX.out OKX.out h2
                        rw [HGK.out] at h3
                        injection h3 with h3
                        omega)
                    have hfd := FDF.out
                    subst hfd
                    obtain rfl : cn = cnt := HCN.out.2 rfl
                    have HJ2 := Lib.hid hj2
                    have HHT : Hid (Calls Tryz.prog 14 #[.pointer (some ⟨f, 0, none⟩), .int .i64 xn] wz fun e w' => e = .returned (.tuple #[.int .i64 (k : Int), .bool true]) ∧ w' = wz) := Lib.hid (by
                      have h9 := fhost_at HD2.out.fb.ft.fr xn XN.out
                      rw [HGK.out] at h9
                      exact h9)
                    have BA := Lib.hid (HD2.out.fb.box HD2.out.hab)
                    have a2 := BA.out.cell 2
                    clear hj1 hj2
                    go_wp2_with fail
                    refine HHT.out.mono ?_
                    rintro e wz2 ⟨rfl, hw⟩
                    subst wz2
                    clear HHT a2 BA
                    have RW := Lib.hid HD2.out.pr
                    have HCV := Lib.hid HD2.out.cov
                    have HABd := Lib.hid HD2.out.hab
                    have HDF := Lib.hid HD2.out.fb
                    obtain ⟨gk, hgk⟩ : ∃ gk, A1 k = some ⟨gk, 0, none⟩ := by
                      have h9 := HD2.out.pr.own k hk4
                      rw [flK_at] at h9
                      obtain ⟨gk, h8, _⟩ := h9.some_ (by omega)
                      exact ⟨gk, h8⟩
                    have HAK := Lib.hid hgk
                    have OCK : ∀ W, Box W ob (obC A1 C1 (flK rs xn k)) 38 → W.cell? ⟨ob, k, none⟩ = some (.slice (some ⟨gk, 0, none⟩) (rs (k : Int)).length (C1 k)) := fun W hb => by
                      have h9 := ob_cell hb hk4
                      rw [flK_at, HAK.out] at h9
                      exact h9
                    have wcn : IntKind.i64.wrap (cn - 1) = cn - 1 := IntWalk.i64_in _ (by have := CNT.out; omega)
                    clear hgk
                    have o0 := OCK _ RW.out.box
                    go_wp2_with fail
                    refine (rwo_at (rs (k : Int)) _ rfl (by have := RLN.out; omega) _ _ _ j hjl _ (by have h9 := RW.out.own k hk4; rw [flK_at, HAK.out] at h9; exact h9)).mono ?_
                    rintro e wq ⟨a', c', rfl, ho, hb⟩
                    have HO := Lib.hid ho
                    have HBI := Lib.hid hb
                    have BQ := Lib.hid (RW.out.box.later hb)
                    clear ho hb o0
                    have o0 := OCK _ BQ.out
                    have fo := BQ.out.free k
                    have lo := BQ.out.lt
                    have HB2 := HBI
                    have hlf : ((rs (k : Int)).filter fun y => !idB xn y).length = (rs (k : Int)).length - 1 := by
                      rw [← HJ2.out, List.length_append, List.length_take, List.length_drop]
                      omega
                    obtain ⟨bs4, j1, j2, j3, j4⟩ := FtB.rowSet HDF.out RW.out HCV.out hk4 HB2.out (l := (rs (k : Int)).filter fun y => !idB xn y) (by rw [hlf, ← HJ2.out]; exact HO.out) HABd.out HNE.out
                    rw [flK_yes] at j2
                    rw [hlf] at j1 j2
                    have P9 : Hid (DlS w _ d L (32768 + id) id g RD RL f RF F rs xn (k + 1) true ob _ _ bs4 ab _) := Lib.hid ⟨j1, j2, j3, j4, ⟨fun _ => ⟨k, by omega, HQ9.out⟩, fun _ => rfl⟩⟩
                    clear j1 j2 j3 j4 RW HDF HD2 HO HBI OCK
                    go_wp2_with fail
                    go_roundw
                    case rel => exact ⟨k + 1, true, cn - 1, _, _, bs4, by omega, by go_num, rfl, by go_num, Lib.hid ⟨fun _ => rfl, fun h => (by cases h)⟩, P9⟩
                    case measure => exact cra_ms 4 k hk4
                · obtain rfl : k = 4 := by omega
                  have dk4 : decide (((4 : Nat) : Int) < 4) = false := by decide
                  have BA := Lib.hid (HD.out.fb.box HD.out.hab)
                  have a2 := BA.out.cell 2
                  have DR := Lib.hid (ses_drop HD.out.fb FWX.out xn XN.out (by omega))
                  go_wp2_with fail
                  refine DR.out.mono ?_
                  rintro e wz hp
                  rcases hp with ⟨p1, rfl, p3⟩ | ⟨xx, R5, p1, rfl, p3, p4⟩
                  · have hfd : fd = false := by
                      cases fd with
                      | false => rfl
                      | true =>
                        obtain ⟨j2, h1, h2⟩ := HD.out.fnd.1 rfl
                        have h3 := any_host FWX.out OKX.out h2
                        rw [p1] at h3
                        cases h3
                    subst hfd
                    obtain rfl : cn = cnt := HCN.out.2 rfl
                    have PN := Lib.hid (HQ.out.none_ p1 p3 (HD.out.pr.via HD.out.cov HD.out.fb p3) HD.out.cov)
                    have J4 := Lib.hid HD.out.hab
                    clear p1 p3 DR HD HQ a2 BA
                    go_wp2_with fail
                    go_meet
                    exact ⟨id, cn, g, RD, RL, RF, F, rs, A1, C1, bs3, by omega, rfl, rfl, PN, J4⟩
                  · have hfd : fd = true := HD.out.fnd.2 (by
                      have h3 := host_any FWX.out OKX.out p1
                      by_cases h4 : xx < 0 ∨ 4 ≤ xx
                      · rw [OTH.out xx h4] at h3; cases h3
                      · exact ⟨xx.toNat, by omega, by rw [show ((xx.toNat : Nat) : Int) = xx by omega]; exact h3⟩)
                    subst hfd
                    obtain rfl : cn = cnt - 1 := HCN.out.1 rfl
                    have PN := Lib.hid (HQ.out.gone p1 p3 p4 (HD.out.pr.via HD.out.cov HD.out.fb p3) HD.out.cov)
                    have J4 := Lib.hid HD.out.hab
                    clear p1 p3 p4 DR HD HQ a2 BA
                    go_wp2_with fail
                    go_meet
                    exact ⟨id, cnt - 1, g, RD, RL, R5, _, _, A1, C1, bs3, by omega, rfl, rfl, PN, J4⟩
          have e2 : (xw == 2) = false := beq_eq_false_iff_ne.2 k2
          go_wp2_with fail
          go_meet
          exact ⟨id, cnt, g, RD, RL, RF, F, rs, A, C, bs1, by omega, rfl, rfl, HQ, HAB⟩
        case rest => as_aux_lemma =>
          obtain ⟨id2, cnt2, g2, RD2, RL2, RF2, F2, rs2, A2, C2, bs2, hid2, rfl, rfl, HQ2, HAB2⟩ := hcut
          obtain ⟨wt, hwt⟩ : ∃ W, wc = W := ⟨_, rfl⟩
          rw [hwt] at HQ2 ⊢
          clear hwt HQ HAB BA a0 a1 a2 a3 a4
          obtain ⟨M, hM⟩ : ∃ M, F2.hs.length = M := ⟨_, rfl⟩
          obtain rfl : (M : Int) = cnt2 := by rw [← HQ2.out.hl, hM]
          have HM := Lib.hid hM
          clear hM
          have FS := Lib.hid (ses_first HQ2.out.fb HQ2.out.fw (hN : Int) OH.out (by omega))
          unfold SesF at FS
          cases hr : rs2 (hN : Int) with
          | nil =>
            rw [hr] at FS
            unfold rqA rq0 at FS
            dsimp only at FS
            have HR := Lib.hid hr
            clear hr
            go_wp2_with fail
            refine FS.out.mono ?_
            rintro e w5 ⟨rfl, hf⟩
            have P5 := Lib.hid (HQ2.out.same hf)
            clear hf FS HQ2
            go_upto_region 50 with fail
            refine code_forget (fun W => Hid (PlS w W d L id2 id2 g2 RD2 RL2 f RF2 F2 rs2 (M : Int) mo room ob A2 C2 ((w5.heap.size, .cells #[.int .i64 0, .string ⟨#[]⟩, .string ⟨#[]⟩, .int .i64 0, .int .i64 0] 35 (0, 0)) :: bs2))) (Lib.hid (P5.out.add _ _)) ?_
            obtain ⟨yb, hyb⟩ : ∃ p, w5.heap.size = p := ⟨_, rfl⟩
            rw [hyb]
            clear hyb P5
            rintro w6 P6
            have oc := P6.out.pr.cell hN4
            rw [HR.out] at oc
            replace oc : w6.cell? ⟨ob, hN, none⟩ = some (.slice (A2 hN) 0 (C2 hN)) := oc
            have LL : ∀ j, Hid (Calls Tryz.prog 18 #[.pointer (some ⟨f, 0, none⟩), .int .i64 (hN : Int)] (w6.drewN j) fun e w' => e = .returned (.int .i64 ((0 : Nat) : Int)) ∧ w' = w6.drewN j) := fun j => Lib.hid (flen_at (P6.out.fb.ft.fr.later (dk_drewN (Below.refl _ w6) j)) (hN : Int) OH.out 0 (by rw [P6.out.fw.R, HR.out]; rfl))
            have CC : ∀ j, Hid (Calls Tryz.prog 19 #[.pointer (some ⟨f, 0, none⟩)] (w6.drewN j) fun e w' => e = .returned (.int .i64 (M : Int)) ∧ w' = w6.drewN j) := fun j => Lib.hid (fcount_at (P6.out.fb.ft.fr.later (dk_drewN (Below.refl _ w6) j)) M HM.out)
            obtain ⟨M4, hM4⟩ : ∃ M, F2.ps.length = M := ⟨_, rfl⟩
            have hml : ¬ (k9 + 1) < (M4 : Int) := by
              have h9 : (F2.ps.length : Int) ≤ F2.mem := P6.out.fb.ft.fr.ok.lim
              have := P6.out.mem
              have := HRO.out
              omega
            have dml : decide ((k9 + 1) < (M4 : Int)) = false := decide_eq_false hml
            have MM : ∀ j, Hid (Calls Tryz.prog 20 #[.pointer (some ⟨f, 0, none⟩)] (w6.drewN j) fun e w' => e = .returned (.int .i64 (M4 : Int)) ∧ w' = w6.drewN j) := fun j => Lib.hid (fmem_at (P6.out.fb.ft.fr.later (dk_drewN (Below.refl _ w6) j)) M4 hM4)
            clear hM4
            go_quiet (first | (go_at_call 18; exact Calls.quiet_of_same ((LL _).out)) | (go_at_call 19; exact Calls.quiet_of_same ((CC _).out)) | (go_at_call 20; exact Calls.quiet_of_same ((MM _).out)))
            have P7 := Lib.hid (P6.out.later (dk_drewN (Below.refl _ w6) nq))
            obtain ⟨w7, hw7⟩ : ∃ W, w6.drewN nq = W := ⟨_, rfl⟩
            rw [hw7] at P7
            rw [hw7]
            have HAB3 := Lib.hid (List.mem_cons_of_mem (yb, (.cells #[.int .i64 0, .string ⟨#[]⟩, .string ⟨#[]⟩, .int .i64 0, .int .i64 0] 35 (0, 0) : Obj)) HAB2.out)
            clear hw7 LL CC MM oc P6
            obtain ⟨bs5, hbs5⟩ : ∃ z, ((yb, .cells #[.int .i64 0, .string ⟨#[]⟩, .string ⟨#[]⟩, .int .i64 0, .int .i64 0] 35 (0, 0)) :: bs2 : Bxs) = z := ⟨_, rfl⟩
            rw [hbs5] at P7 HAB3
            clear hbs5
            obtain ⟨n, hn⟩ : ∃ n, (rs2 (hN : Int)).length = n := ⟨_, rfl⟩
            have HNX := Lib.hid hn
            clear hn
            have hnb : n ≤ 26 := by have h9 := P7.out.rl (hN : Int); rw [HNX.out] at h9; omega
            obtain ⟨hv, hhv⟩ : ∃ q, ((rs2 (hN : Int)).any fun r => r.path.toList == xp.toList) = q := ⟨_, rfl⟩
            have HHV := Lib.hid hhv
            have HSC := Lib.hid (fun (W : World) (hW : Below w7.heap.size w7 W) => ses_has (P7.out.fb.later hW) P7.out.fw (hN : Int) OH.out (by omega) xp hv hhv)
            clear hhv
            go_wp2_with fail
            go_loopw [27, 28] (fun v27 v28 wy => ∃ (k : Nat) (hb : Bool), k ≤ n ∧ v27 = .bool hb ∧ v28 = .int .i64 (k : Int) ∧ Hid (Below w7.heap.size w7 wy) ∧ Hid (((rs2 (hN : Int)).take k).any (fun r => r.path.toList == xp.toList) = hb)) (fun _ v28 _ => n - (vI v28).toNat)
            case atStart => exact ⟨0, false, by omega, rfl, rfl, Lib.hid (Below.refl _ _), Lib.hid rfl⟩
            case round =>
              obtain ⟨k, hb, hk, rfl, rfl, BY, HTK⟩ := hrel
              obtain ⟨wy, rfl⟩ : ∃ W, W = wr := ⟨_, rfl⟩
              have PR := Lib.hid (P7.out.pr.later BY.out)
              have oc := PR.out.cell hN4
              rw [HNX.out] at oc
              by_cases hlt : k < n
              · have dk : decide ((k : Int) < (n : Int)) = true := decide_eq_true (by omega)
                obtain ⟨gk, hgk⟩ : ∃ gk, A2 hN = some ⟨gk, 0, none⟩ := by
                  obtain ⟨gk, h8, _⟩ := (PR.out.own hN hN4).some_ (by have := HNX.out; omega)
                  exact ⟨gk, h8⟩
                rw [hgk] at oc
                have own := PR.out.own hN hN4
                rw [hgk] at own
                obtain ⟨z, hz⟩ : ∃ z, (rs2 (hN : Int))[k]? = some z := ⟨_, List.getElem?_eq_getElem (by rw [HNX.out]; exact hlt)⟩
                have m2 : wy.cell? ⟨gk, k * 5 + 2, none⟩ = some (.string z.path) := own.cell (rqC_get hz 2 (by omega))
                obtain ⟨zp, hzp⟩ : ∃ p, z.path = p := ⟨_, rfl⟩
                rw [hzp] at m2
                obtain ⟨q, hq⟩ : ∃ q, (zp.toList == xp.toList) = q := ⟨_, rfl⟩
                have NXT : Hid (((rs2 (hN : Int)).take (k + 1)).any (fun r => r.path.toList == xp.toList) = (hb || q)) := Lib.hid (by
                  have e9 : (rs2 (hN : Int)).take (k + 1) = (rs2 (hN : Int)).take k ++ [z] := by
                    rw [List.take_add_one, hz]
                    rfl
                  rw [e9, List.any_append, HTK.out, List.any_cons, List.any_nil, Bool.or_false, hzp, hq])
                have BA := Lib.hid ((P7.out.fb.later BY.out).box HAB3.out)
                have a3 := BA.out.cell 3
                have hx30 : (0 : Int) ≤ (k : Int) := by omega
                have hx31 : (k : Int) < (n : Int) := by omega
                have wkk : IntKind.i64.wrap (k : Int) = (k : Int) := IntWalk.i64_in _ (by omega)
                clear hgk own hz hzp
                go_upto_region 56 with fail
                cases hb with
                | true =>
                  go_quiet (fail)
                  have B2 := Lib.hid (dk_drewN BY.out nq)
                  have NX2 : Hid (((rs2 (hN : Int)).take (k + 1)).any (fun r => r.path.toList == xp.toList) = true) := Lib.hid (by rw [NXT.out]; rfl)
                  clear hq
                  go_wp2_with fail
                  go_roundw
                  case rel => exact ⟨k + 1, true, by omega, rfl, by go_num, B2, NX2⟩
                  case measure =>
                    simp only [vI]
                    omega
                | false =>
                  go_quiet (fail)
                  have B2 := Lib.hid (dk_drewN BY.out nq)
                  have NX2 : Hid (((rs2 (hN : Int)).take (k + 1)).any (fun r => r.path.toList == xp.toList) = q) := Lib.hid (by rw [NXT.out]; rfl)
                  go_wp2_with fail
                  go_roundw
                  case rel => exact ⟨k + 1, q, by omega, (by first | rfl | rw [hq]), by go_num, B2, NX2⟩
                  case measure =>
                    simp only [vI]
                    omega
              · obtain rfl : k = n := by omega
                have dk : decide ((k : Int) < (k : Int)) = false := decide_eq_false (by omega)
                obtain rfl : hv = hb := by
                  rw [← HHV.out, ← HTK.out]
                  rw [List.take_of_length_le (by rw [HNX.out]; exact Nat.le_refl _)]
                have HSW := Lib.hid (HSC.out wy BY.out)
                have BA := Lib.hid ((P7.out.fb.later BY.out).box HAB3.out)
                have a3 := BA.out.cell 3
                go_wp2_with fail
                refine HSW.out.mono ?_
                rintro e w8 ⟨rfl, hf⟩
                have P8 := Lib.hid (P7.out.same hf)
                clear hf HSW HSC P7 oc PR a3 BA
                cases hv with
                | true =>
                  go_wp2_with fail
                  go_roundw
                  case rel => exact ⟨i + 1, id2, _, g2, RD2, RL2, RF2, _, rs2, A2, C2, bs5, by omega, by omega, by omega, rfl, rfl, by go_num, P8⟩
                  case measure => exact cra_ms 60 i (by omega)
                | false =>
                  go_wp2_with fail
                  go_roundw
                  case rel => exact ⟨i + 1, id2, _, g2, RD2, RL2, RF2, _, rs2, A2, C2, bs5, by omega, by omega, by omega, rfl, rfl, by go_num, P8⟩
                  case measure => exact cra_ms 60 i (by omega)
          | cons r t =>
            rw [hr] at FS
            obtain ⟨yi, yh, yp, yr, yt⟩ := r
            unfold rqA at FS
            dsimp only at FS
            have HR := Lib.hid hr
            clear hr
            go_wp2_with fail
            refine FS.out.mono ?_
            rintro e w5 ⟨rfl, S', hf, hw, _⟩
            have P5 := Lib.hid (HQ2.out.kep hf hw)
            clear hf hw FS HQ2
            obtain ⟨F3, hF3⟩ : ∃ G, (⟨F2.per, F2.mem, F2.R, F2.hs, S'⟩ : Ft) = G := ⟨_, rfl⟩
            have HM3 : Hid (F3.hs.length = M) := Lib.hid (by rw [← hF3]; exact HM.out)
            rw [hF3] at P5
            clear hF3 HM
            go_upto_region 50 with fail
            refine code_forget (fun W => Hid (PlS w W d L id2 id2 g2 RD2 RL2 f RF2 F3 rs2 (M : Int) mo room ob A2 C2 ((w5.heap.size, .cells #[.int .i64 yi, .string yh, .string yp, .int .i64 yr, .int .i64 yt] 35 (0, 0)) :: bs2))) (Lib.hid (P5.out.add _ _)) ?_
            obtain ⟨yb, hyb⟩ : ∃ p, w5.heap.size = p := ⟨_, rfl⟩
            rw [hyb]
            clear hyb P5
            rintro w6 P6
            obtain ⟨n, hn⟩ : ∃ n, (rs2 (hN : Int)).length = n := ⟨_, rfl⟩
            have hn0 : 0 < n := by rw [← hn, HR.out]; simp
            obtain ⟨gk, hgk⟩ : ∃ gk, A2 hN = some ⟨gk, 0, none⟩ := by
              obtain ⟨gk, h8, _⟩ := (P6.out.pr.own hN hN4).some_ (by omega)
              exact ⟨gk, h8⟩
            have oc := P6.out.pr.cell hN4
            rw [hn, hgk] at oc
            have own := P6.out.pr.own hN hN4
            rw [hgk, HR.out] at own
            have m0 : w6.cell? ⟨gk, 0, none⟩ = some (.int .i64 yi) := own.cell rfl
            have m1 : w6.cell? ⟨gk, 1, none⟩ = some (.string yh) := own.cell rfl
            have m2 : w6.cell? ⟨gk, 2, none⟩ = some (.string yp) := own.cell rfl
            have m3 : w6.cell? ⟨gk, 3, none⟩ = some (.int .i64 yr) := own.cell rfl
            have m4 : w6.cell? ⟨gk, 4, none⟩ = some (.int .i64 yt) := own.cell rfl
            have BY := Lib.hid (P6.out.fb.box List.mem_cons_self)
            have y0 := BY.out.cell 0
            have y1 := BY.out.cell 1
            have y2 := BY.out.cell 2
            have y3 := BY.out.cell 3
            have y4 := BY.out.cell 4
            have qn := qrq_neq yi yh yp yr yt
            have dn : decide ((0 : Int) < (n : Int)) = true := decide_eq_true (by omega)
            have hn1 : (0 : Int) < (n : Int) := by omega
            have LL : ∀ j, Hid (Calls Tryz.prog 18 #[.pointer (some ⟨f, 0, none⟩), .int .i64 (hN : Int)] (w6.drewN j) fun e w' => e = .returned (.int .i64 (n : Int)) ∧ w' = w6.drewN j) := fun j => Lib.hid (flen_at (P6.out.fb.ft.fr.later (dk_drewN (Below.refl _ w6) j)) (hN : Int) OH.out n (by rw [P6.out.fw.R, List.length_map, hn]))
            have CC : ∀ j, Hid (Calls Tryz.prog 19 #[.pointer (some ⟨f, 0, none⟩)] (w6.drewN j) fun e w' => e = .returned (.int .i64 (M : Int)) ∧ w' = w6.drewN j) := fun j => Lib.hid (fcount_at (P6.out.fb.ft.fr.later (dk_drewN (Below.refl _ w6) j)) M HM3.out)
            obtain ⟨M4, hM4⟩ : ∃ M, F3.ps.length = M := ⟨_, rfl⟩
            have hml : ¬ (k9 + 1) < (M4 : Int) := by
              have h9 : (F3.ps.length : Int) ≤ F3.mem := P6.out.fb.ft.fr.ok.lim
              have := P6.out.mem
              have := HRO.out
              omega
            have dml : decide ((k9 + 1) < (M4 : Int)) = false := decide_eq_false hml
            have MM : ∀ j, Hid (Calls Tryz.prog 20 #[.pointer (some ⟨f, 0, none⟩)] (w6.drewN j) fun e w' => e = .returned (.int .i64 (M4 : Int)) ∧ w' = w6.drewN j) := fun j => Lib.hid (fmem_at (P6.out.fb.ft.fr.later (dk_drewN (Below.refl _ w6) j)) M4 hM4)
            have HNX := Lib.hid hn
            clear hM4 own hgk hn
            go_quiet (first | (go_at_call 18; exact Calls.quiet_of_same ((LL _).out)) | (go_at_call 19; exact Calls.quiet_of_same ((CC _).out)) | (go_at_call 20; exact Calls.quiet_of_same ((MM _).out)))
            have P7 := Lib.hid (P6.out.later (dk_drewN (Below.refl _ w6) nq))
            obtain ⟨w7, hw7⟩ : ∃ W, w6.drewN nq = W := ⟨_, rfl⟩
            rw [hw7] at P7
            rw [hw7]
            have HAB3 := Lib.hid (List.mem_cons_of_mem (yb, (.cells #[.int .i64 yi, .string yh, .string yp, .int .i64 yr, .int .i64 yt] 35 (0, 0) : Obj)) HAB2.out)
            clear hw7 LL CC MM oc P6 m0 m1 m2 m3 m4 y0 y1 y2 y3 y4 BY qn
            obtain ⟨bs5, hbs5⟩ : ∃ z, ((yb, .cells #[.int .i64 yi, .string yh, .string yp, .int .i64 yr, .int .i64 yt] 35 (0, 0)) :: bs2 : Bxs) = z := ⟨_, rfl⟩
            rw [hbs5] at P7 HAB3
            clear hbs5
            have hnb : n ≤ 26 := by have h9 := P7.out.rl (hN : Int); rw [HNX.out] at h9; omega
            obtain ⟨hv, hhv⟩ : ∃ q, ((rs2 (hN : Int)).any fun r => r.path.toList == xp.toList) = q := ⟨_, rfl⟩
            have HHV := Lib.hid hhv
            have HSC := Lib.hid (fun (W : World) (hW : Below w7.heap.size w7 W) => ses_has (P7.out.fb.later hW) P7.out.fw (hN : Int) OH.out (by omega) xp hv hhv)
            clear hhv
            go_wp2_with fail
            go_loopw [27, 28] (fun v27 v28 wy => ∃ (k : Nat) (hb : Bool), k ≤ n ∧ v27 = .bool hb ∧ v28 = .int .i64 (k : Int) ∧ Hid (Below w7.heap.size w7 wy) ∧ Hid (((rs2 (hN : Int)).take k).any (fun r => r.path.toList == xp.toList) = hb)) (fun _ v28 _ => n - (vI v28).toNat)
            case atStart => exact ⟨0, false, by omega, rfl, rfl, Lib.hid (Below.refl _ _), Lib.hid rfl⟩
            case round =>
              obtain ⟨k, hb, hk, rfl, rfl, BY, HTK⟩ := hrel
              obtain ⟨wy, rfl⟩ : ∃ W, W = wr := ⟨_, rfl⟩
              have PR := Lib.hid (P7.out.pr.later BY.out)
              have oc := PR.out.cell hN4
              rw [HNX.out] at oc
              by_cases hlt : k < n
              · have dk : decide ((k : Int) < (n : Int)) = true := decide_eq_true (by omega)
                obtain ⟨gk, hgk⟩ : ∃ gk, A2 hN = some ⟨gk, 0, none⟩ := by
                  obtain ⟨gk, h8, _⟩ := (PR.out.own hN hN4).some_ (by have := HNX.out; omega)
                  exact ⟨gk, h8⟩
                rw [hgk] at oc
                have own := PR.out.own hN hN4
                rw [hgk] at own
                obtain ⟨z, hz⟩ : ∃ z, (rs2 (hN : Int))[k]? = some z := ⟨_, List.getElem?_eq_getElem (by rw [HNX.out]; exact hlt)⟩
                have m2 : wy.cell? ⟨gk, k * 5 + 2, none⟩ = some (.string z.path) := own.cell (rqC_get hz 2 (by omega))
                obtain ⟨zp, hzp⟩ : ∃ p, z.path = p := ⟨_, rfl⟩
                rw [hzp] at m2
                obtain ⟨q, hq⟩ : ∃ q, (zp.toList == xp.toList) = q := ⟨_, rfl⟩
                have NXT : Hid (((rs2 (hN : Int)).take (k + 1)).any (fun r => r.path.toList == xp.toList) = (hb || q)) := Lib.hid (by
                  have e9 : (rs2 (hN : Int)).take (k + 1) = (rs2 (hN : Int)).take k ++ [z] := by
                    rw [List.take_add_one, hz]
                    rfl
                  rw [e9, List.any_append, HTK.out, List.any_cons, List.any_nil, Bool.or_false, hzp, hq])
                have BA := Lib.hid ((P7.out.fb.later BY.out).box HAB3.out)
                have a3 := BA.out.cell 3
                have hx30 : (0 : Int) ≤ (k : Int) := by omega
                have hx31 : (k : Int) < (n : Int) := by omega
                have wkk : IntKind.i64.wrap (k : Int) = (k : Int) := IntWalk.i64_in _ (by omega)
                clear hgk own hz hzp
                go_upto_region 56 with fail
                cases hb with
                | true =>
                  go_quiet (fail)
                  have B2 := Lib.hid (dk_drewN BY.out nq)
                  have NX2 : Hid (((rs2 (hN : Int)).take (k + 1)).any (fun r => r.path.toList == xp.toList) = true) := Lib.hid (by rw [NXT.out]; rfl)
                  clear hq
                  go_wp2_with fail
                  go_roundw
                  case rel => exact ⟨k + 1, true, by omega, rfl, by go_num, B2, NX2⟩
                  case measure =>
                    simp only [vI]
                    omega
                | false =>
                  go_quiet (fail)
                  have B2 := Lib.hid (dk_drewN BY.out nq)
                  have NX2 : Hid (((rs2 (hN : Int)).take (k + 1)).any (fun r => r.path.toList == xp.toList) = q) := Lib.hid (by rw [NXT.out]; rfl)
                  go_wp2_with fail
                  go_roundw
                  case rel => exact ⟨k + 1, q, by omega, (by first | rfl | rw [hq]), by go_num, B2, NX2⟩
                  case measure =>
                    simp only [vI]
                    omega
              · obtain rfl : k = n := by omega
                have dk : decide ((k : Int) < (k : Int)) = false := decide_eq_false (by omega)
                obtain rfl : hv = hb := by
                  rw [← HHV.out, ← HTK.out]
                  rw [List.take_of_length_le (by rw [HNX.out]; exact Nat.le_refl _)]
                have HSW := Lib.hid (HSC.out wy BY.out)
                have BA := Lib.hid ((P7.out.fb.later BY.out).box HAB3.out)
                have a3 := BA.out.cell 3
                go_wp2_with fail
                refine HSW.out.mono ?_
                rintro e w8 ⟨rfl, hf⟩
                have P8 := Lib.hid (P7.out.same hf)
                clear hf HSW HSC P7 oc PR a3 BA
                cases hv with
                | true =>
                  go_wp2_with fail
                  go_roundw
                  case rel => exact ⟨i + 1, id2, _, g2, RD2, RL2, RF2, _, rs2, A2, C2, bs5, by omega, by omega, by omega, rfl, rfl, by go_num, P8⟩
                  case measure => exact cra_ms 60 i (by omega)
                | false =>
                  go_wp2_with fail
                  go_roundw
                  case rel => exact ⟨i + 1, id2, _, g2, RD2, RL2, RF2, _, rs2, A2, C2, bs5, by omega, by omega, by omega, rfl, rfl, by go_num, P8⟩
                  case measure => exact cra_ms 60 i (by omega)
    · have B1 := Lib.hid HQ.out.fb.ft.bl
      have AW := Lib.hid (awake17_at wo (HN.out.later B1.out))
      clear HQ
      by_cases k1 : i < len
      · have d1 : decide ((i : Int) < (len : Int)) = true := decide_eq_true (by omega)
        have d2 : decide ((i : Int) < 60) = false := decide_eq_false (by omega)
        go_wp2_with fail
        refine AW.out.mono ?_
        rintro e w5 ⟨rfl, hb⟩
        have BF := Lib.hid (B1.out.trans (hb.mono B1.out.size))
        clear hb AW
        go_wp2_with fail
        go_ret
        exact ⟨rfl, BF.out⟩
      · have d1 : decide ((i : Int) < (len : Int)) = false := decide_eq_false (by omega)
        go_wp2_with fail
        refine AW.out.mono ?_
        rintro e w5 ⟨rfl, hb⟩
        have BF := Lib.hid (B1.out.trans (hb.mono B1.out.size))
        clear hb AW
        go_wp2_with fail
        go_ret
        exact ⟨rfl, BF.out⟩
end Go.Proofs.YtimkgaokcldgkaaGreatDoor
