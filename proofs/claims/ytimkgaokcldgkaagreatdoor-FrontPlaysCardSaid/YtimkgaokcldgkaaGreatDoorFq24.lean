/- Part of a chain: SpRd, SpRep, SpLog, SpNil. -/
import Derived.Test.YtimkgaokcldgkaaGreatDoorFq21
import Derived.Test.YtimkgaokcldgkaaGreatDoorFq23
import Derived.Test.YtimkgaokcldgkaaGreatDoorFq17
/- Package spill: read. -/
namespace Go.Proofs.YtimkgaokcldgkaaGreatDoor
open Go Go.RowKit Go.Maps
set_option linter.unusedVariables false
set_option linter.unusedSimpArgs false
set_option maxRecDepth 100000

section
variable {P : Program} {ops : Array Oper} {rest : List Oper} {o : Oper} {act : Act} {Q : Exit → Act → World → Prop} {w : World}
/-- A store of a whole struct into a box. -/
theorem wpList_storeRow (hgd : o.guard = none) {ty : TypeId} {x y : Operand} (ho : o.op = .store ty x y) {g : Nat} {cells cs : Array Value} {t : TypeId} (hx : act.eval x = .pointer (some ⟨g, 0, none⟩)) (hy : act.eval y = .agg cells)
    (hb : Box w g cs t) (hn : cs.size = cells.size) (hi : cellsFor P ty = some cells.size) (h1 : cells.all (·.oneCell') = true)
    (h : wpList P ops Q rest (act.put o.dst undef) (w.setRow g cells)) : wpList P ops Q (o :: rest) act w := by
  refine wpList_plain hgd fun K hK => ?_
  have hs := storeAt_row (P := P) (w := w) (g := g) (ty := ty) (cells := cells) (hn ▸ hb.room) hi h1
  unfold Oper.wp execOp
  simp only [ho, hx, hy, Sem.run_bind, Sem.run_pure, hs, Result.andThen_ok]
  exact hK _ _ h
end
theorem results_cell_tmp {P : Program} {fn : Func} {a u : Tmp} {ty : TypeId} {p : Addr} {v : Value} {tmps : Array Value} {w : World} (h : fn.results = #[.cell a ty, .tmp u]) (ha : tmps.getD a undef = .pointer (some p)) (hl : (loadVar ty p).run P w = .ok v w) :
    (results fn tmps).run P w = .ok (.tuple #[v, tmps.getD u undef]) w := by
  have ha2 : tmps[a]?.getD undef = .pointer (some p) := by simpa using ha
  simp [results, h, ha2, asAddr, hl]
theorem req_row {w : World} {g : Nat} {cs : Array Value} (h : Box w g cs 35) (hs : cs.size = 5) : (loadVar 35 ⟨g, 0, none⟩).run Tryz.prog w = .ok (.agg cs) w :=
  run_loadVar_row w g 35 35 cs (0, 0) _ h Tryz.underlying35 rfl (by rw [hs]; kernel_rfl)
theorem part_of {w : World} {B n c : Nat} {a : Option Addr} {l : List Int} (h : Own w B 5 1 a n c (u8L l)) (hl : l.length = n) (lo hi : Nat) (h1 : lo ≤ hi) (h2 : hi ≤ n) :
    ∃ a' c', (∀ W : World, (Instr.sliceAt 55 (.slice a n c) (some (.int .i64 lo)) (some (.int .i64 hi)) none).run Tryz.prog W = .ok (.slice a' (hi - lo) c') W) ∧ RdB w a' ((l.drop lo).take (hi - lo)) ∧ hi - lo ≤ c' ∧ (c' = 0 ∨ ∃ b off, a' = some ⟨b, off, none⟩) := by
  obtain ⟨i0, z0, hi0, hz0, hz1, hz2, hz3⟩ := rowU8.parts
  rcases h.form with ⟨rfl, rfl, rfl⟩ | ⟨g, rfl, _, _⟩
  · obtain rfl : hi = 0 := by omega
    obtain rfl : lo = 0 := by omega
    obtain rfl : l = [] := List.eq_nil_of_length_eq_zero hl
    refine ⟨none, 0, fun W => ?_, Or.inl rfl, Nat.le_refl _, Or.inl rfl⟩
    simp [Instr.sliceAt, Instr.slice, run_underlying Tryz.underlying55, Instr.sliceBounds, Instr.sliceBound, asIntOf, sizeOf, typeInfo, hi0, go_sem]
  · obtain ⟨off', e1, e2, e3⟩ := slice_part (P := Tryz.prog) 55 5 Tryz.underlying55 hi0 hz1 g 0 n c lo hi h1 (Nat.le_trans h2 h.cap_le)
    refine ⟨_, _, e1, ?_, by have := h.cap_le; omega, Or.inr ⟨_, _, rfl⟩⟩
    by_cases hlt : lo < hi
    · have := e2 (by have := h.cap_le; omega)
      refine Or.inr ⟨_, _, rfl, fun i x hx => ?_⟩
      rw [this, Nat.zero_add]
      rw [List.getElem?_take] at hx
      split at hx
      · rw [List.getElem?_drop] at hx
        exact h.cell (by unfold u8L; rw [List.getElem?_map, hx]; rfl)
      · cases hx
    · obtain rfl : lo = hi := by omega
      exact Or.inl (by simp)
def BytS (S : Sgs) : Prop := ∀ n, Byts (gD S n)
def rc0 : Rc := ⟨0, 0, ⟨#[]⟩, ⟨#[]⟩, 0, 0⟩
/-- The bytes of a place. -/
def partL (S : Sgs) (p : Pl) : List Int := ((gD S p.seg).drop p.off.toNat).take (min (p.off + p.size) ((gD S p.seg).length : Int) - p.off).toNat
def RdQ (S : Sgs) (p : Pl) (o : Option Rc) : Prop :=
  ((gD S p.seg).length < p.off ∧ o = none) ∨ (p.off ≤ (gD S p.seg).length ∧ ∃ rs n, Scanned (partL S p) rs n ∧ ((∃ r, rs = [r] ∧ o = some r) ∨ (rs.length ≠ 1 ∧ o = none)))
/-- The disk's answer in one form. -/
theorem dread_at {w : World} {B d bm uc : Nat} {S : Sgs} {V : VF} {ua : Option Addr} {un : Pcs} {most beh fal : Int} (h : Dm w B d bm S V ua uc un most beh fal) (n : Int) (hn : (Lit.int .i64 n).wf = true) (N : Nat) (hN : (gD S n).length = N) :
    Calls Tryz.prog 37 #[.pointer (some ⟨d, 0, none⟩), .int .i64 n] w fun e w' => ∃ a c k, e = .returned (.tuple #[.slice a N c, .int .i64 k]) ∧ Own w' w.heap.size 5 1 a N c (u8L (gD S n)) ∧ Below w.heap.size w w' := by
  refine (read_at h n hn).mono ?_
  subst hN
  rintro e w' (⟨h1, rfl, hb⟩ | ⟨h1, a, c, rfl, ho, hb⟩)
  · have e0 : gD S n = [] := by unfold gD; rw [h1]; rfl
    rw [e0]
    exact ⟨none, 0, 4, rfl, Own.nil _ _ _ _, hb⟩
  · exact ⟨a, c, 0, rfl, ho, hb⟩
set_option maxHeartbeats 2000000 in
theorem sread_at {w : World} {B d bm uc : Nat} {S : Sgs} {V : VF} {ua : Option Addr} {un : Pcs} {most beh fal : Int} (h : Dm w B d bm S V ua uc un most beh fal) (hby : BytS S) (p : Pl) (hn : (Lit.int .i64 p.seg).wf = true) (h0 : 0 ≤ p.off) (h1 : p.off ≤ 9223372036854775807) (h2 : 0 ≤ p.size) (h3 : p.size ≤ 1000000) :
    Calls Tryz.prog 75 #[.pointer (some ⟨d, 0, none⟩), plV p] w fun e w' => ∃ o : Option Rc, e = .returned (.tuple #[.agg (reqL (o.getD rc0)).toArray, .bool o.isSome]) ∧ RdQ S p o ∧ Below w.heap.size w w' := by
  obtain ⟨N, hN⟩ : ∃ N, (gD S p.seg).length = N := ⟨_, rfl⟩
  have hs := h.seg p.seg
  rw [hN] at hs
  have RD := Lib.hid (fun W (hW : Below w.heap.size w W) => dread_at (h.later hW) p.seg hn N hN)
  have HN := Lib.hid hN
  have HBY := Lib.hid (hby p.seg)
  have Q0 : Hid (N < p.off → RdQ S p none) := Lib.hid (fun h => Or.inl ⟨by rw [hN]; exact h, rfl⟩)
  have Q1 : Hid (p.off ≤ N → ∀ rs n, Scanned (partL S p) rs n → ∀ o, ((∃ r, rs = [r] ∧ o = some r) ∨ (rs.length ≠ 1 ∧ o = none)) → RdQ S p o) := Lib.hid (fun h rs n h2 o h3 => Or.inr ⟨by rw [hN]; exact h, rs, n, h2, h3⟩)
  have HPL : Hid (partL S p = ((gD S p.seg).drop p.off.toNat).take (min (p.off + p.size) (N : Int) - p.off).toNat) := Lib.hid (by unfold partL; rw [hN])
  obtain ⟨g, o, z⟩ := p
  unfold plV plC
  dsimp only at *
  clear h hn hN hby
  go_enter Tryz.func75, Tryz.ntmps75
  go_upto_region 1 with fail
  refine code_forget (fun W => Hid (Box W w.heap.size #[.int .i64 g, .int .i64 o, .int .i64 z] 81) ∧ Hid (Box W (w.heap.size + 1) #[.int .i64 0, .string ⟨#[]⟩, .string ⟨#[]⟩, .int .i64 0, .int .i64 0] 35) ∧ Hid (Below w.heap.size w W)) ⟨Lib.hid ((Box.new w _ _).alloc _), Lib.hid (by have h9 := Box.new (w.alloc (.cells #[.int .i64 g, .int .i64 o, .int .i64 z] 81)) #[.int .i64 0, .string ⟨#[]⟩, .string ⟨#[]⟩, .int .i64 0, .int .i64 0] 35; rw [World.size_alloc] at h9; exact h9), Lib.hid (((Below.refl w.heap.size w).alloc (Nat.le_refl _) _).alloc (by simp) _)⟩ ?_
  obtain ⟨pb, hpb⟩ : ∃ p, w.heap.size = p := ⟨_, rfl⟩
  obtain ⟨qb, hqb⟩ : ∃ p, w.heap.size + 1 = p := ⟨_, rfl⟩
  have HPB := Lib.hid hpb
  have HQB := Lib.hid hqb
  rw [hqb, hpb]
  rintro w1 ⟨BP1, BQ1, B1⟩
  rw [← HPB.out] at B1
  clear hpb hqb
  have p0 := BP1.out.cell 0
  go_wp2_with fail
  refine (RD.out _ B1.out).mono ?_
  rintro e w2 ⟨a, c, k, rfl, ho, hb⟩
  have O2 := Lib.hid ho
  have BP2 := Lib.hid (BP1.out.later hb)
  have BQ2 := Lib.hid (BQ1.out.later hb)
  have B2 := Lib.hid (B1.out.trans (hb.mono B1.out.size))
  clear ho hb BP1 BQ1 B1 p0 RD
  have p1 := BP2.out.cell 1
  have p2 := BP2.out.cell 2
  have fq : ∀ i, w2.frozen? ⟨qb, i, none⟩ = false := BQ2.out.free
  have lq := BQ2.out.lt
  by_cases hbig : (N : Int) < o
  · have d1 : decide ((N : Int) < o) = true := decide_eq_true hbig
    have d1' : decide (o > (N : Int)) = true := d1
    have FIN := Lib.hid (BQ2.out.setRow #[.int .i64 0, .string ⟨#[]⟩, .string ⟨#[]⟩, .int .i64 0, .int .i64 0])
    have BZ := Lib.hid (below_row (g := qb) B2.out (by have := HQB.out; omega) #[.int .i64 0, .string ⟨#[]⟩, .string ⟨#[]⟩, .int .i64 0, .int .i64 0])
    go_upto_region 3 with fail
    go_wp2_with (refine wpList_storeRow rfl rfl rfl rfl BQ2.out rfl (by kernel_rfl) (by simp [Value.oneCell']) ?_)
    refine bodyPost_ret (results_cell_tmp Tryz.results75 rfl (req_row FIN.out rfl)) rfl ?_
    exact ⟨none, rfl, Q0.out hbig, BZ.out⟩
  · have d1 : decide ((N : Int) < o) = false := decide_eq_false hbig
    have d1' : decide (o > (N : Int)) = false := d1
    obtain ⟨lo, rfl⟩ : ∃ lo : Nat, o = (lo : Int) := ⟨o.toNat, by omega⟩
    obtain ⟨hi, hhi⟩ : ∃ hi : Nat, min ((lo : Int) + z) (N : Int) = (hi : Int) := ⟨(min ((lo : Int) + z) (N : Int)).toNat, by omega⟩
    have hw : IntKind.i64.wrap ((lo : Int) + z) = (lo : Int) + z := by rw [IntKind.wrap_i64]; omega
    obtain ⟨a', c', PS, hrd, hc', hpl⟩ := part_of O2.out HN.out lo hi (by omega) (by omega)
    have HP2 : Hid (partL S ⟨g, (lo : Int), z⟩ = ((gD S g).drop lo).take (hi - lo)) := Lib.hid (by rw [HPL.out, hhi]; congr 1; omega)
    have LEN : Hid ((((gD S g).drop lo).take (hi - lo)).length = hi - lo) := Lib.hid (by rw [List.length_take, List.length_drop, HN.out]; omega)
    have BY2 : Hid (Byts (((gD S g).drop lo).take (hi - lo))) := Lib.hid (fun x hx => HBY.out x (List.mem_of_mem_drop (List.mem_of_mem_take hx)))
    have SC := Lib.hid (scan_at _ (hi - lo) a' c' w2 LEN.out hrd BY2.out hc' (by omega) hpl)
    have mn : (if (N : Int) < (lo : Int) + z then (N : Int) else (lo : Int) + z) = (hi : Int) := by omega
    clear hrd hc' hpl HPL
    go_wp2_with fail
    refine SC.out.mono ?_
    rintro e w3 ⟨rs, n, a9, c9, rfl, hsc, hor, _, hlen, hb3⟩
    have hsc2 : Scanned (partL S ⟨g, (lo : Int), z⟩) rs n := by rw [HP2.out]; exact hsc
    have HSC := Lib.hid (Q1.out (by omega) rs n hsc2)
    have BQ3 := Lib.hid (BQ2.out.later hb3)
    have B3 := Lib.hid (B2.out.trans (hb3.mono B2.out.size))
    have HOR := Lib.hid hor
    clear hsc hsc2 hor hb3 SC BQ2 B2 O2 BP2 p1 p2 fq lq PS Q1 Q0 HP2 LEN BY2
    by_cases hone : rs.length = 1
    · obtain ⟨r, rfl⟩ := List.length_eq_one_iff.1 hone
      have HR := Lib.hid (HSC.out (some r) (Or.inl ⟨r, rfl, rfl⟩))
      rcases HOR.out.rd with h9 | ⟨b9, o9, rfl, hc9⟩
      · cases h9
      · have hc := hc9 0 r rfl
        have q1 := hc 1 _ rfl
        have q2 := hc 2 _ rfl
        have q3 := hc 3 _ rfl
        have q4 := hc 4 _ rfl
        have q5 := hc 5 _ rfl
        simp only [Nat.zero_mul, Nat.add_zero] at q1 q2 q3 q4 q5
        obtain ⟨r0, r1, r2, r3, r4, r5⟩ := r
        dsimp only at q1 q2 q3 q4 q5
        have FIN := Lib.hid (BQ3.out.setRow #[.int .i64 r1, .string r2, .string r3, .int .i64 r4, .int .i64 r5])
        have BZ := Lib.hid (below_row (g := qb) B3.out (by have := HQB.out; omega) #[.int .i64 r1, .string r2, .string r3, .int .i64 r4, .int .i64 r5])
        have dn : (((1 : Nat) : Int) != 1) = false := rfl
        clear hc hc9 HOR HSC
        go_upto_region 7 with fail
        go_wp2_with (refine wpList_storeRow rfl rfl rfl rfl BQ3.out rfl (by kernel_rfl) (by simp [Value.oneCell']) ?_)
        refine bodyPost_ret (results_cell_tmp Tryz.results75 rfl (req_row FIN.out rfl)) rfl ?_
        exact ⟨some ⟨r0, r1, r2, r3, r4, r5⟩, rfl, HR.out, BZ.out⟩
    · have HR := Lib.hid (HSC.out none (Or.inr ⟨hone, rfl⟩))
      obtain ⟨K, hK⟩ : ∃ K, rs.length = K := ⟨_, rfl⟩
      rw [hK] at hone ⊢
      have dn : ((K : Int) != 1) = true := by simp; omega
      have FIN := Lib.hid (BQ3.out.setRow #[.int .i64 0, .string ⟨#[]⟩, .string ⟨#[]⟩, .int .i64 0, .int .i64 0])
      have BZ := Lib.hid (below_row (g := qb) B3.out (by have := HQB.out; omega) #[.int .i64 0, .string ⟨#[]⟩, .string ⟨#[]⟩, .int .i64 0, .int .i64 0])
      clear hK HOR HSC
      go_upto_region 6 with fail
      go_wp2_with (refine wpList_storeRow rfl rfl rfl rfl BQ3.out rfl (by kernel_rfl) (by simp [Value.oneCell']) ?_)
      refine bodyPost_ret (results_cell_tmp Tryz.results75 rfl (req_row FIN.out rfl)) rfl ?_
      exact ⟨none, rfl, HR.out, BZ.out⟩
end Go.Proofs.YtimkgaokcldgkaaGreatDoor
/- Package spill: replay. -/
namespace Go.Proofs.YtimkgaokcldgkaaGreatDoor
open Go Go.RowKit Go.Maps
set_option linter.unusedVariables false
set_option linter.unusedSimpArgs false
set_option maxRecDepth 100000

/-- The index that the records of some segments give. -/
inductive RepR (S : Sgs) : List Int → Ix → Ix → Prop
  | nil (x : Ix) : RepR S [] x x
  | snoc {l : List Int} {s : Int} {x y : Ix} {rs : List Rc} {n : Nat} : RepR S l x y → Scanned (gD S s) rs n → RepR S (l ++ [s]) x (recsI s 0 rs y)
theorem map_not_cells2 {w : World} {b : Nat} {es : Array MapEntry} {cl : Nat} {cs : Array Value} {t : TypeId} {z : Nat × Nat} (h : w.heap[b]? = some (.map es cl)) (k : w.heap[b]? = some (.cells cs t z)) : False := by
  rw [h] at k
  cases k
theorem IxM.off {w : World} {B b o : Nat} {cs : Array Value} {t : TypeId} {pm : Nat} {wm : Option Nat} {x : Ix} (h : IxM w B b o cs t pm wm x) {g : Nat} {ds : Array Value} {u : TypeId} {z : Nat × Nat} (hg : w.heap[g]? = some (.cells ds u z)) (hne : g ≠ b) : ¬ MineI b pm wm g := by
  rintro (e | e | e)
  · exact hne e
  · obtain ⟨D, m, ⟨es, cl, hm, _⟩, _⟩ := h.puts.mp
    rw [e] at hg
    exact map_not_cells2 hm hg
  · rcases h.waits with ⟨e2, _⟩ | ⟨m2, e2, hm2⟩
    · rw [e2] at e; cases e
    · rw [e2] at e
      cases e
      obtain ⟨D, m, ⟨es, cl, hm, _⟩, _⟩ := hm2.mp
      exact map_not_cells2 hm hg
theorem IxM.box_off {w w' : World} {B b o : Nat} {cs : Array Value} {t : TypeId} {pm : Nat} {wm : Option Nat} {x : Ix} (h : IxM w B b o cs t pm wm x) (ho : Only (MineI b pm wm) w w') {g : Nat} {ds : Array Value} {u : TypeId} (hg : Box w g ds u) (hne : g ≠ b) : Box w' g ds u :=
  hg.only ho (h.off hg hne)
theorem IxM.own_off {w w' : World} {B b o : Nat} {cs : Array Value} {t : TypeId} {pm : Nat} {wm : Option Nat} {x : Ix} (h : IxM w B b o cs t pm wm x) (ho : Only (MineI b pm wm) w w') {B' n c size : Nat} {a : Option Addr} {xs : List Value} {E : TypeId} (hg : Own w B' E size a n c xs) (hne : t ≠ E) : Own w' B' E size a n c xs :=
  hg.only ho (fun g e hm => by
    rw [e] at hg
    obtain ⟨cur, hc, _⟩ := hg.block
    exact h.off hc (own_not_box hg h.box hne) hm)
theorem pauseI_len (x : Ix) (s : ByteArray) (v : Int) (p : Pl) : (pauseI x s v p).puts.length ≤ x.puts.length + 1 ∧ (pauseI x s v p).waits.length ≤ x.waits.length + 1 := by
  unfold pauseI
  split
  · refine ⟨Nat.le_succ x.puts.length, ?_⟩
    show (pA x.waits s _).length ≤ _
    rw [len_pA]
    split <;> omega
  · exact ⟨by omega, by omega⟩
theorem applyI_len (x : Ix) (r : Rc) (p : Pl) : (applyI x r p).puts.length ≤ x.puts.length + 1 ∧ (applyI x r p).waits.length ≤ x.waits.length + 1 := by
  unfold applyI
  split
  · refine ⟨?_, by dsimp only; omega⟩
    show (pA x.puts _ _).length ≤ _
    rw [len_pA]
    split <;> omega
  · split
    · refine ⟨?_, by dsimp only; omega⟩
      show (dA x.puts _).length ≤ _
      exact Nat.le_trans (len_dA _ _) (Nat.le_succ _)
    · split
      · exact pauseI_len _ _ _ _
      · exact ⟨by omega, by omega⟩
theorem AftI.size3 {B b : Nat} {cs cs' : Array Value} {x' : Ix} {w' : World} {t : TypeId} {pm : Nat} {wm' : Option Nat} (hs : cs.size = 3) (h1 : IxM w' B b 0 cs' t pm wm' x') (h2 : ∀ i, i ≠ 0 + 1 → i ≠ 0 + 2 → cs'[i]? = cs[i]?) : cs'.size = 3 := by
  have e3 := h2 3 (by decide) (by decide)
  rw [Array.getElem?_eq_none (by omega : cs.size ≤ 3)] at e3
  have a1 := Array.getElem?_eq_none_iff.1 e3
  have a2 := (Array.getElem?_eq_some_iff.1 h1.c2).1
  omega
/-- The outer loop. -/
structure RpO (w : World) (S : Sgs) (l : List Int) (rb ib pm k : Nat) (x : Ix) (cs : Array Value) (wm : Option Nat) (wr : World) : Prop where
  rep : RepR S (l.take k) ix0 x
  ix : IxM wr w.heap.size ib 0 cs 61 pm wm x
  sz : cs.size = 3
  rbx : Box wr rb #[.map none, .map none, .int .i64 0] 61
  bel : Below w.heap.size w wr
  few : x.puts.length ≤ 2048 * k ∧ x.waits.length ≤ 2048 * k
theorem RpO.later {w : World} {S : Sgs} {l : List Int} {rb ib pm k : Nat} {x : Ix} {cs : Array Value} {wm : Option Nat} {wr w' : World} (h : RpO w S l rb ib pm k x cs wm wr) (hb : Below wr.heap.size wr w') : RpO w S l rb ib pm k x cs wm w' :=
  ⟨h.rep, h.ix.later hb, h.sz, h.rbx.later hb, h.bel.trans (hb.mono h.bel.size), h.few⟩
theorem rdB_own {w : World} {B n c : Nat} {a : Option Addr} {l : List Int} (h : Own w B 5 1 a n c (u8L l)) (hl : l.length = n) : RdB w a l ∧ (c = 0 ∨ ∃ b off, a = some ⟨b, off, none⟩) := by
  rcases h.form with ⟨rfl, rfl, rfl⟩ | ⟨g, rfl, _, _⟩
  · exact ⟨Or.inl (List.eq_nil_of_length_eq_zero hl), Or.inl rfl⟩
  · exact ⟨Or.inr ⟨g, 0, rfl, fun i x hx => by rw [Nat.zero_add]; exact h.cell (by unfold u8L; rw [List.getElem?_map, hx]; rfl)⟩, Or.inr ⟨g, 0, rfl⟩⟩
/-- The inner loop. -/
structure RpI (w : World) (S : Sgs) (l : List Int) (rb ib pm pb k : Nat) (s : Int) (rs : List Rc) (Z : Ix) (B3 : Nat) (a3 : Option Addr) (c3 j : Nat) (o z : Int) (y : Ix) (cs : Array Value) (wm : Option Nat) (wr : World) : Prop where
  eq : recsI s o (rs.drop j) y = Z
  off : o = ((flatR (rs.take j)).length : Int)
  ix : IxM wr w.heap.size ib 0 cs 61 pm wm y
  sz : cs.size = 3
  rbx : Box wr rb #[.map none, .map none, .int .i64 0] 61
  pbx : Box wr pb #[.int .i64 s, .int .i64 o, .int .i64 z] 81
  own : OwnR wr B3 a3 c3 rs
  bel : Below w.heap.size w wr
  few : y.puts.length ≤ 2048 * k + j ∧ y.waits.length ≤ 2048 * k + j
theorem RpI.later {w : World} {S : Sgs} {l : List Int} {rb ib pm pb k : Nat} {s : Int} {rs : List Rc} {Z : Ix} {B3 : Nat} {a3 : Option Addr} {c3 j : Nat} {o z : Int} {y : Ix} {cs : Array Value} {wm : Option Nat} {wr w' : World} (h : RpI w S l rb ib pm pb k s rs Z B3 a3 c3 j o z y cs wm wr) (hb : Below wr.heap.size wr w') : RpI w S l rb ib pm pb k s rs Z B3 a3 c3 j o z y cs wm w' :=
  ⟨h.eq, h.off, h.ix.later hb, h.sz, h.rbx.later hb, h.pbx.later hb, h.own.later hb, h.bel.trans (hb.mono h.bel.size), h.few⟩
theorem IxM.keep {w w' : World} {B b o : Nat} {cs : Array Value} {t : TypeId} {pm : Nat} {wm : Option Nat} {x : Ix} (h : IxM w B b o cs t pm wm x) (he : ∀ k, MineI b pm wm k → w'.heap[k]? = w.heap[k]?) : IxM w' B b o cs t pm wm x :=
  ⟨(he b (Or.inl rfl)).trans h.box, h.c0, h.c1, h.c2, h.puts.block (he pm (Or.inr (Or.inl rfl))), h.waits.later (fun m hm => he m (Or.inr (Or.inr hm))), h.apart, h.bB, h.pB, h.wB⟩
/-- The place's box is written. -/
theorem RpI.place {w : World} {S : Sgs} {l : List Int} {rb ib pm pb k : Nat} {s : Int} {rs : List Rc} {Z : Ix} {B3 : Nat} {a3 : Option Addr} {c3 j : Nat} {o z : Int} {y : Ix} {cs : Array Value} {wm : Option Nat} {wr : World} (h : RpI w S l rb ib pm pb k s rs Z B3 a3 c3 j o z y cs wm wr) (hp : rb < pb ∧ ib < pb ∧ rb ≠ ib) (hw : w.heap.size ≤ pb) (i : Nat) (v : Value) :
    IxM (wr.setCell ⟨pb, i, none⟩ v) w.heap.size ib 0 cs 61 pm wm y ∧ Box (wr.setCell ⟨pb, i, none⟩ v) rb #[.map none, .map none, .int .i64 0] 61 ∧ Box (wr.setCell ⟨pb, i, none⟩ v) pb (#[.int .i64 s, .int .i64 o, .int .i64 z].setIfInBounds i v) 81 ∧ OwnR (wr.setCell ⟨pb, i, none⟩ v) B3 a3 c3 rs ∧ Below w.heap.size w (wr.setCell ⟨pb, i, none⟩ v) := by
  have hoff := h.ix.off h.pbx (by omega)
  refine ⟨h.ix.keep (fun q hq => Below.heap_setCell _ _ _ q (fun e => hoff (by rw [← show q = pb from e]; exact hq))), h.rbx.other (by show rb ≠ pb; omega) v, h.pbx.set i v, ?_, (h.bel.setCell hw v)⟩
  exact Own.blocks (show Own wr B3 79 6 a3 rs.length c3 (flatC rs) from h.own) (fun g e => Below.heap_setCell _ _ _ g (fun e2 => by
    have ho : Own wr B3 79 6 a3 rs.length c3 (flatC rs) := h.own
    rw [e] at ho
    exact own_not_box ho h.pbx (by decide) (show g = pb from e2)))
theorem flat_step {rs : List Rc} {j : Nat} {r : Rc} (h : rs[j]? = some r) : ((flatR (rs.take (j + 1))).length : Int) = ((flatR (rs.take j)).length : Int) + ((encR r).length : Int) := by
  rw [List.take_add_one, h]
  unfold flatR
  rw [List.flatMap_append, List.length_append]
  simp
theorem flat_le (rs : List Rc) (j : Nat) : (flatR (rs.take j)).length ≤ (flatR rs).length := by
  have := congrArg (fun l => (flatR l).length) (List.take_append_drop j rs)
  unfold flatR at *
  simp only [List.flatMap_append, List.length_append] at this
  omega
theorem cs3 {w : World} {B b : Nat} {cs : Array Value} {t : TypeId} {pm : Nat} {wm : Option Nat} {x : Ix} (hs : cs.size = 3) (h : IxM w B b 0 cs t pm wm x) : cs = #[.map (some pm), .map wm, .int .i64 x.top] := by
  apply Array.ext_getElem?
  intro i
  match i with
  | 0 => exact h.c0
  | 1 => exact h.c1
  | 2 => exact h.c2
  | n + 3 => rw [Array.getElem?_eq_none (by omega), Array.getElem?_eq_none (by simp)]
theorem results_cell1 {P : Program} {fn : Func} {a : Tmp} {ty : TypeId} {p : Addr} {v : Value} {tmps : Array Value} {w : World} (h : fn.results = #[.cell a ty]) (ha : tmps.getD a undef = .pointer (some p)) (hl : (loadVar ty p).run P w = .ok v w) :
    (results fn tmps).run P w = .ok v w := by
  have ha2 : tmps[a]?.getD undef = .pointer (some p) := by simpa using ha
  simp [results, h, ha2, asAddr, hl]
theorem ix_row {w : World} {g : Nat} {cs : Array Value} (h : Box w g cs 61) (hs : cs.size = 3) : (loadVar 61 ⟨g, 0, none⟩).run Tryz.prog w = .ok (.agg cs) w :=
  run_loadVar_row w g 61 61 cs (0, 0) _ h Tryz.underlying61 rfl (by rw [hs]; kernel_rfl)
def intV : Value → Int
  | .int _ z => z
  | _ => 0
set_option maxHeartbeats 4000000 in
theorem replay_at {w : World} {B d bm uc : Nat} {S : Sgs} {V : VF} {ua : Option Addr} {un : Pcs} {most beh fal : Int} (h : Dm w B d bm S V ua uc un most beh fal) (hby : BytS S) (l : List Int) (N cap : Nat) (a : Option Addr) (hl : l.length = N) (hN : N ≤ 16) (hr : RdC w a (inL l)) (hw : ∀ s ∈ l, okI s) :
    Calls Tryz.prog 24 #[.pointer (some ⟨d, 0, none⟩), .slice a N cap] w fun e w' => ∃ (x : Ix) (pm : Nat) (wm : Option Nat), e = .returned (.agg #[.map (some pm), .map wm, .int .i64 x.top]) ∧ RepR S l ix0 x ∧ PtM w' pm x.puts ∧ WtM w' wm x.waits ∧ wm ≠ some pm ∧ w.heap.size ≤ pm ∧ (∀ m, wm = some m → w.heap.size ≤ m) ∧ Below w.heap.size w w' := by
  have HD := Lib.hid h
  have HBY := Lib.hid hby
  have HL := Lib.hid hl
  have HR := Lib.hid hr
  have HW := Lib.hid hw
  have hmm := @run_makeMap Tryz.prog
  clear h hby hl hr hw
  go_enter Tryz.func24, Tryz.ntmps24
  go_upto_region 2 with fail
  refine code_forget (fun W => Hid (Box W w.heap.size #[.map none, .map none, .int .i64 0] 61) ∧ Hid (IxM W w.heap.size (w.heap.size + 1 + 1) 0 #[.map (some (w.heap.size + 1)), .map none, .int .i64 0] 61 (w.heap.size + 1) none ix0) ∧ Hid (Below w.heap.size w W)) ⟨Lib.hid (((Box.new w _ _).alloc _).alloc _), Lib.hid ⟨?_, rfl, rfl, rfl, ?_, Or.inl ⟨rfl, rfl⟩, by simp, by omega, by omega, fun m e => (by cases e)⟩, Lib.hid ((((Below.refl w.heap.size w).alloc (Nat.le_refl _) _).alloc (by simp) _).alloc (by simp; omega) _)⟩ ?_
  · have h9 := Box.new ((w.alloc (.cells #[.map none, .map none, .int .i64 0] 61)).alloc (.map #[] 0)) #[.map (some (w.heap.size + 1)), .map none, .int .i64 0] 61
    simp only [World.size_alloc] at h9
    exact h9
  · have h9 := Am.new (P := Tryz.prog) (kt := 3) (lit := knI) (ok := okI) (val := plV) (w.alloc (.cells #[.map none, .map none, .int .i64 0] 61))
    simp only [World.size_alloc] at h9
    exact h9.later ((Below.refl _ _).alloc (Nat.le_refl _) _)
  obtain ⟨rb, hrb⟩ : ∃ p, w.heap.size = p := ⟨_, rfl⟩
  obtain ⟨pm, hpm⟩ : ∃ p, w.heap.size + 1 = p := ⟨_, rfl⟩
  obtain ⟨ib, hib⟩ : ∃ p, pm + 1 = p := ⟨_, rfl⟩
  have HNB : Hid (w.heap.size = rb ∧ w.heap.size + 1 = pm ∧ pm + 1 = ib) := Lib.hid ⟨hrb, hpm, hib⟩
  rw [hpm, hib]
  rintro w1 ⟨RB1, IX1, B1⟩
  rw [hrb] at RB1 ⊢
  have ST : Hid (RpO w S l rb ib pm 0 ix0 #[.map (some pm), .map none, .int .i64 0] none w1) := Lib.hid ⟨RepR.nil _, IX1.out, rfl, RB1.out, B1.out, by decide, by decide⟩
  clear hrb hpm hib RB1 IX1 B1
  go_wp2_with fail
  go_loopw [21] (fun vi wr => ∃ (k : Nat) (x : Ix) (cs : Array Value) (wm : Option Nat), vi = .int .i64 (k : Int) ∧ k ≤ N ∧ Hid (RpO w S l rb ib pm k x cs wm wr)) (fun vi _ => N - (intV vi).toNat)
  case atStart => exact ⟨0, ix0, _, _, rfl, Nat.zero_le _, ST⟩
  case round =>
    clear ST
    obtain ⟨k, x, cs, wm, rfl, hk, HO⟩ := hrel
    by_cases hkN : k < N
    · have d1 : decide ((k : Int) < (N : Int)) = true := decide_eq_true (by omega)
      have d1n : decide (k < N) = true := decide_eq_true hkN
      obtain ⟨s, hs⟩ : ∃ s, l[k]? = some s := ⟨_, List.getElem?_eq_getElem (by rw [HL.out]; exact hkN)⟩
      obtain ⟨b9, o9, ha9, hc9⟩ := HR.out k (.int .i64 s) (by unfold inL; rw [List.getElem?_map, hs]; rfl)
      subst ha9
      have HSK := Lib.hid hs
      have hok := HW.out s (List.mem_of_getElem? hs)
      obtain ⟨M, hM⟩ : ∃ M, (gD S s).length = M := ⟨_, rfl⟩
      have hM2 := HD.out.seg s
      rw [hM] at hM2
      have HM := Lib.hid hM
      have cs1 := (HO.out.bel.cell (World.block_lt_of_cell? _ _ hc9)).trans hc9
      have ik0 : (0 : Int) ≤ (k : Int) := by omega
      have RD := Lib.hid (dread_at (HD.out.later HO.out.bel) s hok M hM)
      clear hs hc9 hok hM
      go_wp2_with fail
      refine RD.out.mono ?_
      rintro e w2 ⟨a2, c2, kk, rfl, ho, hb⟩
      have HO2 := Lib.hid (HO.out.later hb)
      obtain ⟨rd2, hp2⟩ := rdB_own ho HM.out
      have SC := Lib.hid (scan_at (gD S s) M a2 c2 w2 HM.out rd2 (HBY.out s) ho.cap_le (by omega) hp2)
      clear RD ho hb rd2 hp2 HO cs1
      go_wp2_with fail
      refine SC.out.mono ?_
      rintro e w3 ⟨rs, n, a3, c3, rfl, hsc, hor, hn, hlen, hb3⟩
      obtain ⟨K, hK⟩ : ∃ K, rs.length = K := ⟨_, rfl⟩
      rw [hK] at hlen ⊢
      have HK := Lib.hid hK
      clear hK
      have HO3 := Lib.hid (HO2.out.later hb3)
      have HSC := Lib.hid hsc
      have HOR := Lib.hid hor
      clear SC HO2 hsc hor hb3
      go_upto_region 8 with fail
      refine code_forget (fun W => Hid (Box W w3.heap.size #[.int .i64 s, .int .i64 0, .int .i64 0] 81) ∧ Hid (Below w3.heap.size w3 W)) ⟨Lib.hid (Box.new w3 _ _), Lib.hid ((Below.refl w3.heap.size w3).alloc (Nat.le_refl _) _)⟩ ?_
      obtain ⟨pb, hpb⟩ : ∃ p, w3.heap.size = p := ⟨_, rfl⟩
      have HPB := Lib.hid hpb
      rintro w4 ⟨PB4, hb4⟩
      rw [hpb] at PB4 ⊢
      have HO4 := Lib.hid (HO3.out.later hb4.out)
      have HOR4 := Lib.hid (HOR.out.later hb4.out)
      have HO3b : Hid (rb < w3.heap.size ∧ ib < w3.heap.size) := Lib.hid ⟨HO3.out.rbx.lt, HO3.out.ix.box.lt⟩
      clear hpb hb4 HO3 HOR
      obtain ⟨Z, hZ⟩ : ∃ Z, recsI s 0 rs x = Z := ⟨_, rfl⟩
      have HZ := Lib.hid hZ
      have hpb2 : rb < pb ∧ ib < pb ∧ rb ≠ ib := by have h1 := HO3b.out.1; have h2 := HO3b.out.2; have h3 := HPB.out; have h4 := HNB.out; omega
      have HPB2 : Hid (w.heap.size ≤ pb) := Lib.hid (by have h1 := HO3b.out.1; have h2 := HPB.out; have h3 := HNB.out; omega)
      have FLN : Hid ((flatR rs).length ≤ M) := Lib.hid (by rw [← HSC.out.2.1]; exact hn)
      have SI : Hid (RpI w S l rb ib pm pb k s rs Z w2.heap.size a3 c3 0 0 0 x cs wm w4) := Lib.hid ⟨hZ, rfl, HO4.out.ix, HO4.out.sz, HO4.out.rbx, PB4.out, HOR4.out, HO4.out.bel, by have := HO4.out.few; omega⟩
      have REP := Lib.hid HO4.out.rep
      clear hZ HO4 HOR4 PB4
      go_wp2_with fail
      go_loopw [40] (fun vj wr => ∃ (j : Nat) (o z : Int) (y : Ix) (cs : Array Value) (wm : Option Nat), vj = .int .i64 (j : Int) ∧ j ≤ K ∧ 0 ≤ o ∧ o ≤ 2048 ∧ Hid (RpI w S l rb ib pm pb k s rs Z w2.heap.size a3 c3 j o z y cs wm wr)) (fun vj _ => K - (intV vj).toNat)
      case atStart => exact ⟨0, 0, 0, x, cs, wm, rfl, Nat.zero_le _, by omega, by omega, SI⟩
      case round =>
        clear SI
        obtain ⟨j, o, z, y, cs, wm, rfl, hj, ho0, ho1, HI⟩ := hrel
        by_cases hjK : j < K
        · have e1 : decide ((j : Int) < (K : Int)) = true := decide_eq_true (by omega)
          have e1n : decide (j < K) = true := decide_eq_true hjK
          obtain ⟨r, hr⟩ : ∃ r, rs[j]? = some r := ⟨_, List.getElem?_eq_getElem (by rw [HK.out]; exact hjK)⟩
          obtain ⟨hsd, hft⟩ := HSC.out.1 r (List.mem_of_getElem? hr)
          have HRJ := Lib.hid hr
          obtain ⟨L, hL⟩ : ∃ L, (encR r).length = L := ⟨_, rfl⟩
          have hfs := flat_step hr
          have hfl := flat_le rs (j + 1)
          have hoL : o + (L : Int) ≤ 2048 := by have h1 := HI.out.off; have h2 := FLN.out; rw [hL] at hfs; omega
          have HL2 := Lib.hid hL
          have EN := Lib.hid (fun W => enc_yes r W hsd)
          have HOKI : Hid (okI r.id ∧ okS r.host) := Lib.hid ⟨by
            have h1 := hft.1
            have h2 := hsd.2.2.1
            unfold okI
            simp [Lit.wf, IntKind.min, IntKind.max, IntKind.signed, IntKind.bits]
            omega, by have h1 := hsd.2.2.2.2.2.2.1; unfold okS maxLen; omega⟩
          have HFS := Lib.hid hfs
          rcases HI.out.own.rd with h9 | ⟨b5, o5, ha5, hc5⟩
          · rw [h9] at hr; cases hr
          · subst ha5
            have q0 := hc5 j r hr 0 _ rfl
            have q1 := hc5 j r hr 1 _ rfl
            have q2 := hc5 j r hr 2 _ rfl
            have q3 := hc5 j r hr 3 _ rfl
            have q4 := hc5 j r hr 4 _ rfl
            have q5 := hc5 j r hr 5 _ rfl
            simp only [Nat.add_zero] at q0
            obtain ⟨r0, r1, r2, r3, r4, r5⟩ := r
            dsimp only at q0 q1 q2 q3 q4 q5
            have ij0 : (0 : Int) ≤ (j : Int) := by omega
            have ij1 : (j : Int) < (K : Int) := by omega
            clear hr hc5 hsd hft hfs hfl hL
            go_upto_region 11 with fail
            refine code_forget (fun W => Hid (Box W wr.heap.size #[.int .i64 r0, .int .i64 r1, .string r2, .string r3, .int .i64 r4, .int .i64 r5] 79) ∧ Hid (Below wr.heap.size wr W)) ⟨Lib.hid (Box.new wr _ _), Lib.hid ((Below.refl wr.heap.size wr).alloc (Nat.le_refl _) _)⟩ ?_
            obtain ⟨vb, hvb⟩ : ∃ p, wr.heap.size = p := ⟨_, rfl⟩
            have HVB := Lib.hid hvb
            rintro w5 ⟨VB5, hb5⟩
            rw [hvb] at VB5 ⊢
            have HI5 := Lib.hid (HI.out.later hb5.out)
            have NVB : Hid (pb < vb ∧ ib < vb) := Lib.hid ⟨by have := HI.out.pbx.lt; have := HVB.out; omega, by have := HI.out.ix.box.lt; have := HVB.out; omega⟩
            clear hvb hb5 q0 q1 q2 q3 q4 q5 HI
            have v0 := VB5.out.cell 0
            have v1 := VB5.out.cell 1
            have v2 := VB5.out.cell 2
            have v3 := VB5.out.cell 3
            have v4 := VB5.out.cell 4
            have v5 := VB5.out.cell 5
            go_wp2_with fail
            refine (EN.out _).mono ?_
            rintro e w6 ⟨a6, c6, rfl, _, hb6⟩
            rw [HL2.out]
            have HI6 := Lib.hid (HI5.out.later hb6)
            have VB6 := Lib.hid (VB5.out.later hb6)
            have fp := HI6.out.pbx.free 2
            have cp := HI6.out.pbx.cell 2
            have lp := HI6.out.pbx.lt
            have PL6 := Lib.hid (HI6.out.place hpb2 (by have := HPB2.out; omega) 2 (.int .i64 (L : Int)))
            have VB7 : Hid (Box (w6.setCell ⟨pb, 2, none⟩ (.int .i64 (L : Int))) vb #[.int .i64 r0, .int .i64 r1, .string r2, .string r3, .int .i64 r4, .int .i64 r5] 79) := Lib.hid (VB6.out.other (a := ⟨pb, 2, none⟩) (by show vb ≠ pb; have := NVB.out; omega) _)
            clear hb6 v0 v1 v2 v3 v4 v5 VB5 HI5 EN
            go_upto_region 13 with fail
            refine code_forget (fun W => Hid (IxM W w.heap.size ib 0 cs 61 pm wm y ∧ Box W rb #[.map none, .map none, .int .i64 0] 61 ∧ Box W pb #[.int .i64 s, .int .i64 o, .int .i64 (L : Int)] 81 ∧ OwnR W w2.heap.size (some ⟨b5, o5, none⟩) c3 rs ∧ Below w.heap.size w W) ∧ Hid (Box W vb #[.int .i64 r0, .int .i64 r1, .string r2, .string r3, .int .i64 r4, .int .i64 r5] 79)) ⟨PL6, VB7⟩ ?_
            rintro w7 ⟨P7, VB8⟩
            have FEW := Lib.hid HI6.out.few
            have OFF := Lib.hid HI6.out.off
            have EQ := Lib.hid HI6.out.eq
            have SZ := Lib.hid HI6.out.sz
            clear PL6 VB7 VB6 HI6 fp cp lp
            obtain ⟨y2, hy2⟩ : ∃ y2, applyI y ⟨r0, r1, r2, r3, r4, r5⟩ ⟨s, o, (L : Int)⟩ = y2 := ⟨_, rfl⟩
            have AP := apply_at P7.out.1 ⟨r0, r1, r2, r3, r4, r5⟩ HOKI.out.1 HOKI.out.2 ⟨s, o, (L : Int)⟩ P7.out.2.2.2.2.size (by have := FEW.out.2; omega) (by have := FEW.out.1; omega) (by decide) (by decide)
            have LENS := Lib.hid (applyI_len y ⟨r0, r1, r2, r3, r4, r5⟩ ⟨s, o, (L : Int)⟩)
            rw [hy2] at AP LENS
            have EQ2 : Hid (recsI s (o + (L : Int)) (rs.drop (j + 1)) y2 = Z) := Lib.hid (by
              have h9 := EQ.out
              have hg := HRJ.out
              obtain ⟨hlt, hge⟩ := List.getElem?_eq_some_iff.1 hg
              rw [List.drop_eq_getElem_cons hlt, hge, recsI, HL2.out, hy2] at h9
              exact h9)
            have AP2 := Lib.hid AP
            have v0 := VB8.out.cell 0
            have v1 := VB8.out.cell 1
            have v2 := VB8.out.cell 2
            have v3 := VB8.out.cell 3
            have v4 := VB8.out.cell 4
            have v5 := VB8.out.cell 5
            have p0 := P7.out.2.2.1.cell 0
            have p1 := P7.out.2.2.1.cell 1
            have p2 := P7.out.2.2.1.cell 2
            clear AP hy2 EQ
            go_wp2_with fail
            refine AP2.out.mono ?_
            rintro e w8 ⟨rfl, wm', cs', ix', hcs, honly, hwm⟩
            have R8 : Hid (RpI w S l rb ib pm pb (k + 1) s rs (recsI s o (rs.drop j) y2) w2.heap.size (some ⟨b5, o5, none⟩) c3 j o (L : Int) y2 cs' wm' w8) := Lib.hid ⟨rfl, OFF.out, ix', AftI.size3 SZ.out ix' hcs, P7.out.1.box_off honly P7.out.2.1 hpb2.2.2, P7.out.1.box_off honly P7.out.2.2.1 (by omega), P7.out.1.own_off honly (show Own w7 w2.heap.size 79 6 (some ⟨b5, o5, none⟩) rs.length c3 (flatC rs) from P7.out.2.2.2.1) (by decide), P7.out.2.2.2.2.trans (honly.below P7.out.2.2.2.2.size (fun q hq => (P7.out.1.lt hq).2)), by have h1 := LENS.out; have h2 := FEW.out; omega⟩
            clear ix' hcs honly hwm v0 v1 v2 v3 v4 v5 p0 p1 p2 P7 VB8 AP2
            have p1 := R8.out.pbx.cell 1
            have p2 := R8.out.pbx.cell 2
            have fp := R8.out.pbx.free 1
            have lp := R8.out.pbx.lt
            have hwo : IntKind.i64.wrap (o + (L : Int)) = o + (L : Int) := by rw [IntKind.wrap_i64]; omega
            have PL9 := Lib.hid (R8.out.place hpb2 HPB2.out 1 (.int .i64 (o + (L : Int))))
            have R9 : Hid (RpI w S l rb ib pm pb k s rs Z w2.heap.size (some ⟨b5, o5, none⟩) c3 (j + 1) (o + (L : Int)) (L : Int) y2 cs' wm' (w8.setCell ⟨pb, 1, none⟩ (.int .i64 (o + (L : Int))))) := Lib.hid ⟨EQ2.out, by have h1 := HFS.out; have h2 := OFF.out; rw [HL2.out] at h1; omega, PL9.out.1, R8.out.sz, PL9.out.2.1, PL9.out.2.2.1, PL9.out.2.2.2.1, PL9.out.2.2.2.2, by have h1 := LENS.out; have h2 := FEW.out; omega⟩
            go_wp2_with fail
            go_roundw
            case rel => exact ⟨j + 1, o + (L : Int), (L : Int), y2, cs', wm', by go_num, by omega, by omega, hoL, R9⟩
            case measure => simp [intV]; omega
        · have e1 : decide ((j : Int) < (K : Int)) = false := decide_eq_false (by omega)
          have hjj : j = K := by omega
          subst hjj
          have NEXT : Hid (RpO w S l rb ib pm (k + 1) y cs wm wr) := Lib.hid ⟨by
            have h9 := HI.out.eq
            rw [List.drop_of_length_le (by rw [HK.out]; exact Nat.le_refl _)] at h9
            have h8 : y = recsI s 0 rs x := by rw [HZ.out]; exact h9
            rw [h8, List.take_add_one, HSK.out]
            exact RepR.snoc REP.out HSC.out, HI.out.ix, HI.out.sz, HI.out.rbx, HI.out.bel, by have := HI.out.few; omega⟩
          go_wp2_with fail
          go_roundw
          case rel => exact ⟨k + 1, y, cs, wm, by go_num, by omega, NEXT⟩
          case measure => simp [intV]; omega
    · have d1 : decide ((k : Int) < (N : Int)) = false := decide_eq_false (by omega)
      have hkk : k = N := by omega
      subst hkk
      have HC := cs3 HO.out.sz HO.out.ix
      subst HC
      have BI := Lib.hid HO.out.ix.box
      have q0 := BI.out.cell 0
      have q1 := BI.out.cell 1
      have q2 := BI.out.cell 2
      have BRB := Lib.hid HO.out.rbx
      have FIN := Lib.hid (BRB.out.setRow #[.map (some pm), .map wm, .int .i64 x.top])
      have HPM : Hid (pm ≠ rb ∧ ∀ m, wm = some m → m ≠ rb) := Lib.hid ⟨am_not_box HO.out.ix.puts BRB.out, fun m hm => by
        rcases HO.out.ix.waits with ⟨e, _⟩ | ⟨m2, e, hm2⟩
        · rw [e] at hm; cases hm
        · rw [e] at hm
          cases hm
          exact am_not_box hm2 BRB.out⟩
      have RES : Hid (RepR S l ix0 x ∧ PtM (wr.setRow rb #[.map (some pm), .map wm, .int .i64 x.top]) pm x.puts ∧ WtM (wr.setRow rb #[.map (some pm), .map wm, .int .i64 x.top]) wm x.waits ∧ wm ≠ some pm ∧ w.heap.size ≤ pm ∧ (∀ m, wm = some m → w.heap.size ≤ m) ∧ Below w.heap.size w (wr.setRow rb #[.map (some pm), .map wm, .int .i64 x.top])) := Lib.hid ⟨by have h9 := HO.out.rep; rw [List.take_of_length_le (by rw [HL.out]; exact Nat.le_refl _)] at h9; exact h9, HO.out.ix.puts.block (setRow_other _ _ _ _ HPM.out.1), HO.out.ix.waits.later (fun m hm => setRow_other _ _ _ _ (HPM.out.2 m hm)), HO.out.ix.apart, HO.out.ix.pB, HO.out.ix.wB, below_row HO.out.bel (by have := HNB.out; omega) _⟩
      go_upto_region 17 with fail
      go_wp2_with (refine wpList_storeRow rfl rfl rfl rfl BRB.out rfl (by kernel_rfl) (by simp [Value.oneCell']) ?_)
      refine bodyPost_ret (results_cell1 Tryz.results24 rfl (ix_row FIN.out rfl)) rfl ?_
      exact ⟨x, pm, wm, rfl, RES.out⟩
end Go.Proofs.YtimkgaokcldgkaaGreatDoor
/- Package spill: Until and Next of a log; Load of no log. -/
namespace Go.Proofs.YtimkgaokcldgkaaGreatDoor
open Go Go.RowKit Go.Maps
set_option linter.unusedVariables false
set_option linter.unusedSimpArgs false
set_option maxRecDepth 100000

end Go.Proofs.YtimkgaokcldgkaaGreatDoor
/- Package spill: the functions of no log. -/
namespace Go.Proofs.YtimkgaokcldgkaaGreatDoor
open Go Go.RowKit Go.Maps
set_option linter.unusedVariables false
set_option linter.unusedSimpArgs false
set_option maxRecDepth 100000

end Go.Proofs.YtimkgaokcldgkaaGreatDoor
