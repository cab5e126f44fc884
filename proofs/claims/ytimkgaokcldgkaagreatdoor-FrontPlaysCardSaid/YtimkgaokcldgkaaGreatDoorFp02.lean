/- Part of a chain: QuOrder, QuRef, QuRow. -/
import Derived.Test.YtimkgaokcldgkaaGreatDoorFq14
import Derived.Test.YtimkgaokcldgkaaGreatDoorFq34
import Derived.Test.YtimkgaokcldgkaaGreatDoorFp01
import Derived.Test.YtimkgaokcldgkaaGreatDoorFq13
import Derived.StillTailTactics
/- QueueOrder, walked. -/
namespace Go.Proofs.YtimkgaokcldgkaaGreatDoor
open Go Go.RowKit
set_option linter.unusedVariables false
set_option linter.unusedSimpArgs false
set_option maxRecDepth 10000

def Dst (rs : List Rq) : Prop := rs.Pairwise fun a b => a.id ≠ b.id
theorem dst_ins {rs : List Rq} {r : Rq} (h : Dst rs) (hid : ∀ x ∈ rs, x.id ≠ r.id) : Dst (insQ rs r) := by
  unfold insQ Dst
  have h0 : (rs.take (posQ rs r) ++ rs.drop (posQ rs r)).Pairwise fun a b => a.id ≠ b.id := by rw [List.take_append_drop]; exact h
  obtain ⟨h1, h2, h3⟩ := List.pairwise_append.1 h0
  refine List.pairwise_append.2 ⟨h1, List.pairwise_cons.2 ⟨fun y hy => fun e => hid y (List.mem_of_mem_drop hy) e.symm, h2⟩, fun x hx y hy => ?_⟩
  rcases List.mem_cons.1 hy with rfl | hy
  · exact hid x (List.mem_of_mem_take hx)
  · exact h3 x hx y hy
theorem Qm.set {w : World} {B q cap LB : Nat} {a : Option Addr} {rs : List Rq} {most : Int} (h : Qm w B q a cap rs most) (hap : ∀ k, MineQ q a k → k ≠ LB) (j : Nat) (u : Value) : Qm (w.setCell ⟨LB, j, none⟩ u) B q a cap rs most :=
  ⟨h.box.other (hap q (Or.inl rfl)) u, h.own.other (fun g hg => hap g (Or.inr hg)) u, h.qB⟩
end Go.Proofs.YtimkgaokcldgkaaGreatDoor
/- The document's list: where an id is; appended rows of any length. -/
namespace Go.Proofs.YtimkgaokcldgkaaGreatDoor
open Go Go.RowKit
set_option linter.unusedVariables false
set_option linter.unusedSimpArgs false
set_option maxRecDepth 10000

def atQ (l : List Rq) (id : Int) : Int := if l.findIdx (idB id) < l.length then (l.findIdx (idB id) : Int) else -1
theorem atQ_yes {l : List Rq} {id : Int} {k : Nat} {z : Rq} (hk : l[k]? = some z) (hp : idB id z = true) (hno : ∀ i z, i < k → l[i]? = some z → idB id z = false) : atQ l id = (k : Int) := by
  obtain ⟨h1, h2⟩ := List.getElem?_eq_some_iff.1 hk
  have : l.findIdx (idB id) = k := (List.findIdx_eq h1).2 ⟨by rw [h2]; exact hp, fun j hj => hno j _ hj (List.getElem?_eq_getElem (by omega))⟩
  unfold atQ
  rw [this, if_pos h1]
theorem atQ_no {l : List Rq} {id : Int} (h : ∀ x ∈ l, idB id x = false) : atQ l id = -1 := by
  unfold atQ
  rw [List.findIdx_eq_length.2 h, if_neg (Nat.lt_irrefl _)]
theorem atQ_any (l : List Rq) (id : Int) : decide (0 ≤ atQ l id) = l.any (idB id) := by
  rw [Bool.eq_iff_iff, decide_eq_true_eq, List.any_eq_true]
  unfold atQ
  constructor
  · intro h
    split at h
    · rename_i h1
      exact ⟨_, List.getElem_mem h1, List.findIdx_getElem⟩
    · exact absurd h (by decide)
  · rintro ⟨x, hx, hp⟩
    rw [if_pos (List.findIdx_lt_length_of_exists ⟨x, hx, hp⟩)]
    omega
theorem wo_cut : ∀ (l : List Rq) (id : Int), Dst l → l.any (idB id) = true → l.findIdx (idB id) < l.length ∧ l.take (l.findIdx (idB id)) ++ l.drop (l.findIdx (idB id) + 1) = l.filter fun x => !idB id x
  | [], _, _, h => by simp at h
  | x :: t, id, hd, h => by
    obtain ⟨h1, h2⟩ := List.pairwise_cons.1 hd
    rw [List.findIdx_cons]
    cases hx : idB id x with
    | true =>
      refine ⟨Nat.zero_lt_succ _, ?_⟩
      have e : (t.filter fun x => !idB id x) = t := List.filter_eq_self.2 fun y hy => by
        have hxi : x.id = id := of_decide_eq_true hx
        have : ¬ y.id = id := fun e => h1 y hy (hxi.trans e.symm)
        have : idB id y = false := decide_eq_false this
        rw [this]; rfl
      simp [hx, e]
    | false =>
      have ht : t.any (idB id) = true := by simpa [hx] using h
      obtain ⟨k1, k2⟩ := wo_cut t id h2 ht
      refine ⟨by simpa using k1, ?_⟩
      simp only [cond_false, List.take_succ_cons, List.drop_succ_cons, List.cons_append, hx, List.filter_cons, Bool.not_false, if_true]
      rw [k2]
theorem atQ_in {l : List Rq} {id : Int} (hd : Dst l) (h : l.any (idB id) = true) : ∃ k : Nat, atQ l id = (k : Int) ∧ k < l.length ∧ l.take k ++ l.drop (k + 1) = l.filter fun x => !idB id x := by
  obtain ⟨h1, h2⟩ := wo_cut l id hd h
  exact ⟨_, by unfold atQ; rw [if_pos h1], h1, h2⟩
theorem RdQu.cells {w : World} {a : Option Addr} {l : List Rq} (h : RdQu w a l) (j : Nat) (u : Value) (hj : (rqC l)[j]? = some u) : ∃ g, a = some ⟨g, 0, none⟩ ∧ w.cell? ⟨g, j, none⟩ = some u := by
  have hl : j < l.length * 5 := by rw [← rqC_len]; exact (List.getElem?_eq_some_iff.1 hj).1
  have hk : j / 5 < l.length := by omega
  obtain ⟨g, e, c⟩ := h (j / 5) _ (List.getElem?_eq_getElem hk)
  have hm : j % 5 < 5 := Nat.mod_lt _ (by decide)
  have hjj : j / 5 * 5 + j % 5 = j := by omega
  have h1 := rqC_get (rs := l) (i := j / 5) (List.getElem?_eq_getElem hk) (j % 5) hm
  rw [hjj, hj] at h1
  refine ⟨g, e, ?_⟩
  rw [← hjj]
  generalize j % 5 = m at hm h1
  match m, hm with
  | 0, _ => rw [show u = _ from Option.some.inj h1]; exact c.c0
  | 1, _ => rw [show u = _ from Option.some.inj h1]; exact c.c1
  | 2, _ => rw [show u = _ from Option.some.inj h1]; exact c.c2
  | 3, _ => rw [show u = _ from Option.some.inj h1]; exact c.c3
  | 4, _ => rw [show u = _ from Option.some.inj h1]; exact c.c4
/-- What can be read behind a slice's address. -/
def RdCq (w : World) (a2 : Option Addr) (ys : List Value) : Prop := ∀ j u, ys[j]? = some u → ∃ b2 off2, a2 = some ⟨b2, off2, none⟩ ∧ w.cell? ⟨b2, off2 + j, none⟩ = some u
theorem RdCq.later {w w' : World} {a2 : Option Addr} {ys : List Value} (h : RdCq w a2 ys) (hb : Below w.heap.size w w') : RdCq w' a2 ys := fun j u hj => by
  obtain ⟨b, o, e, hc⟩ := h j u hj
  exact ⟨b, o, e, (hb.cell (World.block_lt_of_cell? _ _ hc)).trans hc⟩
theorem RdQu.head {w : World} {a : Option Addr} {l : List Rq} (h : RdQu w a l) (k : Nat) : RdCq w a (rqC (l.take k)) := fun j u hj => by
  rw [rqC_take] at hj
  have hj2 : (rqC l)[j]? = some u := by
    rw [List.getElem?_take] at hj
    split at hj
    · exact hj
    · cases hj
  obtain ⟨g, e, c⟩ := h.cells j u hj2
  exact ⟨g, 0, e, by rw [Nat.zero_add]; exact c⟩
theorem RdQu.tail {w : World} {a a2 : Option Addr} {l : List Rq} {k : Nat} (h : RdQu w a l) (h2 : k < l.length → ∀ g, a = some ⟨g, 0, none⟩ → a2 = some ⟨g, k * 5, none⟩) : RdCq w a2 (rqC (l.drop k)) := fun j u hj => by
  rw [rqC_drop, List.getElem?_drop] at hj
  obtain ⟨g, e, c⟩ := h.cells _ u hj
  have hl : k * 5 + j < l.length * 5 := by rw [← rqC_len]; exact (List.getElem?_eq_some_iff.1 hj).1
  exact ⟨g, k * 5, h2 (by omega) g e, c⟩
/-- The rest of a slice: what comes of the expression. -/
theorem qsliceFrom_off {P : Program} {T E : TypeId} {size bytes : Nat} (hT : RowTy P T E size bytes) (g len cap k : Nat) (hk : k ≤ len) (hc : len ≤ cap) :
    ∃ off, (∀ w : World, (Instr.sliceAt T (.slice (some ⟨g, 0, none⟩) len cap) (some (.int .i64 k)) none none).run P w = .ok (.slice (some ⟨g, off, none⟩) (len - k) (cap - k)) w) ∧ (k < len → off = k * size) := by
  obtain ⟨i, z, hi, hz, hs, hb, hzs⟩ := hT.parts
  by_cases h : cap = k
  · refine ⟨0, fun w => ?_, fun h' => by omega⟩
    have h2 : len = k := by omega
    subst h2
    subst h
    simp [Instr.sliceAt, Instr.slice, run_underlying hT.und, Instr.sliceBounds, Instr.sliceBound, asIntOf, sizeOf, typeInfo, hi, go_sem]
  · refine ⟨k * size, fun w => ?_, fun _ => rfl⟩
    simp [Instr.sliceAt, Instr.slice, run_underlying hT.und, Instr.sliceBounds, Instr.sliceBound, asIntOf, sizeOf, typeInfo, hi, hs, hk, h, go_sem, Go.WideShapes.add_plain]
theorem qexec_slice {P : Program} {w : World} {ev : Operand → Value} {o : Oper} {T : TypeId} {x : Operand} {lo hi : Option Operand} {xv v : Value} (ho : o.op = .slice T x lo hi none) (hx : ev x = xv)
    (h : ∀ w : World, (Instr.sliceAt T xv (lo.map ev) (hi.map ev) none).run P w = .ok v w) : (execOp ev o).run P w = .ok (.value v) w := by
  unfold execOp
  simp only [ho, hx, Option.map_none, Sem.run_bind, h, Result.andThen_ok, Sem.run_pure]
section
variable {P : Program} {ops : Array Oper} {o : Oper} {act : Act} {Q : Exit → Act → World → Prop} {w : World}
/-- Elements of any number are appended to a row of one's own. -/
theorem qrun_appE {T E : TypeId} {size bytes : Nat} (hT : RowTy P T E size bytes) (ty : TypeId)
    (B : Nat) (a : Option Addr) (n cap : Nat) (xs : List Value) (hown : Own w B E size a n cap xs)
    (a2 : Option Addr) (m c2 : Nat) (ys : List Value) (hl : ys.length = m * size) (hr : RdCq w a2 ys) (h1 : ∀ u ∈ ys, u.oneCell' = true)
    (h63 : n + m ≤ 1000000) (hby : bytes ≤ 100000) (hB : B ≤ w.heap.size) :
    ∃ a' cap' w', (Builtin.append_ #[T, T] ty #[.slice a n cap, .slice a2 m c2]).run P w = .ok (.slice a' (n + m) cap') w' ∧ Own w' B E size a' (n + m) cap' (xs ++ ys) ∧ w.grownBy w' (a.map (·.block)) ∧ Below B w w' ∧ (∀ g, a' = some ⟨g, 0, none⟩ → a.map (·.block) = some g ∨ w.heap.size ≤ g) := by
  by_cases hm : m = 0
  · subst hm
    obtain rfl : ys = [] := List.eq_nil_of_length_eq_zero (by omega)
    refine ⟨a, cap, w, run_app0Q hT ty a n cap hown.cap_le a2 c2 w, by simpa using hown, World.grownBy.refl _ _, Below.refl _ _, fun g hg => Or.inl (by rw [hg]; rfl)⟩
  · have h0 : 0 < ys.length := by rw [hl]; exact Nat.mul_pos (by omega) hT.pos
    obtain ⟨b2, off2, rfl, _⟩ := hr 0 _ (List.getElem?_eq_getElem h0)
    obtain ⟨g, cap', w', q1, q2, q3, q4, q5⟩ := run_appR hT ty B a n cap xs hown b2 off2 m c2 ys (by omega) hl (fun j u hj => by
      obtain ⟨b3, o3, e, hc⟩ := hr j u hj
      injection e with e
      injection e with e1 e2 _
      rw [e1, e2]
      exact hc) h1 (by omega) hby hB
    refine ⟨_, cap', w', q1, q2, q3, q4, fun g' hg => ?_⟩
    injection hg with hg
    injection hg with hg
    subst hg
    rcases q5 with q5 | q5
    · exact Or.inl q5
    · exact Or.inr (by omega)
theorem qstep_appE {T E : TypeId} {size bytes : Nat} {K : Act → World → Prop} {F : Prop} (hT : RowTy P T E size bytes) (hgd : o.guard = none) (s x : Operand) (ho : o.op = .call { callee := .builtin .append, args := #[s, x], argTypes := #[T, T] })
    (B : Nat) (a : Option Addr) (n cap : Nat) (xs : List Value) (hs : act.eval s = .slice a n cap) (hown : Own w B E size a n cap xs)
    (a2 : Option Addr) (m c2 : Nat) (ys : List Value) (hx : act.eval x = .slice a2 m c2) (hl : ys.length = m * size) (hr : RdCq w a2 ys) (h1 : ∀ u ∈ ys, u.oneCell' = true)
    (h63 : n + m ≤ 1000000) (hby : bytes ≤ 100000) (hB : B ≤ w.heap.size) (N : Nat) (hN : n + m = N) (zs : List Value) (hz : xs ++ ys = zs)
    (h : ∀ a' cap' w', Own w' B E size a' N cap' zs → w.grownBy w' (a.map (·.block)) → Below B w w' → (∀ g, a' = some ⟨g, 0, none⟩ → a.map (·.block) = some g ∨ w.heap.size ≤ g) → K (act.put o.dst (.slice a' N cap')) w') : if Region.wanted o (yielded ops act.tmps) = true then Oper.wp P o act w K Q else F := by
  subst hN
  subst hz
  have hw : Region.wanted o (yielded ops act.tmps) = true := by simp [Region.wanted, hgd]
  rw [if_pos hw]
  obtain ⟨a', cap', w', hrun, h2, h3, h4, h5⟩ := qrun_appE (P := P) hT o.type B a n cap xs hown a2 m c2 ys hl hr h1 h63 hby hB
  unfold Oper.wp execOp
  simp only [ho, resolve, invoke, builtin, Sem.run_bind, Sem.run_pure, Result.andThen_ok, List.map_toArray, List.map_cons, List.map_nil, hs, hx, hrun]
  exact h a' cap' w' h2 h3 h4 h5
end
set_option maxHeartbeats 2000000 in
theorem at_at (l : List Rq) (n : Nat) (hn : l.length = n) (hn2 : n ≤ 999999) (a : Option Addr) (c : Nat) (id : Int) (w : World) (hc : RdQu w a l) :
    Calls Tryz.prog 13 #[.slice a n c, .int .i64 id] w fun e w' => e = .returned (.int .i64 (atQ l id)) ∧ w' = w := by
  have HC := Lib.hid hc
  have HN := Lib.hid hn
  obtain ⟨v, hv⟩ : ∃ v, atQ l id = v := ⟨_, rfl⟩
  rw [hv]
  have HV := Lib.hid hv
  clear hc hn hv
  go_enter Tryz.func13, Tryz.ntmps13
  go_wp2
  go_loopw [5] (fun j wr => ∃ k : Nat, k ≤ n ∧ j = .int .i64 (k : Int) ∧ wr = w ∧ Hid (∀ i z, i < k → l[i]? = some z → idB id z = false)) (fun j _ => n - (intOf j).toNat)
  case atStart => exact ⟨0, by omega, rfl, rfl, Lib.hid (fun i z hi => by omega)⟩
  case round =>
    obtain ⟨k, hk, rfl, hww, HP⟩ := hrel
    subst hww
    by_cases hlt : k < n
    · have hkd : decide ((k : Int) < (n : Int)) = true := decide_eq_true (by omega)
      obtain ⟨z, hz⟩ : ∃ z, l[k]? = some z := ⟨_, List.getElem?_eq_getElem (by rw [HN.out]; exact hlt)⟩
      obtain ⟨g, rfl, cl⟩ := HC.out k z hz
      have c0 := cl.c0
      have hx0 : (0 : Int) ≤ (k : Int) := by omega
      have hx1 : (k : Int) < (n : Int) := by omega
      have HZ := Lib.hid hz
      clear hz cl
      by_cases hid : z.id = id
      · have hb : (z.id == id) = true := by simpa using hid
        have HE : Hid (v = (k : Int)) := Lib.hid (by rw [← HV.out]; exact atQ_yes HZ.out (decide_eq_true hid) HP.out)
        obtain ⟨zi, zh, zp, zr, zt⟩ := z
        dsimp only at c0 hid hb
        subst hid
        go_wp2
        go_ret
        exact ⟨by rw [HE.out]; rfl, rfl⟩
      · have hb : (z.id == id) = false := by simpa using hid
        have HP2 : Hid (∀ i z, i < k + 1 → l[i]? = some z → idB id z = false) := Lib.hid (fun i y hi hy => by
          by_cases hik : i = k
          · subst hik
            rw [HZ.out] at hy
            injection hy with hy
            subst hy
            exact decide_eq_false hid
          · exact HP.out i y (by omega) hy)
        obtain ⟨zi, zh, zp, zr, zt⟩ := z
        dsimp only at c0 hid hb
        clear HP HZ
        go_wp2
        go_roundw
        case rel => exact ⟨k + 1, by omega, by go_num, trivial, HP2⟩
        case measure =>
          simp only [intOf]
          omega
    · have hkd : decide ((k : Int) < (n : Int)) = false := decide_eq_false (by omega)
      have HE : Hid (v = -1) := Lib.hid (by
        rw [← HV.out]
        refine atQ_no fun x hx => ?_
        obtain ⟨i, hi⟩ := List.mem_iff_getElem?.1 hx
        have := (List.getElem?_eq_some_iff.1 hi).1
        exact HP.out i x (by have := HN.out; omega) hi)
      clear HP
      go_wp2
      go_ret
      exact ⟨by rw [HE.out]; rfl, rfl⟩
end Go.Proofs.YtimkgaokcldgkaaGreatDoor
/- The document's Without and Insert. -/
namespace Go.Proofs.YtimkgaokcldgkaaGreatDoor
open Go Go.RowKit
set_option linter.unusedVariables false
set_option linter.unusedSimpArgs false
set_option maxRecDepth 10000

theorem new0 {wl wc : World} (h : Below wl.heap.size wl wc) : ∃ wB b, wc.alloc (.cells #[] 35) = wB ∧ wc.heap.size = b ∧ Below wl.heap.size wl wB ∧ Own wB wl.heap.size 35 5 (some ⟨b, 0, none⟩) 0 0 [] ∧ Below wc.heap.size wc wB :=
  ⟨_, _, rfl, rfl, h.alloc h.size _, Own.lit (cs := #[]) h.size (by omega) rfl, (Below.refl _ _).alloc (Nat.le_refl _) _⟩
/-- An element of one's own, laid to be appended. -/
structure ElC (wl wc : World) (be : Nat) (ys : List Value) : Prop where
  rd : RdCq wc (some ⟨be, 0, none⟩) ys
  hi : be < wc.heap.size
theorem ElC.later {wl w w' : World} {be : Nat} {ys : List Value} (h : ElC wl w be ys) (hb : Below w.heap.size w w') : ElC wl w' be ys := ⟨h.rd.later hb, Nat.lt_of_lt_of_le h.hi hb.size⟩
theorem ElC.grown {wl w w' : World} {be : Nat} {ys : List Value} {row : Option Nat} (h : ElC wl w be ys) (hg : w.grownBy w' row) (hn : row ≠ some be) : ElC wl w' be ys :=
  ⟨fun j u hj => by
    obtain ⟨b, o, e, hc⟩ := h.rd j u hj
    injection e with e
    injection e with e1 e2 _
    subst e1
    subst e2
    exact ⟨_, _, rfl, (cell_blk (hg.block be h.hi (fun e => hn e.symm)) _).trans hc⟩, Nat.lt_of_lt_of_le h.hi hg.size⟩
theorem newR {wl wc : World} (r : Rq) (h : Below wl.heap.size wl wc) : ∃ wB b, wc.alloc (.cells (rqA r) 35) = wB ∧ wc.heap.size = b ∧ Below wl.heap.size wl wB ∧ ElC wl wB b (rqL r) ∧ Below wc.heap.size wc wB := by
  refine ⟨_, _, rfl, rfl, h.alloc h.size _, ⟨fun j u hj => ⟨_, 0, rfl, ?_⟩, by simp⟩, (Below.refl _ _).alloc (Nat.le_refl _) _⟩
  have hb := heap_alloc_new wc (.cells (rqA r) 35)
  rw [Nat.zero_add]
  unfold World.cell?
  rw [hb]
  show (rqA r)[j]? = some u
  rw [← Array.getElem?_toList, rqA_list]
  exact hj
/-- What comes of the document's list functions. -/
def RowP (rs : List Rq) (n : Nat) (w : World) (e : Ending) (w' : World) : Prop := ∃ a' c', e = .returned (.slice a' n c') ∧ Own w' w.heap.size 35 5 a' n c' (rqC rs) ∧ Below w.heap.size w w'
set_option maxHeartbeats 4000000 in
theorem rwo_at (l : List Rq) (n : Nat) (hn : l.length = n) (hn2 : n ≤ 999999) (B g c k : Nat) (hk : k < n) (wl : World) (ho : Own wl B 35 5 (some ⟨g, 0, none⟩) n c (rqC l)) :
    Calls Tryz.prog 15 #[.slice (some ⟨g, 0, none⟩) n c, .int .i64 k] wl (RowP (l.take k ++ l.drop (k + 1)) (n - 1) wl) := by
  have hnc := ho.cap_le
  have RD := Lib.hid (by rw [← hn] at ho; exact ho.rdQ : RdQu wl (some ⟨g, 0, none⟩) l)
  obtain ⟨off, hu, hof⟩ := qsliceFrom_off rowQu g n c (k + 1) (by omega) hnc
  rw [show ((k + 1 : Nat) : Int) = (k : Int) + 1 by omega] at hu
  have HU := Lib.hid hu
  have HO : Hid (k + 1 < l.length → ∀ g' : Nat, (some ⟨g, 0, none⟩ : Option Addr) = some ⟨g', 0, none⟩ → (some ⟨g, off, none⟩ : Option Addr) = some ⟨g', (k + 1) * 5, none⟩) := Lib.hid (fun h g' e => by
    injection e with e
    injection e with e
    rw [e, hof (by omega)])
  have LT : Hid ((rqC (l.take k)).length = k * 5) := Lib.hid (by rw [rqC_len, List.length_take]; omega)
  have LD : Hid ((rqC (l.drop (k + 1))).length = (n - (k + 1)) * 5) := Lib.hid (by rw [rqC_len, List.length_drop, hn])
  have HZ : Hid (rqC (l.take k) ++ rqC (l.drop (k + 1)) = rqC (l.take k ++ l.drop (k + 1))) := Lib.hid (rqC_app _ _).symm
  have HKC : Hid (k ≤ c) := Lib.hid (by omega)
  have FIN : Hid (∀ a' c' w', Own w' wl.heap.size 35 5 a' (n - 1) c' (rqC (l.take k ++ l.drop (k + 1))) → Below wl.heap.size wl w' → RowP (l.take k ++ l.drop (k + 1)) (n - 1) wl (.returned (.slice a' (n - 1) c')) w') := Lib.hid (fun a' c' w' h1 h2 => ⟨a', c', rfl, h1, h2⟩)
  have hwk : IntKind.i64.wrap ((k : Int) + 1) = (k : Int) + 1 := IntWalk.i64_in _ (by omega)
  clear ho hn hu hof
  go_enter Tryz.func15, Tryz.ntmps15
  go_upto_region 1 with fail
  refine wp_region_last 10 (fun w' => Below wl.heap.size wl w') (by kernel_rfl) ((Below.refl _ _).drew) (fun hHeld hClosed => ?_)
  generalize wl.drew = wc at hHeld ⊢
  refine wtk (i := 1) (v := ?_) rfl hClosed (Or.inl ⟨by rfl, ?_⟩) hHeld (fun hClosed => ?_)
  rotate_left
  · intro wv hSw; go_simp; all_goals (with_reducible rfl)
  (try simp only [List.getElem_toArray, List.getElem_cons_succ, List.getElem_cons_zero, put_at, List.set])
  refine wtk (i := 2) (v := ?_) rfl hClosed (Or.inl ⟨by rfl, ?_⟩) hHeld (fun hClosed => ?_)
  rotate_left
  · intro wv hSw; go_simp; all_goals (with_reducible rfl)
  (try simp only [List.getElem_toArray, List.getElem_cons_succ, List.getElem_cons_zero, put_at, List.set])
  refine wtk (i := 3) (v := .slice (some ⟨g, 0, none⟩) k c) rfl hClosed (Or.inl ⟨by rfl, ?_⟩) hHeld (fun hClosed => ?_)
  · intro wv hSw; exact qexec_slice (by rfl) (by rfl) (fun w => sliceTo_run rowQu (some ⟨g, 0, none⟩) n c k HKC.out w (fun e => by cases e))
  (try simp only [List.getElem_toArray, List.getElem_cons_succ, List.getElem_cons_zero, put_at, List.set])
  refine wtk (i := 5) (v := ?_) rfl hClosed (Or.inl ⟨by rfl, ?_⟩) hHeld (fun hClosed => ?_)
  rotate_left
  · intro wv hSw; go_simp; all_goals (with_reducible rfl)
  (try simp only [List.getElem_toArray, List.getElem_cons_succ, List.getElem_cons_zero, put_at, List.set])
  refine wtk (i := 6) (v := ?_) rfl hClosed (Or.inl ⟨by rfl, ?_⟩) hHeld (fun hClosed => ?_)
  rotate_left
  · intro wv hSw; go_simp; all_goals (with_reducible rfl)
  (try simp only [List.getElem_toArray, List.getElem_cons_succ, List.getElem_cons_zero, put_at, List.set])
  refine wtk (i := 7) (v := ?_) rfl hClosed (Or.inl ⟨by rfl, ?_⟩) hHeld (fun hClosed => ?_)
  rotate_left
  · intro wv hSw; go_simp; all_goals (with_reducible rfl)
  (try simp only [List.getElem_toArray, List.getElem_cons_succ, List.getElem_cons_zero, put_at, List.set])
  refine wtk (i := 8) (v := .slice (some ⟨g, off, none⟩) (n - (k + 1)) (c - (k + 1))) rfl hClosed (Or.inl ⟨by rfl, ?_⟩) hHeld (fun hClosed => ?_)
  · intro wv hSw; exact qexec_slice (by rfl) (by rfl) HU.out
  (try simp only [List.getElem_toArray, List.getElem_cons_succ, List.getElem_cons_zero, put_at, List.set])
  refine wpAnyL_one (i := 0) rfl (by kernel_rfl) (by kernel_rfl) hClosed (fun KK hK => ?_)
  go_simp
  obtain ⟨wc1, ba, hw1, hb1, L1, oe, X1⟩ := new0 hHeld
  rw [hw1, hb1]
  clear hw1 hb1
  refine hK.out _ _ ?_ (fun hClosed hHeld => ?_)
  · exact L1
  clear hK KK
  (first | simp only [List.getElem_toArray, List.getElem_cons_zero, put_at, List.set] | (try simp only [put_at, List.set]))
  have OE := Lib.hid oe
  clear oe L1 X1
  refine wpAnyL_one (i := 4) rfl (by kernel_rfl) (by kernel_rfl) hClosed (fun KK hK => ?_)
  refine qstep_appE rowQu rfl _ _ rfl wl.heap.size (some ⟨ba, 0, none⟩) 0 0 ([]) rfl OE.out (some ⟨g, 0, none⟩) k c (rqC (l.take k)) rfl LT.out ((RD.out.later hHeld).head k) (rqC_one _) (by omega) (by decide) hHeld.size k (by omega) (rqC (l.take k)) rfl ?_
  rintro a1 c1 w1 q1 q2 q3 q4
  refine hK.out _ _ ?_ (fun hClosed hHeld => ?_)
  · exact hHeld.trans q3
  clear hK KK
  (first | simp only [List.getElem_toArray, List.getElem_cons_succ, List.getElem_cons_zero, put_at, List.set] | (try simp only [put_at, List.set]))
  clear OE
  have OE := Lib.hid q1
  clear q1 q2 q3 q4
  refine wpAnyL_one (i := 9) rfl (by kernel_rfl) (by kernel_rfl) hClosed (fun KK hK => ?_)
  refine qstep_appE rowQu rfl _ _ rfl wl.heap.size a1 k c1 (rqC (l.take k)) rfl OE.out (some ⟨g, off, none⟩) (n - (k + 1)) (c - (k + 1)) (rqC (l.drop (k + 1))) rfl LD.out ((RD.out.later hHeld).tail HO.out) (rqC_one _) (by omega) (by decide) hHeld.size (n - 1) (by omega) (rqC (l.take k ++ l.drop (k + 1))) HZ.out ?_
  rintro a2 c2 w2 q1 q2 q3 q4
  refine hK.out _ _ ?_ (fun hClosed hHeld => ?_)
  · exact hHeld.trans q3
  clear hK KK
  (first | simp only [List.getElem_toArray, List.getElem_cons_succ, List.getElem_cons_zero, put_at, List.set] | (try simp only [put_at, List.set]))
  have FF := FIN.out a2 c2 w2 q1 hHeld
  clear q1 q2 q3 q4 OE FIN
  refine wpAnyL_last rfl (by kernel_rfl) (by kernel_rfl) (fun KK hK => ?_)
  go_simp
  refine hK.out _ _ ?_
  (try simp only [put_at, List.set])
  go_wp2
  go_ret
  exact FF

theorem sliceNil_run {P : Program} {T E : TypeId} {size bytes : Nat} (hT : RowTy P T E size bytes) (w : World) : (Instr.sliceAt T (.slice none 0 0) (some (.int .i64 ((0 : Nat) : Int))) none none).run P w = .ok (.slice none (0 - 0) (0 - 0)) w := by
  obtain ⟨i, z, hi, hz, hs, hb, hzs⟩ := hT.parts
  simp [Instr.sliceAt, Instr.slice, run_underlying hT.und, Instr.sliceBounds, Instr.sliceBound, asIntOf, sizeOf, typeInfo, hi, go_sem]
set_option maxHeartbeats 8000000 in
theorem rins_at (l : List Rq) (n : Nat) (hn : l.length = n) (hn2 : n ≤ 900000) (B : Nat) (a : Option Addr) (c : Nat) (r : Rq) (w : World) (ho : Own w B 35 5 a n c (rqC l)) :
    Calls Tryz.prog 12 #[.slice a n c, .agg (rqA r)] w (RowP (insQ l r) (n + 1) w) := by
  have hnc := ho.cap_le
  have RD := Lib.hid (by rw [← hn] at ho; exact ho.rdQ : RdQu w a l)
  have HN := Lib.hid hn
  have NC : Hid (a = none → c = 0) := Lib.hid (fun e => by
    rcases ho.form with ⟨_, _, h⟩ | ⟨g, h, _⟩
    · exact h
    · rw [e] at h; cases h)
  have FRM : Hid (∀ i, i ≤ n → ∃ b2, (∀ W : World, (Instr.sliceAt 38 (.slice a n c) (some (.int .i64 (i : Int))) none none).run Tryz.prog W = .ok (.slice b2 (n - i) (c - i)) W) ∧ (i < l.length → ∀ g, a = some ⟨g, 0, none⟩ → b2 = some ⟨g, i * 5, none⟩)) := Lib.hid (fun i hi => by
    rcases ho.form with ⟨h1, h2, h3⟩ | ⟨g, h, _⟩
    · subst h1 h2 h3
      obtain rfl : i = 0 := by omega
      exact ⟨none, fun W => sliceNil_run rowQu W, fun hl => by omega⟩
    · subst h
      obtain ⟨off, h1, h2⟩ := qsliceFrom_off rowQu g n c i hi hnc
      exact ⟨_, h1, fun hl g' e => by
        injection e with e
        injection e with e
        rw [e, h2 (by omega)]⟩)
  have BN := Lib.hid (Box.new w (rqA r) 35)
  have BB := Lib.hid ((Below.refl w.heap.size w).alloc (Nat.le_refl _) (.cells (rqA r) 35))
  clear ho hn
  obtain ⟨ri, rh, rp, rr, rt⟩ := r
  go_enter Tryz.func12, Tryz.ntmps12
  unfold rqA at BN BB ⊢
  dsimp only at BN BB ⊢
  go_upto_region 1 with fail
  obtain ⟨w1, hw1⟩ : ∃ W, w.alloc (.cells #[.int .i64 ri, .string rh, .string rp, .int .i64 rr, .int .i64 rt] 35) = W := ⟨_, rfl⟩
  rw [hw1] at BN BB
  rw [hw1]
  clear hw1
  have lq := BN.out.lt
  go_wp2_with fail
  go_loopw [5] (fun j wr => ∃ i : Nat, i ≤ n ∧ j = .int .i64 (i : Int) ∧ Hid (Below w1.heap.size w1 wr) ∧ Hid (∀ k z, k < i → l[k]? = some z → Bef z ⟨ri, rh, rp, rr, rt⟩)) (fun j _ => n - (intOf j).toNat)
  case atStart => exact ⟨0, by omega, rfl, Lib.hid (Below.refl _ _), Lib.hid (fun i z hi => by omega)⟩
  case round =>
    obtain ⟨i, hi, rfl, BR, HP⟩ := hrel
    obtain ⟨wl, rfl⟩ : ∃ W, W = wr := ⟨_, rfl⟩
    have BX := Lib.hid (BN.out.later BR.out)
    have hx0 : (0 : Int) ≤ (i : Int) := by omega
    have POST : Hid ((∀ x, l[i]? = some x → ¬ Bef x ⟨ri, rh, rp, rr, rt⟩) → ∀ wq, Below wl.heap.size wl wq → ∀ (act : Act), True) := Lib.hid (fun _ _ _ _ => trivial)
    clear POST
    obtain ⟨bb, hbb⟩ : ∃ b : Bool, (∃ x, l[i]? = some x ∧ Bef x ⟨ri, rh, rp, rr, rt⟩ ∧ b = true) ∨ ((∀ x, l[i]? = some x → ¬ Bef x ⟨ri, rh, rp, rr, rt⟩) ∧ b = false) := by
      cases hg : l[i]? with
      | none => exact ⟨false, Or.inr ⟨fun x hx => (by cases hx), rfl⟩⟩
      | some x =>
        by_cases hb : Bef x ⟨ri, rh, rp, rr, rt⟩
        · exact ⟨true, Or.inl ⟨x, rfl, hb, rfl⟩⟩
        · exact ⟨false, Or.inr ⟨fun y hy => by injection hy with hy; rw [← hy]; exact hb, rfl⟩⟩
    have HBB := Lib.hid hbb
    clear hbb
    go_upto_region 2 with fail
    go_cut [17] (fun v wx => v = .bool bb ∧ Hid (Below wl.heap.size wl wx))
    case first =>
      by_cases hlt : i < n
      · have hkd : decide ((i : Int) < (n : Int)) = true := decide_eq_true (by omega)
        have hx1 : (i : Int) < (n : Int) := by omega
        obtain ⟨z, hz⟩ : ∃ z, l[i]? = some z := ⟨_, List.getElem?_eq_getElem (by rw [HN.out]; exact hlt)⟩
        obtain ⟨g1, rfl, m⟩ := (RD.out.later (BB.out.trans (BR.out.mono BB.out.size))) i z hz
        have m0 := m.c0
        have m1 := m.c1
        have m2 := m.c2
        have m3 := m.c3
        have m4 := m.c4
        have k0 := BX.out.cell 0
        have k1 := BX.out.cell 1
        have k2 := BX.out.cell 2
        have k3 := BX.out.cell 3
        have k4 := BX.out.cell 4
        have lX := BX.out.lt
        have BF := Lib.hid (fun W => before_at z ⟨ri, rh, rp, rr, rt⟩ W)
        have EB : Hid (befB z ⟨ri, rh, rp, rr, rt⟩ = bb) := Lib.hid (by
          rcases HBB.out with ⟨x, hx, hb, e⟩ | ⟨hb, e⟩
          · rw [hz] at hx
            injection hx with hx
            subst hx
            rw [e]
            exact decide_eq_true hb
          · rw [e]
            exact decide_eq_false (hb z hz))
        unfold rqA at BF
        obtain ⟨zi, zh, zp, zr, zt⟩ := z
        dsimp only at m0 m1 m2 m3 m4 BF
        rw [EB.out] at BF
        clear m hz EB HBB
        go_still_tail 10, (by kernel_rfl)
        change wpList _ _ _ _ _ wl.drew
        have BD : Hid (Below wl.heap.size wl wl.drew) := Lib.hid (Below.refl _ _).drew
        generalize wl.drew = w9 at BD ⊢
        go_wp2_with fail
        refine (BF.out _).mono ?_
        rintro e w10 ⟨rfl, b10⟩
        have BR10 := Lib.hid (BD.out.trans (b10.mono BD.out.size))
        clear b10 BD BF m0 m1 m2 m3 m4 k0 k1 k2 k3 k4
        go_wp2
        go_meet
        exact ⟨rfl, BR10⟩
      · have hkd : decide ((i : Int) < (n : Int)) = false := decide_eq_false (by omega)
        have hcc : bb = false := by
          rcases HBB.out with ⟨x, hx, _, _⟩ | ⟨_, e⟩
          · have := (List.getElem?_eq_some_iff.1 hx).1
            have := HN.out
            omega
          · exact e
        subst hcc
        go_quiet (fail)
        go_wp2
        go_meet
        exact ⟨rfl, Lib.hid (qbin_drewN (Below.refl _ _) nq)⟩
    case rest =>
      obtain ⟨rfl, BC⟩ := hcut
      clear BX
      obtain ⟨wk, hwk⟩ : ∃ W, wc = W := ⟨_, rfl⟩
      rw [hwk] at BC ⊢
      clear hwk
      have BR2 := Lib.hid (BR.out.trans (BC.out.mono BR.out.size))
      clear BR BC
      cases bb with
      | true =>
        have HB : Hid (i < n ∧ ∀ k z, k < i + 1 → l[k]? = some z → Bef z ⟨ri, rh, rp, rr, rt⟩) := Lib.hid (by
          rcases HBB.out with ⟨x, hx, hb, _⟩ | ⟨_, e⟩
          · refine ⟨by have := (List.getElem?_eq_some_iff.1 hx).1; have := HN.out; omega, fun k z hk hz => ?_⟩
            by_cases hki : k = i
            · subst hki
              rw [hx] at hz
              injection hz with hz
              rw [← hz]; exact hb
            · exact HP.out k z (by omega) hz
          · cases e)
        obtain ⟨hlt, hP⟩ := HB.out
        have HP2 := Lib.hid hP
        clear hP HB HBB HP
        go_wp2
        go_roundw
        case rel => exact ⟨i + 1, by omega, by go_num, BR2, HP2⟩
        case measure =>
          simp only [intOf]
          omega
      | false =>
        have HQ : Hid (posQ l ⟨ri, rh, rp, rr, rt⟩ = i) := Lib.hid (posQ_of (by rw [HN.out]; exact hi) (fun j x hj hx => HP.out j x hj hx) (by
          rcases HBB.out with ⟨_, _, _, e⟩ | ⟨h, _⟩
          · cases e
          · exact h))
        clear HBB HP
        obtain ⟨b2, hb2, ho2⟩ := FRM.out i hi
        have HU := Lib.hid hb2
        have HO := Lib.hid ho2
        have HNC := NC
        have HKC : Hid (i ≤ c) := Lib.hid (by omega)
        have LT : Hid ((rqC (l.take i)).length = i * 5) := Lib.hid (by rw [rqC_len, List.length_take, HN.out]; omega)
        have LD : Hid ((rqC (l.drop i)).length = (n - i) * 5) := Lib.hid (by rw [rqC_len, List.length_drop, HN.out])
        have HZ1 : Hid (rqC (l.take i) ++ rqL ⟨ri, rh, rp, rr, rt⟩ = rqC (l.take i ++ [⟨ri, rh, rp, rr, rt⟩])) := Lib.hid (by rw [rqC_app, rqC_cons, rqC_nil, List.append_nil])
        have HZ : Hid (rqC (l.take i ++ [⟨ri, rh, rp, rr, rt⟩]) ++ rqC (l.drop i) = rqC (insQ l ⟨ri, rh, rp, rr, rt⟩)) := Lib.hid (by rw [← rqC_app]; unfold insQ; rw [HQ.out]; simp)
        have BL := Lib.hid (BB.out.trans (BR2.out.mono BB.out.size))
        have FIN : Hid (∀ a' c' w', Own w' wk.heap.size 35 5 a' (n + 1) c' (rqC (insQ l ⟨ri, rh, rp, rr, rt⟩)) → Below wk.heap.size wk w' → RowP (insQ l ⟨ri, rh, rp, rr, rt⟩) (n + 1) w (.returned (.slice a' (n + 1) c')) w') := Lib.hid (fun a' c' w' h1 h2 => ⟨a', c', rfl, h1.mono BL.out.size, BL.out.trans (h2.mono BL.out.size)⟩)
        have RD2 := Lib.hid (RD.out.later BL.out)
        have BX2 := Lib.hid (BN.out.later BR2.out)
        have lX := BX2.out.lt
        clear hb2 ho2 HQ FRM NC RD BN BR2 BB BL HN
        have RD := RD2
        have BX := BX2
        clear RD2 BX2
        obtain ⟨wl, rfl⟩ : ∃ W, W = wk := ⟨_, rfl⟩
        go_upto_region 4 with fail
        refine wp_region_last 12 (fun w' => Below wl.heap.size wl w') (by kernel_rfl) ((Below.refl _ _).drew) (fun hHeld hClosed => ?_)
        generalize wl.drew = wc at hHeld ⊢
        refine wtk (i := 1) (v := ?_) rfl hClosed (Or.inl ⟨by rfl, ?_⟩) hHeld (fun hClosed => ?_)
        rotate_left
        · intro wv hSw; go_simp; all_goals (with_reducible rfl)
        (try simp only [List.getElem_toArray, List.getElem_cons_succ, List.getElem_cons_zero, put_at, List.set])
        refine wtk (i := 2) (v := ?_) rfl hClosed (Or.inl ⟨by rfl, ?_⟩) hHeld (fun hClosed => ?_)
        rotate_left
        · intro wv hSw; go_simp; all_goals (with_reducible rfl)
        (try simp only [List.getElem_toArray, List.getElem_cons_succ, List.getElem_cons_zero, put_at, List.set])
        refine wtk (i := 3) (v := .slice a i c) rfl hClosed (Or.inl ⟨by rfl, ?_⟩) hHeld (fun hClosed => ?_)
        · intro wv hSw; exact qexec_slice (by rfl) (by rfl) (fun w => sliceTo_run rowQu a n c i HKC.out w HNC.out)
        (try simp only [List.getElem_toArray, List.getElem_cons_succ, List.getElem_cons_zero, put_at, List.set])
        refine wtk (i := 5) (v := .agg #[.int .i64 ri, .string rh, .string rp, .int .i64 rr, .int .i64 rt]) rfl hClosed (Or.inl ⟨by rfl, ?_⟩) hHeld (fun hClosed => ?_)
        · intro wv hSw; exact exec_load_box (by rfl) (by rfl) (BX.out.later hSw) Tryz.underlying35 rfl (by kernel_rfl)
        (try simp only [List.getElem_toArray, List.getElem_cons_succ, List.getElem_cons_zero, put_at, List.set])
        refine wtk (i := 8) (v := ?_) rfl hClosed (Or.inl ⟨by rfl, ?_⟩) hHeld (fun hClosed => ?_)
        rotate_left
        · intro wv hSw; go_simp; all_goals (with_reducible rfl)
        (try simp only [List.getElem_toArray, List.getElem_cons_succ, List.getElem_cons_zero, put_at, List.set])
        refine wtk (i := 9) (v := ?_) rfl hClosed (Or.inl ⟨by rfl, ?_⟩) hHeld (fun hClosed => ?_)
        rotate_left
        · intro wv hSw; go_simp; all_goals (with_reducible rfl)
        (try simp only [List.getElem_toArray, List.getElem_cons_succ, List.getElem_cons_zero, put_at, List.set])
        refine wtk (i := 10) (v := .slice b2 (n - i) (c - i)) rfl hClosed (Or.inl ⟨by rfl, ?_⟩) hHeld (fun hClosed => ?_)
        · intro wv hSw; exact qexec_slice (by rfl) (by rfl) HU.out
        (try simp only [List.getElem_toArray, List.getElem_cons_succ, List.getElem_cons_zero, put_at, List.set])
        refine wpAnyL_two (i := 0) (j := 6) rfl rfl (by kernel_rfl) (by kernel_rfl) (by kernel_rfl) hClosed (fun KK hK => ?_) (fun KK hK => ?_)
        · go_simp
          obtain ⟨wc1, ba, hw1, hb1, L1, oe, X1⟩ := new0 hHeld
          rw [hw1, hb1]
          refine hK.out _ _ ?_ (fun hClosed hHeld => ?_)
          · exact L1
          clear hK KK
          (first | simp only [List.getElem_toArray, List.getElem_cons_zero, put_at, List.set] | (try simp only [put_at, List.set]))
          have OE := Lib.hid oe
          clear oe L1 X1 hw1 hb1
          refine wpAnyL_two (i := 4) (j := 6) rfl rfl (by kernel_rfl) (by kernel_rfl) (by kernel_rfl) hClosed (fun KK hK => ?_) (fun KK hK => ?_)
          · refine qstep_appE rowQu rfl _ _ rfl wl.heap.size (some ⟨ba, 0, none⟩) 0 0 ([]) rfl OE.out a i c (rqC (l.take i)) rfl LT.out ((RD.out.later hHeld).head i) (rqC_one _) (by omega) (by decide) hHeld.size i (by omega) (rqC (l.take i)) rfl ?_
            rintro a1 c1 w1 q1 q2 q3 q4
            refine hK.out _ _ ?_ (fun hClosed hHeld => ?_)
            · exact hHeld.trans q3
            clear hK KK
            (first | simp only [List.getElem_toArray, List.getElem_cons_succ, List.getElem_cons_zero, put_at, List.set] | (try simp only [put_at, List.set]))
            clear OE
            have OE := Lib.hid q1
            clear q1 q2 q3 q4
            refine wpAnyL_one (i := 6) rfl (by kernel_rfl) (by kernel_rfl) hClosed (fun KK hK => ?_)
            go_simp
            obtain ⟨wc2, be, hw2, hb2, L2, ce, X2⟩ := newR ⟨ri, rh, rp, rr, rt⟩ hHeld
            unfold rqA at hw2
            dsimp only at hw2
            rw [hw2, hb2]
            refine hK.out _ _ ?_ (fun hClosed hHeld => ?_)
            · exact L2
            clear hK KK
            (first | simp only [List.getElem_toArray, List.getElem_cons_succ, List.getElem_cons_zero, put_at, List.set] | (try simp only [put_at, List.set]))
            have CE := Lib.hid ce
            have NE : Hid ((a1 : Option Addr).map (·.block) ≠ some be) := Lib.hid (fun e => by have h1 := (qown_lt OE.out (qown_block5 OE.out e)).1; omega)
            have OE2 := Lib.hid (OE.out.later X2)
            clear OE
            have OE := OE2
            clear OE2
            clear ce L2 X2 hw2 hb2
            refine wpAnyL_one (i := 7) rfl (by kernel_rfl) (by kernel_rfl) hClosed (fun KK hK => ?_)
            refine qstep_appE rowQu rfl _ _ rfl wl.heap.size a1 i c1 (rqC (l.take i)) rfl OE.out (some ⟨be, 0, none⟩) 1 1 (rqL ⟨ri, rh, rp, rr, rt⟩) rfl rfl (CE.out.rd) (rqL_one _) (by omega) (by decide) hHeld.size (i + 1) (by omega) (rqC (l.take i ++ [⟨ri, rh, rp, rr, rt⟩])) HZ1.out ?_
            rintro a2 c2 w2 q1 q2 q3 q4
            refine hK.out _ _ ?_ (fun hClosed hHeld => ?_)
            · exact hHeld.trans q3
            clear hK KK
            (first | simp only [List.getElem_toArray, List.getElem_cons_succ, List.getElem_cons_zero, put_at, List.set] | (try simp only [put_at, List.set]))
            clear OE CE NE
            have OE := Lib.hid q1
            clear q1 q2 q3 q4
            refine wpAnyL_one (i := 11) rfl (by kernel_rfl) (by kernel_rfl) hClosed (fun KK hK => ?_)
            refine qstep_appE rowQu rfl _ _ rfl wl.heap.size a2 (i + 1) c2 (rqC (l.take i ++ [⟨ri, rh, rp, rr, rt⟩])) rfl OE.out b2 (n - i) (c - i) (rqC (l.drop i)) rfl LD.out ((RD.out.later hHeld).tail HO.out) (rqC_one _) (by omega) (by decide) hHeld.size (n + 1) (by omega) (rqC (insQ l ⟨ri, rh, rp, rr, rt⟩)) HZ.out ?_
            rintro a3 c3 w3 q1 q2 q3 q4
            refine hK.out _ _ ?_ (fun hClosed hHeld => ?_)
            · exact hHeld.trans q3
            clear hK KK
            (first | simp only [List.getElem_toArray, List.getElem_cons_succ, List.getElem_cons_zero, put_at, List.set] | (try simp only [put_at, List.set]))
            have FF := FIN.out a3 c3 w3 q1 hHeld
            clear q1 q2 q3 q4 OE FIN
            refine wpAnyL_last rfl (by kernel_rfl) (by kernel_rfl) (fun KK hK => ?_)
            go_simp
            refine hK.out _ _ ?_
            (try simp only [put_at, List.set])
            go_wp2
            go_ret
            exact FF
          · go_simp
            obtain ⟨wc2, be, hw2, hb2, L2, ce, X2⟩ := newR ⟨ri, rh, rp, rr, rt⟩ hHeld
            unfold rqA at hw2
            dsimp only at hw2
            rw [hw2, hb2]
            refine hK.out _ _ ?_ (fun hClosed hHeld => ?_)
            · exact L2
            clear hK KK
            (first | simp only [List.getElem_toArray, List.getElem_cons_succ, List.getElem_cons_zero, put_at, List.set] | (try simp only [put_at, List.set]))
            have CE := Lib.hid ce
            have NE : Hid (((some ⟨ba, 0, none⟩) : Option Addr).map (·.block) ≠ some be) := Lib.hid (fun e => by have h1 := (qown_lt OE.out (qown_block5 OE.out e)).1; omega)
            have OE2 := Lib.hid (OE.out.later X2)
            clear OE
            have OE := OE2
            clear OE2
            clear ce L2 X2 hw2 hb2
            refine wpAnyL_one (i := 4) rfl (by kernel_rfl) (by kernel_rfl) hClosed (fun KK hK => ?_)
            refine qstep_appE rowQu rfl _ _ rfl wl.heap.size (some ⟨ba, 0, none⟩) 0 0 ([]) rfl OE.out a i c (rqC (l.take i)) rfl LT.out ((RD.out.later hHeld).head i) (rqC_one _) (by omega) (by decide) hHeld.size i (by omega) (rqC (l.take i)) rfl ?_
            rintro a1 c1 w1 q1 q2 q3 q4
            refine hK.out _ _ ?_ (fun hClosed hHeld => ?_)
            · exact hHeld.trans q3
            clear hK KK
            (first | simp only [List.getElem_toArray, List.getElem_cons_succ, List.getElem_cons_zero, put_at, List.set] | (try simp only [put_at, List.set]))
            have CE2 := Lib.hid (CE.out.grown q2 NE.out)
            have NE2 : Hid ((a1 : Option Addr).map (·.block) ≠ some be) := Lib.hid (fun e => by rcases q4 be (qown_block5 q1 e) with h | h; exact NE.out h; have h1 := CE.out.hi; omega)
            clear CE NE
            have CE := CE2
            have NE := NE2
            clear CE2 NE2
            clear OE
            have OE := Lib.hid q1
            clear q1 q2 q3 q4
            refine wpAnyL_one (i := 7) rfl (by kernel_rfl) (by kernel_rfl) hClosed (fun KK hK => ?_)
            refine qstep_appE rowQu rfl _ _ rfl wl.heap.size a1 i c1 (rqC (l.take i)) rfl OE.out (some ⟨be, 0, none⟩) 1 1 (rqL ⟨ri, rh, rp, rr, rt⟩) rfl rfl (CE.out.rd) (rqL_one _) (by omega) (by decide) hHeld.size (i + 1) (by omega) (rqC (l.take i ++ [⟨ri, rh, rp, rr, rt⟩])) HZ1.out ?_
            rintro a2 c2 w2 q1 q2 q3 q4
            refine hK.out _ _ ?_ (fun hClosed hHeld => ?_)
            · exact hHeld.trans q3
            clear hK KK
            (first | simp only [List.getElem_toArray, List.getElem_cons_succ, List.getElem_cons_zero, put_at, List.set] | (try simp only [put_at, List.set]))
            clear OE CE NE
            have OE := Lib.hid q1
            clear q1 q2 q3 q4
            refine wpAnyL_one (i := 11) rfl (by kernel_rfl) (by kernel_rfl) hClosed (fun KK hK => ?_)
            refine qstep_appE rowQu rfl _ _ rfl wl.heap.size a2 (i + 1) c2 (rqC (l.take i ++ [⟨ri, rh, rp, rr, rt⟩])) rfl OE.out b2 (n - i) (c - i) (rqC (l.drop i)) rfl LD.out ((RD.out.later hHeld).tail HO.out) (rqC_one _) (by omega) (by decide) hHeld.size (n + 1) (by omega) (rqC (insQ l ⟨ri, rh, rp, rr, rt⟩)) HZ.out ?_
            rintro a3 c3 w3 q1 q2 q3 q4
            refine hK.out _ _ ?_ (fun hClosed hHeld => ?_)
            · exact hHeld.trans q3
            clear hK KK
            (first | simp only [List.getElem_toArray, List.getElem_cons_succ, List.getElem_cons_zero, put_at, List.set] | (try simp only [put_at, List.set]))
            have FF := FIN.out a3 c3 w3 q1 hHeld
            clear q1 q2 q3 q4 OE FIN
            refine wpAnyL_last rfl (by kernel_rfl) (by kernel_rfl) (fun KK hK => ?_)
            go_simp
            refine hK.out _ _ ?_
            (try simp only [put_at, List.set])
            go_wp2
            go_ret
            exact FF
        · go_simp
          obtain ⟨wc2, be, hw2, hb2, L2, ce, X2⟩ := newR ⟨ri, rh, rp, rr, rt⟩ hHeld
          unfold rqA at hw2
          dsimp only at hw2
          rw [hw2, hb2]
          refine hK.out _ _ ?_ (fun hClosed hHeld => ?_)
          · exact L2
          clear hK KK
          (first | simp only [List.getElem_toArray, List.getElem_cons_succ, List.getElem_cons_zero, put_at, List.set] | (try simp only [put_at, List.set]))
          have CE := Lib.hid ce
          clear ce L2 X2 hw2 hb2
          refine wpAnyL_one (i := 0) rfl (by kernel_rfl) (by kernel_rfl) hClosed (fun KK hK => ?_)
          go_simp
          obtain ⟨wc1, ba, hw1, hb1, L1, oe, X1⟩ := new0 hHeld
          rw [hw1, hb1]
          refine hK.out _ _ ?_ (fun hClosed hHeld => ?_)
          · exact L1
          clear hK KK
          (first | simp only [List.getElem_toArray, List.getElem_cons_zero, put_at, List.set] | (try simp only [put_at, List.set]))
          have OE := Lib.hid oe
          have CE2 := Lib.hid (CE.out.later X1)
          have NE : Hid ((some ⟨ba, 0, none⟩ : Option Addr).map (·.block) ≠ some be) := Lib.hid (fun e => by have e2 : ba = be := Option.some.inj e; have h1 := CE.out.hi; omega)
          clear CE
          have CE := CE2
          clear CE2
          clear oe L1 X1 hw1 hb1
          refine wpAnyL_one (i := 4) rfl (by kernel_rfl) (by kernel_rfl) hClosed (fun KK hK => ?_)
          refine qstep_appE rowQu rfl _ _ rfl wl.heap.size (some ⟨ba, 0, none⟩) 0 0 ([]) rfl OE.out a i c (rqC (l.take i)) rfl LT.out ((RD.out.later hHeld).head i) (rqC_one _) (by omega) (by decide) hHeld.size i (by omega) (rqC (l.take i)) rfl ?_
          rintro a1 c1 w1 q1 q2 q3 q4
          refine hK.out _ _ ?_ (fun hClosed hHeld => ?_)
          · exact hHeld.trans q3
          clear hK KK
          (first | simp only [List.getElem_toArray, List.getElem_cons_succ, List.getElem_cons_zero, put_at, List.set] | (try simp only [put_at, List.set]))
          have CE2 := Lib.hid (CE.out.grown q2 NE.out)
          have NE2 : Hid ((a1 : Option Addr).map (·.block) ≠ some be) := Lib.hid (fun e => by rcases q4 be (qown_block5 q1 e) with h | h; exact NE.out h; have h1 := CE.out.hi; omega)
          clear CE NE
          have CE := CE2
          have NE := NE2
          clear CE2 NE2
          clear OE
          have OE := Lib.hid q1
          clear q1 q2 q3 q4
          refine wpAnyL_one (i := 7) rfl (by kernel_rfl) (by kernel_rfl) hClosed (fun KK hK => ?_)
          refine qstep_appE rowQu rfl _ _ rfl wl.heap.size a1 i c1 (rqC (l.take i)) rfl OE.out (some ⟨be, 0, none⟩) 1 1 (rqL ⟨ri, rh, rp, rr, rt⟩) rfl rfl (CE.out.rd) (rqL_one _) (by omega) (by decide) hHeld.size (i + 1) (by omega) (rqC (l.take i ++ [⟨ri, rh, rp, rr, rt⟩])) HZ1.out ?_
          rintro a2 c2 w2 q1 q2 q3 q4
          refine hK.out _ _ ?_ (fun hClosed hHeld => ?_)
          · exact hHeld.trans q3
          clear hK KK
          (first | simp only [List.getElem_toArray, List.getElem_cons_succ, List.getElem_cons_zero, put_at, List.set] | (try simp only [put_at, List.set]))
          clear OE CE NE
          have OE := Lib.hid q1
          clear q1 q2 q3 q4
          refine wpAnyL_one (i := 11) rfl (by kernel_rfl) (by kernel_rfl) hClosed (fun KK hK => ?_)
          refine qstep_appE rowQu rfl _ _ rfl wl.heap.size a2 (i + 1) c2 (rqC (l.take i ++ [⟨ri, rh, rp, rr, rt⟩])) rfl OE.out b2 (n - i) (c - i) (rqC (l.drop i)) rfl LD.out ((RD.out.later hHeld).tail HO.out) (rqC_one _) (by omega) (by decide) hHeld.size (n + 1) (by omega) (rqC (insQ l ⟨ri, rh, rp, rr, rt⟩)) HZ.out ?_
          rintro a3 c3 w3 q1 q2 q3 q4
          refine hK.out _ _ ?_ (fun hClosed hHeld => ?_)
          · exact hHeld.trans q3
          clear hK KK
          (first | simp only [List.getElem_toArray, List.getElem_cons_succ, List.getElem_cons_zero, put_at, List.set] | (try simp only [put_at, List.set]))
          have FF := FIN.out a3 c3 w3 q1 hHeld
          clear q1 q2 q3 q4 OE FIN
          refine wpAnyL_last rfl (by kernel_rfl) (by kernel_rfl) (fun KK hK => ?_)
          go_simp
          refine hK.out _ _ ?_
          (try simp only [put_at, List.set])
          go_wp2
          go_ret
          exact FF

end Go.Proofs.YtimkgaokcldgkaaGreatDoor
