/- The document's list: where an id is; appended rows of any length. -/
import Derived.Test.YtbifnmlhbepadaaQuReqs
import Derived.Test.YtbifnmlhbepadaaQuOrder
import Derived.Test.YtbifnmlhbepadaaQuAll
namespace Go.Proofs.Ytbifnmlhbepadaa
open Go Go.RowKit
set_option linter.unusedVariables false
set_option linter.unusedSimpArgs false
set_option maxRecDepth 10000

def atQ (l : List Rq) (id : Int) : Int := if l.findIdx (idB id) < l.length then (l.findIdx (idB id) : Int) else -1
theorem atQ_yes {l : List Rq} {id : Int} {k : Nat} {z : Rq} (hk : l[k]? = some z) (hp : idB id z = true) (hno : ∀ i z, i < k → l[i]? = some z → idB id z = false) : atQ l id = (k : Int) := by
  obtain ⟨h1, h2⟩ := List.getElem?_eq_some_iff.1 hk
  have : l.findIdx (idB id) = k := (List.findIdx_eq h1).2 ⟨by rw [h2]; exact hp, fun j hj => hno j _ hj (List.getElem?_eq_getElem (by omega))⟩
  unfold atQ
  rw [this, if_pos h1]
theorem atQ_no {l : List Rq} {id : Int} (h : ∀ x ∈ l, idB id x = false) : atQ l id = -1 := by
  unfold atQ
  rw [List.findIdx_eq_length.2 h, if_neg (Nat.lt_irrefl _)]
theorem atQ_any (l : List Rq) (id : Int) : decide (0 ≤ atQ l id) = l.any (idB id) := by
  rw [Bool.eq_iff_iff, decide_eq_true_eq, List.any_eq_true]
  unfold atQ
  constructor
  · intro h
    split at h
    · rename_i h1
      exact ⟨_, List.getElem_mem h1, List.findIdx_getElem⟩
    · exact absurd h (by decide)
  · rintro ⟨x, hx, hp⟩
    rw [if_pos (List.findIdx_lt_length_of_exists ⟨x, hx, hp⟩)]
    omega
theorem wo_cut : ∀ (l : List Rq) (id : Int), Dst l → l.any (idB id) = true → l.findIdx (idB id) < l.length ∧ l.take (l.findIdx (idB id)) ++ l.drop (l.findIdx (idB id) + 1) = l.filter fun x => !idB id x
  | [], _, _, h => by simp at h
  | x :: t, id, hd, h => by
    obtain ⟨h1, h2⟩ := List.pairwise_cons.1 hd
    rw [List.findIdx_cons]
    cases hx : idB id x with
    | true =>
      refine ⟨Nat.zero_lt_succ _, ?_⟩
      have e : (t.filter fun x => !idB id x) = t := List.filter_eq_self.2 fun y hy => by
        have hxi : x.id = id := of_decide_eq_true hx
        have : ¬ y.id = id := fun e => h1 y hy (hxi.trans e.symm)
        have : idB id y = false := decide_eq_false this
        rw [this]; rfl
      simp [hx, e]
    | false =>
      have ht : t.any (idB id) = true := by simpa [hx] using h
      obtain ⟨k1, k2⟩ := wo_cut t id h2 ht
      refine ⟨by simpa using k1, ?_⟩
      simp only [cond_false, List.take_succ_cons, List.drop_succ_cons, List.cons_append, hx, List.filter_cons, Bool.not_false, if_true]
      rw [k2]
theorem atQ_in {l : List Rq} {id : Int} (hd : Dst l) (h : l.any (idB id) = true) : ∃ k : Nat, atQ l id = (k : Int) ∧ k < l.length ∧ l.take k ++ l.drop (k + 1) = l.filter fun x => !idB id x := by
  obtain ⟨h1, h2⟩ := wo_cut l id hd h
  exact ⟨_, by unfold atQ; rw [if_pos h1], h1, h2⟩
theorem RdQ.cells {w : World} {a : Option Addr} {l : List Rq} (h : RdQ w a l) (j : Nat) (u : Value) (hj : (rqC l)[j]? = some u) : ∃ g, a = some ⟨g, 0, none⟩ ∧ w.cell? ⟨g, j, none⟩ = some u := by
  have hl : j < l.length * 5 := by rw [← rqC_len]; exact (List.getElem?_eq_some_iff.1 hj).1
  have hk : j / 5 < l.length := by omega
  obtain ⟨g, e, c⟩ := h (j / 5) _ (List.getElem?_eq_getElem hk)
  have hm : j % 5 < 5 := Nat.mod_lt _ (by decide)
  have hjj : j / 5 * 5 + j % 5 = j := by omega
  have h1 := rqC_get (rs := l) (i := j / 5) (List.getElem?_eq_getElem hk) (j % 5) hm
  rw [hjj, hj] at h1
  refine ⟨g, e, ?_⟩
  rw [← hjj]
  generalize j % 5 = m at hm h1
  match m, hm with
  | 0, _ => rw [show u = _ from Option.some.inj h1]; exact c.c0
  | 1, _ => rw [show u = _ from Option.some.inj h1]; exact c.c1
  | 2, _ => rw [show u = _ from Option.some.inj h1]; exact c.c2
  | 3, _ => rw [show u = _ from Option.some.inj h1]; exact c.c3
  | 4, _ => rw [show u = _ from Option.some.inj h1]; exact c.c4
/-- What can be read behind a slice's address. -/
def RdC (w : World) (a2 : Option Addr) (ys : List Value) : Prop := ∀ j u, ys[j]? = some u → ∃ b2 off2, a2 = some ⟨b2, off2, none⟩ ∧ w.cell? ⟨b2, off2 + j, none⟩ = some u
theorem RdC.later {w w' : World} {a2 : Option Addr} {ys : List Value} (h : RdC w a2 ys) (hb : Below w.heap.size w w') : RdC w' a2 ys := fun j u hj => by
  obtain ⟨b, o, e, hc⟩ := h j u hj
  exact ⟨b, o, e, (hb.cell (World.block_lt_of_cell? _ _ hc)).trans hc⟩
theorem RdQ.head {w : World} {a : Option Addr} {l : List Rq} (h : RdQ w a l) (k : Nat) : RdC w a (rqC (l.take k)) := fun j u hj => by
  rw [rqC_take] at hj
  have hj2 : (rqC l)[j]? = some u := by
    rw [List.getElem?_take] at hj
    split at hj
    · exact hj
    · cases hj
  obtain ⟨g, e, c⟩ := h.cells j u hj2
  exact ⟨g, 0, e, by rw [Nat.zero_add]; exact c⟩
theorem RdQ.tail {w : World} {a a2 : Option Addr} {l : List Rq} {k : Nat} (h : RdQ w a l) (h2 : k < l.length → ∀ g, a = some ⟨g, 0, none⟩ → a2 = some ⟨g, k * 5, none⟩) : RdC w a2 (rqC (l.drop k)) := fun j u hj => by
  rw [rqC_drop, List.getElem?_drop] at hj
  obtain ⟨g, e, c⟩ := h.cells _ u hj
  have hl : k * 5 + j < l.length * 5 := by rw [← rqC_len]; exact (List.getElem?_eq_some_iff.1 hj).1
  exact ⟨g, k * 5, h2 (by omega) g e, c⟩
/-- The rest of a slice: what comes of the expression. -/
theorem sliceFrom_off {P : Program} {T E : TypeId} {size bytes : Nat} (hT : RowTy P T E size bytes) (g len cap k : Nat) (hk : k ≤ len) (hc : len ≤ cap) :
    ∃ off, (∀ w : World, (Instr.sliceAt T (.slice (some ⟨g, 0, none⟩) len cap) (some (.int .i64 k)) none none).run P w = .ok (.slice (some ⟨g, off, none⟩) (len - k) (cap - k)) w) ∧ (k < len → off = k * size) := by
  obtain ⟨i, z, hi, hz, hs, hb, hzs⟩ := hT.parts
  by_cases h : cap = k
  · refine ⟨0, fun w => ?_, fun h' => by omega⟩
    have h2 : len = k := by omega
    subst h2
    subst h
    simp [Instr.sliceAt, Instr.slice, run_underlying hT.und, Instr.sliceBounds, Instr.sliceBound, asIntOf, sizeOf, typeInfo, hi, go_sem]
  · refine ⟨k * size, fun w => ?_, fun _ => rfl⟩
    simp [Instr.sliceAt, Instr.slice, run_underlying hT.und, Instr.sliceBounds, Instr.sliceBound, asIntOf, sizeOf, typeInfo, hi, hs, hk, h, go_sem, Go.WideShapes.add_plain]
theorem exec_slice {P : Program} {w : World} {ev : Operand → Value} {o : Oper} {T : TypeId} {x : Operand} {lo hi : Option Operand} {xv v : Value} (ho : o.op = .slice T x lo hi none) (hx : ev x = xv)
    (h : ∀ w : World, (Instr.sliceAt T xv (lo.map ev) (hi.map ev) none).run P w = .ok v w) : (execOp ev o).run P w = .ok (.value v) w := by
  unfold execOp
  simp only [ho, hx, Option.map_none, Sem.run_bind, h, Result.andThen_ok, Sem.run_pure]
section
variable {P : Program} {ops : Array Oper} {o : Oper} {act : Act} {Q : Exit → Act → World → Prop} {w : World}
/-- Elements of any number are appended to a row of one's own. -/
theorem run_appE {T E : TypeId} {size bytes : Nat} (hT : RowTy P T E size bytes) (ty : TypeId)
    (B : Nat) (a : Option Addr) (n cap : Nat) (xs : List Value) (hown : Own w B E size a n cap xs)
    (a2 : Option Addr) (m c2 : Nat) (ys : List Value) (hl : ys.length = m * size) (hr : RdC w a2 ys) (h1 : ∀ u ∈ ys, u.oneCell' = true)
    (h63 : n + m ≤ 1000000) (hby : bytes ≤ 100000) (hB : B ≤ w.heap.size) :
    ∃ a' cap' w', (Builtin.append_ #[T, T] ty #[.slice a n cap, .slice a2 m c2]).run P w = .ok (.slice a' (n + m) cap') w' ∧ Own w' B E size a' (n + m) cap' (xs ++ ys) ∧ w.grownBy w' (a.map (·.block)) ∧ Below B w w' ∧ (∀ g, a' = some ⟨g, 0, none⟩ → a.map (·.block) = some g ∨ w.heap.size ≤ g) := by
  by_cases hm : m = 0
  · subst hm
    obtain rfl : ys = [] := List.eq_nil_of_length_eq_zero (by omega)
    refine ⟨a, cap, w, run_app0Q hT ty a n cap hown.cap_le a2 c2 w, by simpa using hown, World.grownBy.refl _ _, Below.refl _ _, fun g hg => Or.inl (by rw [hg]; rfl)⟩
  · have h0 : 0 < ys.length := by rw [hl]; exact Nat.mul_pos (by omega) hT.pos
    obtain ⟨b2, off2, rfl, _⟩ := hr 0 _ (List.getElem?_eq_getElem h0)
    obtain ⟨g, cap', w', q1, q2, q3, q4, q5⟩ := run_appR hT ty B a n cap xs hown b2 off2 m c2 ys (by omega) hl (fun j u hj => by
      obtain ⟨b3, o3, e, hc⟩ := hr j u hj
      injection e with e
      injection e with e1 e2 _
      rw [e1, e2]
      exact hc) h1 h63 hby hB
    refine ⟨_, cap', w', q1, q2, q3, q4, fun g' hg => ?_⟩
    injection hg with hg
    injection hg with hg
    subst hg
    rcases q5 with q5 | q5
    · exact Or.inl q5
    · exact Or.inr (by omega)
theorem step_appE {T E : TypeId} {size bytes : Nat} {K : Act → World → Prop} {F : Prop} (hT : RowTy P T E size bytes) (hgd : o.guard = none) (s x : Operand) (ho : o.op = .call { callee := .builtin .append, args := #[s, x], argTypes := #[T, T] })
    (B : Nat) (a : Option Addr) (n cap : Nat) (xs : List Value) (hs : act.eval s = .slice a n cap) (hown : Own w B E size a n cap xs)
    (a2 : Option Addr) (m c2 : Nat) (ys : List Value) (hx : act.eval x = .slice a2 m c2) (hl : ys.length = m * size) (hr : RdC w a2 ys) (h1 : ∀ u ∈ ys, u.oneCell' = true)
    (h63 : n + m ≤ 1000000) (hby : bytes ≤ 100000) (hB : B ≤ w.heap.size) (N : Nat) (hN : n + m = N) (zs : List Value) (hz : xs ++ ys = zs)
    (h : ∀ a' cap' w', Own w' B E size a' N cap' zs → w.grownBy w' (a.map (·.block)) → Below B w w' → (∀ g, a' = some ⟨g, 0, none⟩ → a.map (·.block) = some g ∨ w.heap.size ≤ g) → K (act.put o.dst (.slice a' N cap')) w') : if Region.wanted o (yielded ops act.tmps) = true then Oper.wp P o act w K Q else F := by
  subst hN
  subst hz
  have hw : Region.wanted o (yielded ops act.tmps) = true := by simp [Region.wanted, hgd]
  rw [if_pos hw]
  obtain ⟨a', cap', w', hrun, h2, h3, h4, h5⟩ := run_appE (P := P) hT o.type B a n cap xs hown a2 m c2 ys hl hr h1 h63 hby hB
  unfold Oper.wp execOp
  simp only [ho, resolve, invoke, builtin, Sem.run_bind, Sem.run_pure, Result.andThen_ok, List.map_toArray, List.map_cons, List.map_nil, hs, hx, hrun]
  exact h a' cap' w' h2 h3 h4 h5
end
set_option maxHeartbeats 2000000 in
theorem at_at (l : List Rq) (n : Nat) (hn : l.length = n) (hn2 : n ≤ 999999) (a : Option Addr) (c : Nat) (id : Int) (w : World) (hc : RdQ w a l) :
    Calls Try.prog 9 #[.slice a n c, .int .i64 id] w fun e w' => e = .returned (.int .i64 (atQ l id)) ∧ w' = w := by
  have HC := Lib.hid hc
  have HN := Lib.hid hn
  obtain ⟨v, hv⟩ : ∃ v, atQ l id = v := ⟨_, rfl⟩
  rw [hv]
  have HV := Lib.hid hv
  clear hc hn hv
  go_enter Try.func9, Try.ntmps9
  go_wp2
  go_loopw [5] (fun j wr => ∃ k : Nat, k ≤ n ∧ j = .int .i64 (k : Int) ∧ wr = w ∧ Hid (∀ i z, i < k → l[i]? = some z → idB id z = false)) (fun j _ => n - (intOf j).toNat)
  case atStart => exact ⟨0, by omega, rfl, rfl, Lib.hid (fun i z hi => by omega)⟩
  case round =>
    obtain ⟨k, hk, rfl, hww, HP⟩ := hrel
    subst hww
    by_cases hlt : k < n
    · have hkd : decide ((k : Int) < (n : Int)) = true := decide_eq_true (by omega)
      obtain ⟨z, hz⟩ : ∃ z, l[k]? = some z := ⟨_, List.getElem?_eq_getElem (by rw [HN.out]; exact hlt)⟩
      obtain ⟨g, rfl, cl⟩ := HC.out k z hz
      have c0 := cl.c0
      have hx0 : (0 : Int) ≤ (k : Int) := by omega
      have hx1 : (k : Int) < (n : Int) := by omega
      have HZ := Lib.hid hz
      clear hz cl
      by_cases hid : z.id = id
      · have hb : (z.id == id) = true := by simpa using hid
        have HE : Hid (v = (k : Int)) := Lib.hid (by rw [← HV.out]; exact atQ_yes HZ.out (decide_eq_true hid) HP.out)
        obtain ⟨zi, zh, zp, zr, zt⟩ := z
        dsimp only at c0 hid hb
        subst hid
        go_wp2
        go_ret
        exact ⟨by rw [HE.out]; rfl, rfl⟩
      · have hb : (z.id == id) = false := by simpa using hid
        have HP2 : Hid (∀ i z, i < k + 1 → l[i]? = some z → idB id z = false) := Lib.hid (fun i y hi hy => by
          by_cases hik : i = k
          · subst hik
            rw [HZ.out] at hy
            injection hy with hy
            subst hy
            exact decide_eq_false hid
          · exact HP.out i y (by omega) hy)
        obtain ⟨zi, zh, zp, zr, zt⟩ := z
        dsimp only at c0 hid hb
        clear HP HZ
        go_wp2
        go_roundw
        case rel => exact ⟨k + 1, by omega, by go_num, trivial, HP2⟩
        case measure =>
          simp only [intOf]
          omega
    · have hkd : decide ((k : Int) < (n : Int)) = false := decide_eq_false (by omega)
      have HE : Hid (v = -1) := Lib.hid (by
        rw [← HV.out]
        refine atQ_no fun x hx => ?_
        obtain ⟨i, hi⟩ := List.mem_iff_getElem?.1 hx
        have := (List.getElem?_eq_some_iff.1 hi).1
        exact HP.out i x (by have := HN.out; omega) hi)
      clear HP
      go_wp2
      go_ret
      exact ⟨by rw [HE.out]; rfl, rfl⟩
end Go.Proofs.Ytbifnmlhbepadaa
