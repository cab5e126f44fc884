/- Package lines: groups: what they are, and how they lie in memory. No program here but types. -/
import Derived.Test.YtodlecjbpmggiaaGreatDoorLnPrs
import Derived.Test.YtodlecjbpmggiaaGreatDoorLnDly
namespace Go.Proofs.YtodlecjbpmggiaaGreatDoor
open Go.RowKit
set_option linter.unusedVariables false
set_option linter.unusedSimpArgs false
set_option maxRecDepth 10000

structure Gp where
  ag : List (List Int)
  ru : List (Bool × List Int)
  de : Int
structure GpA where
  aa : Option Addr
  ac : Nat
  ra : Option Addr
  rc : Nat
def agC (l : List (List Int)) : List Value := l.map fun z => .string (strL z)
def ruC (l : List (Bool × List Int)) : List Value := l.flatMap fun z => [.bool z.1, .string (strL z.2)]
def gpC (x : Gp × GpA) : List Value := [.slice x.2.aa x.1.ag.length x.2.ac, .slice x.2.ra x.1.ru.length x.2.rc, .int .i64 x.1.de]
def gsC (L : List (Gp × GpA)) : List Value := L.flatMap gpC
theorem agC_app (a b : List (List Int)) : agC (a ++ b) = agC a ++ agC b := by unfold agC; rw [List.map_append]
theorem ruC_app (a b : List (Bool × List Int)) : ruC (a ++ b) = ruC a ++ ruC b := by unfold ruC; rw [List.flatMap_append]
theorem gsC_app (a b : List (Gp × GpA)) : gsC (a ++ b) = gsC a ++ gsC b := by unfold gsC; rw [List.flatMap_append]
theorem gsC_len (L : List (Gp × GpA)) : (gsC L).length = L.length * 3 := by
  induction L with
  | nil => rfl
  | cons x t ih => simp [gsC, gpC, List.flatMap_cons] at ih ⊢; omega
theorem gsC_get {L : List (Gp × GpA)} {i : Nat} {x : Gp × GpA} (h : L[i]? = some x) (j : Nat) (hj : j < 3) : (gsC L)[i * 3 + j]? = (gpC x)[j]? := by
  induction L generalizing i with
  | nil => simp at h
  | cons y t ih =>
    have e : gsC (y :: t) = gpC y ++ gsC t := by simp [gsC]
    have el : (gpC y).length = 3 := rfl
    rw [e]
    cases i with
    | zero =>
      simp at h
      subst h
      rw [Nat.zero_mul, Nat.zero_add, List.getElem?_append_left (by omega)]
    | succ i =>
      rw [List.getElem?_append_right (by omega), el, show (i + 1) * 3 + j - 3 = i * 3 + j by omega]
      exact ih (by simpa using h)
theorem rowT : RowTy Tryz.prog 49 9 1 16 := ⟨Tryz.underlying49, ⟨.string ⟨#[]⟩, by kernel_rfl, rfl⟩, by decide⟩
theorem rowU : RowTy Tryz.prog 24 30 2 24 := ⟨Tryz.underlying24, ⟨.agg #[.bool false, .string ⟨#[]⟩], by kernel_rfl, rfl⟩, by decide⟩
theorem rowG : RowTy Tryz.prog 39 58 3 56 := ⟨Tryz.underlying39, ⟨.agg #[.slice none 0 0, .slice none 0 0, .int .i64 0], by kernel_rfl, rfl⟩, by decide⟩
theorem rowRG : RowTy Tryz.prog 43 61 3 56 := ⟨Tryz.underlying43, ⟨.agg #[.slice none 0 0, .slice none 0 0, .int .i64 0], by kernel_rfl, rfl⟩, by decide⟩
structure RowsM (w : World) (B : Nat) (x : Gp × GpA) : Prop where
  a : Own w B 9 1 x.2.aa x.1.ag.length x.2.ac (agC x.1.ag)
  r : Own w B 30 2 x.2.ra x.1.ru.length x.2.rc (ruC x.1.ru)
theorem RowsM.keep {w w' : World} {B : Nat} {x : Gp × GpA} (h : RowsM w B x) (ha : ∀ g, x.2.aa = some ⟨g, 0, none⟩ → w'.heap[g]? = w.heap[g]?) (hr : ∀ g, x.2.ra = some ⟨g, 0, none⟩ → w'.heap[g]? = w.heap[g]?) : RowsM w' B x := ⟨h.a.blocks ha, h.r.blocks hr⟩
theorem RowsM.later {w w' : World} {B : Nat} {x : Gp × GpA} (h : RowsM w B x) (hb : Below w.heap.size w w') : RowsM w' B x := ⟨h.a.later hb, h.r.later hb⟩
/-- Groups: those that are done, and the one that lines may still add to. -/
structure GM (E : TypeId) (B : Nat) (w : World) (O M cap : Nat) (done : List (Gp × GpA)) (cur : Gp × GpA) : Prop where
  own : Own w B E 3 (some ⟨O, 0, none⟩) (done.length + 1) cap (gsC (done ++ [cur]))
  don : ∀ x ∈ done, RowsM w B x ∧ (∀ g, x.2.aa = some ⟨g, 0, none⟩ → g < M ∧ g ≠ O) ∧ (∀ g, x.2.ra = some ⟨g, 0, none⟩ → g < M ∧ g ≠ O)
  rows : RowsM w B cur
  ca : ∀ g, cur.2.aa = some ⟨g, 0, none⟩ → M ≤ g
  cr : ∀ g, cur.2.ra = some ⟨g, 0, none⟩ → M ≤ g
  ne : ∀ g h, cur.2.aa = some ⟨g, 0, none⟩ → cur.2.ra = some ⟨h, 0, none⟩ → g ≠ h
  oM : O < M
  Mw : M ≤ w.heap.size
  BO : B ≤ O
section
variable {E : TypeId} {B O M cap : Nat} {w w' : World} {done : List (Gp × GpA)} {cur : Gp × GpA}
theorem GM.later (h : GM E B w O M cap done cur) (hb : Below w.heap.size w w') : GM E B w' O M cap done cur :=
  ⟨h.own.later hb, fun x hx => ⟨(h.don x hx).1.later hb, (h.don x hx).2⟩, h.rows.later hb, h.ca, h.cr, h.ne, h.oM, Nat.le_trans h.Mw hb.size, h.BO⟩
theorem GM.cell (h : GM E B w O M cap done cur) (j : Nat) (hj : j < 3) : w.cell? ⟨O, done.length * 3 + j, none⟩ = (gpC cur)[j]? := by
  have h1 : (done ++ [cur])[done.length]? = some cur := by simp
  have h2 := gsC_get h1 j hj
  have el : (gpC cur).length = 3 := rfl
  rw [← h2]
  exact (h.own.cell (List.getElem?_eq_getElem (by rw [gsC_len, List.length_append]; simp; omega))).trans (List.getElem?_eq_getElem _).symm
theorem gsC_set (done : List (Gp × GpA)) (cur cur' : Gp × GpA) (j : Nat) (u : Value) (h : (gpC cur).set j u = gpC cur') : (gsC (done ++ [cur])).set (done.length * 3 + j) u = gsC (done ++ [cur']) := by
  rw [gsC_app, gsC_app, List.set_append_right _ _ (by rw [gsC_len]; omega), gsC_len, show done.length * 3 + j - done.length * 3 = j by omega]
  have e : ∀ x, gsC [x] = gpC x := fun x => by simp [gsC]
  rw [e, e, h]
theorem own_block {w : World} {B : Nat} {E : TypeId} {size n cap : Nat} {a : Option Addr} {xs : List Value} (h : Own w B E size a n cap xs) {k : Nat} (hk : a.map (·.block) = some k) : a = some ⟨k, 0, none⟩ := by
  rcases h.form with ⟨rfl, _⟩ | ⟨g, rfl, _⟩
  · cases hk
  · injection hk with hk
    dsimp only at hk
    rw [hk]
theorem own_bl {w : World} {B : Nat} {E : TypeId} {size n cap : Nat} {a : Option Addr} {xs : List Value} (h : Own w B E size a n cap xs) {g : Nat} (hg : a = some ⟨g, 0, none⟩) : g < w.heap.size := by
  subst hg
  exact h.lt.2
/-- A name is added to the group that may be added to: appended, and the slice stored. -/
theorem GM.agent (h : GM E B w O M cap done cur) {w3 : World} {g c3 : Nat} {z : List Int} (h1 : Own w3 B 9 1 (some ⟨g, 0, none⟩) (cur.1.ag.length + 1) c3 (agC (cur.1.ag ++ [z]))) (h2 : w.grownBy w3 (cur.2.aa.map (·.block))) (h3 : cur.2.aa.map (·.block) = some g ∨ w.heap.size ≤ g) :
    GM E B (w3.setCell ⟨O, done.length * 3 + 0, none⟩ (.slice (some ⟨g, 0, none⟩) (cur.1.ag.length + 1) c3)) O M cap done (⟨cur.1.ag ++ [z], cur.1.ru, cur.1.de⟩, ⟨some ⟨g, 0, none⟩, c3, cur.2.ra, cur.2.rc⟩) := by
  obtain ⟨W, hW⟩ : ∃ W, w3.setCell ⟨O, done.length * 3 + 0, none⟩ (.slice (some ⟨g, 0, none⟩) (cur.1.ag.length + 1) c3) = W := ⟨_, rfl⟩
  have hMg : M ≤ g := by
    rcases h3 with h3 | h3
    · exact h.ca g (own_block h.rows.a h3)
    · exact Nat.le_trans h.Mw h3
  have hOg : O ≠ g := by have := h.oM; omega
  have kp : ∀ i, i < w.heap.size → some i ≠ cur.2.aa.map (·.block) → i ≠ O → W.heap[i]? = w.heap[i]? := fun i hi hne hO => by
    rw [← hW]
    exact (Below.heap_setCell w3 _ _ i (by exact hO)).trans (h2.block i hi hne)
  have lowM : ∀ i, i < M → some i ≠ cur.2.aa.map (·.block) := fun i hi e => by
    have := h.ca i (own_block h.rows.a e.symm)
    omega
  have oldO : w3.heap[O]? = w.heap[O]? := h2.block O (Nat.lt_of_lt_of_le h.oM h.Mw) (lowM O h.oM)
  refine ⟨?_, fun x hx => ?_, ⟨?_, ?_⟩, fun k hk => ?_, h.cr, fun k r hk hr => ?_, h.oM, ?_, h.BO⟩
  · have h4 : Own w3 B E 3 (some ⟨O, 0, none⟩) (done.length + 1) cap (gsC (done ++ [cur])) := h.own.blocks (fun g' e => by injection e with e; injection e with e; rw [← e]; exact oldO)
    have h5 := h4.set (done.length * 3 + 0) (.slice (some ⟨g, 0, none⟩) (cur.1.ag.length + 1) c3)
    rw [gsC_set done cur (⟨cur.1.ag ++ [z], cur.1.ru, cur.1.de⟩, ⟨some ⟨g, 0, none⟩, c3, cur.2.ra, cur.2.rc⟩) 0 _ (by simp [gpC]), hW] at h5
    rw [hW]
    exact h5
  · obtain ⟨k1, k2, k3⟩ := h.don x hx
    refine ⟨k1.keep (fun i hi => ?_) (fun i hi => ?_), k2, k3⟩
    · rw [hW]
      exact kp i (Nat.lt_of_lt_of_le (k2 i hi).1 h.Mw) (lowM i (k2 i hi).1) (k2 i hi).2
    · rw [hW]
      exact kp i (Nat.lt_of_lt_of_le (k3 i hi).1 h.Mw) (lowM i (k3 i hi).1) (k3 i hi).2
  · show Own _ B _ 1 (some ⟨g, 0, none⟩) (cur.1.ag ++ [z]).length c3 (agC (cur.1.ag ++ [z]))
    rw [List.length_append]
    exact h1.other (fun g' e => by injection e with e; injection e with e; rw [← e]; exact fun e => hOg e.symm) _
  · refine h.rows.r.blocks (fun i hi => ?_)
    rw [hW]
    refine kp i (own_bl h.rows.r hi) (fun e => ?_) (by have := h.cr i hi; have := h.oM; omega)
    exact h.ne i i (own_block h.rows.a e.symm) hi rfl
  · injection hk with hk
    injection hk with hk
    omega
  · injection hk with hk
    injection hk with hk
    subst hk
    rcases h3 with h3 | h3
    · exact h.ne g r (own_block h.rows.a h3) hr
    · have := own_bl h.rows.r hr
      omega
  · rw [World.size_setCell]
    exact Nat.le_trans h.Mw h2.size
/-- A rule is added. -/
theorem GM.rule (h : GM E B w O M cap done cur) {w3 : World} {g c3 : Nat} {z : Bool × List Int} (h1 : Own w3 B 30 2 (some ⟨g, 0, none⟩) (cur.1.ru.length + 1) c3 (ruC (cur.1.ru ++ [z]))) (h2 : w.grownBy w3 (cur.2.ra.map (·.block))) (h3 : cur.2.ra.map (·.block) = some g ∨ w.heap.size ≤ g) :
    GM E B (w3.setCell ⟨O, done.length * 3 + 1, none⟩ (.slice (some ⟨g, 0, none⟩) (cur.1.ru.length + 1) c3)) O M cap done (⟨cur.1.ag, cur.1.ru ++ [z], cur.1.de⟩, ⟨cur.2.aa, cur.2.ac, some ⟨g, 0, none⟩, c3⟩) := by
  obtain ⟨W, hW⟩ : ∃ W, w3.setCell ⟨O, done.length * 3 + 1, none⟩ (.slice (some ⟨g, 0, none⟩) (cur.1.ru.length + 1) c3) = W := ⟨_, rfl⟩
  have hMg : M ≤ g := by
    rcases h3 with h3 | h3
    · exact h.cr g (own_block h.rows.r h3)
    · exact Nat.le_trans h.Mw h3
  have hOg : O ≠ g := by have := h.oM; omega
  have kp : ∀ i, i < w.heap.size → some i ≠ cur.2.ra.map (·.block) → i ≠ O → W.heap[i]? = w.heap[i]? := fun i hi hne hO => by
    rw [← hW]
    exact (Below.heap_setCell w3 _ _ i (by exact hO)).trans (h2.block i hi hne)
  have lowM : ∀ i, i < M → some i ≠ cur.2.ra.map (·.block) := fun i hi e => by
    have := h.cr i (own_block h.rows.r e.symm)
    omega
  have oldO : w3.heap[O]? = w.heap[O]? := h2.block O (Nat.lt_of_lt_of_le h.oM h.Mw) (lowM O h.oM)
  refine ⟨?_, fun x hx => ?_, ⟨?_, ?_⟩, h.ca, fun k hk => ?_, fun k r hk hr => ?_, h.oM, ?_, h.BO⟩
  · have h4 : Own w3 B E 3 (some ⟨O, 0, none⟩) (done.length + 1) cap (gsC (done ++ [cur])) := h.own.blocks (fun g' e => by injection e with e; injection e with e; rw [← e]; exact oldO)
    have h5 := h4.set (done.length * 3 + 1) (.slice (some ⟨g, 0, none⟩) (cur.1.ru.length + 1) c3)
    rw [gsC_set done cur (⟨cur.1.ag, cur.1.ru ++ [z], cur.1.de⟩, ⟨cur.2.aa, cur.2.ac, some ⟨g, 0, none⟩, c3⟩) 1 _ (by simp [gpC]), hW] at h5
    rw [hW]
    exact h5
  · obtain ⟨k1, k2, k3⟩ := h.don x hx
    refine ⟨k1.keep (fun i hi => ?_) (fun i hi => ?_), k2, k3⟩
    · rw [hW]
      exact kp i (Nat.lt_of_lt_of_le (k2 i hi).1 h.Mw) (lowM i (k2 i hi).1) (k2 i hi).2
    · rw [hW]
      exact kp i (Nat.lt_of_lt_of_le (k3 i hi).1 h.Mw) (lowM i (k3 i hi).1) (k3 i hi).2
  · refine h.rows.a.blocks (fun i hi => ?_)
    rw [hW]
    refine kp i (own_bl h.rows.a hi) (fun e => ?_) (by have := h.ca i hi; have := h.oM; omega)
    exact h.ne i i hi (own_block h.rows.r e.symm) rfl
  · show Own _ B _ 2 (some ⟨g, 0, none⟩) (cur.1.ru ++ [z]).length c3 (ruC (cur.1.ru ++ [z]))
    rw [List.length_append]
    exact h1.other (fun g' e => by injection e with e; injection e with e; rw [← e]; exact fun e => hOg e.symm) _
  · injection hk with hk
    injection hk with hk
    omega
  · injection hr with hr
    injection hr with hr
    subst hr
    rcases h3 with h3 | h3
    · exact h.ne k g hk (own_block h.rows.r h3)
    · have := own_bl h.rows.a hk
      omega
  · rw [World.size_setCell]
    exact Nat.le_trans h.Mw h2.size
/-- A delay is stored. -/
theorem GM.delay (h : GM E B w O M cap done cur) (d : Int) :
    GM E B (w.setCell ⟨O, done.length * 3 + 2, none⟩ (.int .i64 d)) O M cap done (⟨cur.1.ag, cur.1.ru, d⟩, cur.2) := by
  have kp : ∀ i, i ≠ O → (w.setCell ⟨O, done.length * 3 + 2, none⟩ (.int .i64 d)).heap[i]? = w.heap[i]? := fun i hO => Below.heap_setCell w _ _ i (by exact hO)
  refine ⟨?_, fun x hx => ?_, ?_, h.ca, h.cr, h.ne, h.oM, ?_, h.BO⟩
  · have h5 := h.own.set (done.length * 3 + 2) (.int .i64 d)
    rw [gsC_set done cur (⟨cur.1.ag, cur.1.ru, d⟩, cur.2) 2 _ (by simp [gpC])] at h5
    exact h5
  · obtain ⟨k1, k2, k3⟩ := h.don x hx
    exact ⟨k1.keep (fun i hi => kp i (k2 i hi).2) (fun i hi => kp i (k3 i hi).2), k2, k3⟩
  · have h1 := h.rows.keep (w' := w.setCell ⟨O, done.length * 3 + 2, none⟩ (.int .i64 d)) (fun i hi => kp i (by have := h.ca i hi; have := h.oM; omega)) (fun i hi => kp i (by have := h.cr i hi; have := h.oM; omega))
    exact ⟨h1.a, h1.r⟩
  · rw [World.size_setCell]
    exact h.Mw
end
/-- Groups that are read, not added to. -/
structure GsM (E : TypeId) (B : Nat) (w : World) (a : Option Addr) (cap : Nat) (L : List (Gp × GpA)) : Prop where
  own : Own w B E 3 a L.length cap (gsC L)
  all : ∀ x ∈ L, RowsM w B x
  ne : ∀ g, a = some ⟨g, 0, none⟩ → ∀ x ∈ L, (∀ i, x.2.aa = some ⟨i, 0, none⟩ → i ≠ g) ∧ (∀ i, x.2.ra = some ⟨i, 0, none⟩ → i ≠ g)
theorem GM.groups {E : TypeId} {B O M cap : Nat} {w : World} {done : List (Gp × GpA)} {cur : Gp × GpA} (h : GM E B w O M cap done cur) : GsM E B w (some ⟨O, 0, none⟩) cap (done ++ [cur]) := by
  refine ⟨by rw [List.length_append]; exact h.own, fun x hx => ?_, fun g hg x hx => ?_⟩
  · rcases List.mem_append.1 hx with hx | hx
    · exact (h.don x hx).1
    · rw [List.mem_singleton.1 hx]
      exact h.rows
  · injection hg with hg
    injection hg with hg
    subst hg
    rcases List.mem_append.1 hx with hx | hx
    · obtain ⟨_, k2, k3⟩ := h.don x hx
      exact ⟨fun i hi => (k2 i hi).2, fun i hi => (k3 i hi).2⟩
    · rw [List.mem_singleton.1 hx]
      exact ⟨fun i hi => by have := h.ca i hi; have := h.oM; omega, fun i hi => by have := h.cr i hi; have := h.oM; omega⟩
theorem GsM.nil {E : TypeId} {B cap : Nat} {w : World} {a : Option Addr} (h : Own w B E 3 a 0 cap []) : GsM E B w a cap [] := ⟨h, (fun x hx => by cases hx), (fun g _ x hx => by cases hx)⟩
theorem GsM.later {E : TypeId} {B cap : Nat} {w w' : World} {a : Option Addr} {L : List (Gp × GpA)} (h : GsM E B w a cap L) (hb : Below w.heap.size w w') : GsM E B w' a cap L := ⟨h.own.later hb, fun x hx => (h.all x hx).later hb, h.ne⟩
def gp0 : Gp × GpA := (⟨[], [], 0⟩, ⟨none, 0, none, 0⟩)
/-- A new group begins. -/
theorem GsM.new {E : TypeId} {B cap : Nat} {w : World} {a : Option Addr} {L : List (Gp × GpA)} (h : GsM E B w a cap L) {w3 : World} {g c3 : Nat} (h1 : Own w3 B E 3 (some ⟨g, 0, none⟩) (L.length + 1) c3 (gsC (L ++ [gp0]))) (h2 : w.grownBy w3 (a.map (·.block))) (h3 : a.map (·.block) = some g ∨ w.heap.size ≤ g) :
    GM E B w3 g w3.heap.size c3 L gp0 := by
  have kp : ∀ i, i < w.heap.size → some i ≠ a.map (·.block) → w3.heap[i]? = w.heap[i]? := fun i hi hne => h2.block i hi hne
  have nb : ∀ x ∈ L, (∀ i, x.2.aa = some ⟨i, 0, none⟩ → some i ≠ a.map (·.block)) ∧ (∀ i, x.2.ra = some ⟨i, 0, none⟩ → some i ≠ a.map (·.block)) := fun x hx =>
    ⟨fun i hi e => (h.ne i (own_block h.own e.symm) x hx).1 i hi rfl, fun i hi e => (h.ne i (own_block h.own e.symm) x hx).2 i hi rfl⟩
  have ng : ∀ x ∈ L, (∀ i, x.2.aa = some ⟨i, 0, none⟩ → i ≠ g) ∧ (∀ i, x.2.ra = some ⟨i, 0, none⟩ → i ≠ g) := fun x hx => by
    rcases h3 with h3 | h3
    · exact h.ne g (own_block h.own h3) x hx
    · exact ⟨fun i hi => by have := own_bl (h.all x hx).a hi; omega, fun i hi => by have := own_bl (h.all x hx).r hi; omega⟩
  refine ⟨h1, fun x hx => ⟨(h.all x hx).keep (fun i hi => kp i (own_bl (h.all x hx).a hi) ((nb x hx).1 i hi)) (fun i hi => kp i (own_bl (h.all x hx).r hi) ((nb x hx).2 i hi)), fun i hi => ⟨?_, (ng x hx).1 i hi⟩, fun i hi => ⟨?_, (ng x hx).2 i hi⟩⟩, ⟨Own.nil _ _ _ _, Own.nil _ _ _ _⟩, (fun k hk => by cases hk), (fun k hk => by cases hk), (fun k _ hk => by cases hk), h1.lt.2, Nat.le_refl _, h1.lt.1⟩
  · exact Nat.lt_of_lt_of_le (own_bl (h.all x hx).a hi) h2.size
  · exact Nat.lt_of_lt_of_le (own_bl (h.all x hx).r hi) h2.size
end Go.Proofs.YtodlecjbpmggiaaGreatDoor
