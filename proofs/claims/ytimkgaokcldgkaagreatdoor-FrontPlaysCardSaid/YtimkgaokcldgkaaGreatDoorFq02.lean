/- Part of a chain: QuMath. -/
import Derived.Test.YtimkgaokcldgkaaGreatDoorFq00
import Derived.Laws.AppendOwn
/- Package queue: the mathematics of requests in order. No program here. -/
namespace Go.Proofs.YtimkgaokcldgkaaGreatDoor
open Go
set_option linter.unusedVariables false

structure Rq where
  id : Int
  host : ByteArray
  path : ByteArray
  prio : Int
  til : Int
def rqL (r : Rq) : List Value := [.int .i64 r.id, .string r.host, .string r.path, .int .i64 r.prio, .int .i64 r.til]
def rqC (rs : List Rq) : List Value := rs.flatMap rqL
theorem rqL_len (r : Rq) : (rqL r).length = 5 := rfl
theorem rqC_nil : rqC [] = [] := rfl
theorem rqC_cons (r : Rq) (rs : List Rq) : rqC (r :: rs) = rqL r ++ rqC rs := by simp [rqC]
theorem rqC_app (a b : List Rq) : rqC (a ++ b) = rqC a ++ rqC b := by unfold rqC; rw [List.flatMap_append]
theorem rqC_len (rs : List Rq) : (rqC rs).length = rs.length * 5 := by
  induction rs with
  | nil => rfl
  | cons x t ih => rw [rqC_cons, List.length_append, ih, rqL_len, List.length_cons]; omega
theorem rqC_take (rs : List Rq) (k : Nat) : rqC (rs.take k) = (rqC rs).take (k * 5) := by
  induction rs generalizing k with
  | nil => simp [rqC]
  | cons x t ih =>
    cases k with
    | zero => simp [rqC]
    | succ k =>
      rw [List.take_succ_cons, rqC_cons, rqC_cons, ih, show (k + 1) * 5 = (rqL x).length + k * 5 by rw [rqL_len]; omega, List.take_length_add_append]
theorem rqC_drop (rs : List Rq) (k : Nat) : rqC (rs.drop k) = (rqC rs).drop (k * 5) := by
  induction rs generalizing k with
  | nil => simp [rqC]
  | cons x t ih =>
    cases k with
    | zero => simp
    | succ k =>
      rw [List.drop_succ_cons, rqC_cons, ih, show (k + 1) * 5 = (rqL x).length + k * 5 by rw [rqL_len]; omega, List.drop_length_add_append]
theorem rqC_get {rs : List Rq} {i : Nat} {x : Rq} (h : rs[i]? = some x) (j : Nat) (hj : j < 5) : (rqC rs)[i * 5 + j]? = (rqL x)[j]? := by
  induction rs generalizing i with
  | nil => simp at h
  | cons y t ih =>
    rw [rqC_cons]
    cases i with
    | zero =>
      simp at h
      subst h
      rw [Nat.zero_mul, Nat.zero_add, List.getElem?_append_left (by rw [rqL_len]; exact hj)]
    | succ i =>
      rw [List.getElem?_append_right (by rw [rqL_len]; omega), rqL_len, show (i + 1) * 5 + j - 5 = i * 5 + j by omega]
      exact ih (by simpa using h)
theorem rqL_one (r : Rq) : ∀ v ∈ rqL r, v.oneCell' = true := by
  intro v hv
  simp [rqL] at hv
  rcases hv with rfl | rfl | rfl | rfl | rfl <;> rfl
theorem rqC_one (rs : List Rq) : ∀ v ∈ rqC rs, v.oneCell' = true := by
  intro v hv
  unfold rqC at hv
  obtain ⟨z, _, hz⟩ := List.mem_flatMap.1 hv
  exact rqL_one z v hz
/-- The order. -/
def Bef (a b : Rq) : Prop := a.prio < b.prio ∨ (a.prio = b.prio ∧ a.id < b.id)
instance (a b : Rq) : Decidable (Bef a b) := by unfold Bef; exact inferInstance
def befB (a b : Rq) : Bool := decide (Bef a b)
def ordI (a b : Rq) : Int := if cmpI a.prio b.prio = 0 then cmpI a.id b.id else cmpI a.prio b.prio
theorem ordI_lt (a b : Rq) : ordI a b < 0 ↔ Bef a b := by
  unfold ordI cmpI Bef
  repeat' split
  all_goals omega
theorem Bef.trans {a b c : Rq} (h : Bef a b) (k : Bef b c) : Bef a c := by
  unfold Bef at *
  omega
theorem Bef.other {a b : Rq} (h : ¬ Bef a b) (hid : a.id ≠ b.id) : Bef b a := by
  unfold Bef at *
  omega
def Srt (rs : List Rq) : Prop := rs.Pairwise Bef
/-- Where a request stands. -/
def posQ (rs : List Rq) (r : Rq) : Nat := (rs.takeWhile fun x => befB x r).length
def insQ (rs : List Rq) (r : Rq) : List Rq := rs.take (posQ rs r) ++ r :: rs.drop (posQ rs r)
theorem posQ_le (rs : List Rq) (r : Rq) : posQ rs r ≤ rs.length := (List.takeWhile_sublist _).length_le
theorem posQ_cons (x : Rq) (t : List Rq) (r : Rq) : posQ (x :: t) r = if befB x r = true then posQ t r + 1 else 0 := by
  unfold posQ
  rw [List.takeWhile_cons]
  cases befB x r <;> simp
theorem posQ_of {rs : List Rq} {r : Rq} {k : Nat} (hk : k ≤ rs.length) (h1 : ∀ j x, j < k → rs[j]? = some x → Bef x r) (h2 : ∀ x, rs[k]? = some x → ¬ Bef x r) : posQ rs r = k := by
  induction rs generalizing k with
  | nil => simp at hk; subst hk; rfl
  | cons y t ih =>
    rw [posQ_cons]
    cases k with
    | zero =>
      have := h2 y rfl
      rw [if_neg]
      unfold befB
      simpa using this
    | succ k =>
      have := h1 0 y (by omega) rfl
      rw [if_pos (show befB y r = true from decide_eq_true this), ih (k := k) (by simpa using hk) (fun j x hj hx => h1 (j + 1) x (by omega) (by simpa using hx)) (fun x hx => h2 x (by simpa using hx))]
theorem srt_get {rs : List Rq} (h : Srt rs) {i j : Nat} {x y : Rq} (hij : i < j) (hx : rs[i]? = some x) (hy : rs[j]? = some y) : Bef x y := by
  obtain ⟨h1, e1⟩ := List.getElem?_eq_some_iff.1 hx
  obtain ⟨h2, e2⟩ := List.getElem?_eq_some_iff.1 hy
  have := List.pairwise_iff_getElem.1 h i j h1 h2 hij
  rw [e1, e2] at this
  exact this
theorem srt_mono {rs : List Rq} (h : Srt rs) {i j : Nat} {x y r : Rq} (hij : i ≤ j) (hx : rs[i]? = some x) (hy : rs[j]? = some y) (hb : Bef y r) : Bef x r := by
  rcases Nat.lt_or_eq_of_le hij with hlt | rfl
  · exact (srt_get h hlt hx hy).trans hb
  · rw [hx] at hy
    injection hy with e
    rw [e]
    exact hb
theorem posQ_lt {rs : List Rq} {r : Rq} : ∀ {j : Nat} {x : Rq}, j < posQ rs r → rs[j]? = some x → Bef x r := by
  induction rs with
  | nil => intro j x hj hx; simp at hx
  | cons y t ih =>
    intro j x hj hx
    rw [posQ_cons] at hj
    split at hj
    · rename_i hb
      cases j with
      | zero =>
        simp at hx
        subst hx
        exact of_decide_eq_true hb
      | succ j => exact ih (j := j) (by omega) (by simpa using hx)
    · omega
theorem posQ_at {rs : List Rq} {r x : Rq} (hx : rs[posQ rs r]? = some x) : ¬ Bef x r := by
  induction rs with
  | nil => simp at hx
  | cons y t ih =>
    rw [posQ_cons] at hx
    split at hx
    · exact ih (by simpa using hx)
    · rename_i hb
      simp at hx
      subst hx
      unfold befB at hb
      simpa using hb
theorem srt_ins {rs : List Rq} {r : Rq} (h : Srt rs) (hid : ∀ x ∈ rs, x.id ≠ r.id) : Srt (insQ rs r) := by
  unfold insQ Srt
  rw [List.pairwise_append]
  refine ⟨h.take, List.pairwise_cons.2 ⟨fun y hy => ?_, h.drop⟩, fun x hx y hy => ?_⟩
  · obtain ⟨j, hj⟩ := List.getElem?_of_mem hy
    rw [List.getElem?_drop] at hj
    have hn : ¬ Bef y r := fun hb => by
      obtain ⟨z, hz⟩ : ∃ z, rs[posQ rs r]? = some z := by
        have := (List.getElem?_eq_some_iff.1 hj).1
        exact ⟨_, List.getElem?_eq_getElem (by omega)⟩
      exact posQ_at hz (srt_mono h (Nat.le_add_right _ j) hz hj hb)
    exact Bef.other hn (hid y (List.mem_of_getElem? hj))
  · obtain ⟨i, hi⟩ := List.getElem?_of_mem hx
    rw [List.getElem?_take] at hi
    split at hi
    · rename_i hlt
      rcases List.mem_cons.1 hy with rfl | hy
      · exact posQ_lt hlt hi
      · obtain ⟨j, hj⟩ := List.getElem?_of_mem hy
        rw [List.getElem?_drop] at hj
        exact srt_get h (by omega) hi hj
    · cases hi
theorem insQ_len (rs : List Rq) (r : Rq) : (insQ rs r).length = rs.length + 1 := by
  have := posQ_le rs r
  unfold insQ
  rw [List.length_append, List.length_cons, List.length_take, List.length_drop]
  omega
theorem insQ_mem {rs : List Rq} {r x : Rq} : x ∈ insQ rs r ↔ x = r ∨ x ∈ rs := by
  unfold insQ
  rw [List.mem_append, List.mem_cons]
  constructor
  · rintro (h | h | h)
    · exact Or.inr (List.mem_of_mem_take h)
    · exact Or.inl h
    · exact Or.inr (List.mem_of_mem_drop h)
  · rintro (h | h)
    · exact Or.inr (Or.inl h)
    · rw [← List.take_append_drop (posQ rs r) rs] at h
      rcases List.mem_append.1 h with h | h
      · exact Or.inl h
      · exact Or.inr (Or.inr h)
theorem srt_filter {rs : List Rq} (h : Srt rs) (p : Rq → Bool) : Srt (rs.filter p) := List.Pairwise.filter p h
end Go.Proofs.YtimkgaokcldgkaaGreatDoor
