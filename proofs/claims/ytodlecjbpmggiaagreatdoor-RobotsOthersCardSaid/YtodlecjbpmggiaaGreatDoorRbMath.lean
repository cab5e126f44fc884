/- Package robots: the mathematics of tokens and of what is picked. No program here. -/
import Derived.Test.YtodlecjbpmggiaaGreatDoorLnGrp
namespace Go.Proofs.YtodlecjbpmggiaaGreatDoor
open Go Go.RowKit
set_option linter.unusedVariables false
set_option linter.unusedSimpArgs false

/-- What counts of a name. -/
def okT (c : Int) : Bool := decide ((65 ≤ c ∧ c ≤ 90) ∨ (97 ≤ c ∧ c ≤ 122) ∨ c = 45 ∨ c = 95)
def okS (c : Int) : Bool := decide ((97 ≤ c ∧ c ≤ 122) ∨ c = 45 ∨ c = 95)
def tokL (l : List Int) : List Int := (l.takeWhile okT).map lwI
theorem okS_low (c : Int) : okS (lwI c) = okT c := by
  unfold okS okT lwI
  rw [decide_eq_decide]
  split <;> omega
theorem tok_low : ∀ l : List Int, (l.map lwI).takeWhile okS = tokL l
  | [] => rfl
  | c :: t => by
    have ih := tok_low t
    unfold tokL at ih ⊢
    rw [List.map_cons, List.takeWhile_cons, List.takeWhile_cons, okS_low]
    cases okT c
    · rfl
    · simp only [if_true]
      rw [ih]
      rfl
theorem tok_take {l : List Int} {k : Nat} (h1 : ∀ i c, i < k → l[i]? = some c → okT c = true) (h2 : ∀ c, l[k]? = some c → okT c = false) : l.takeWhile okT = l.take k := by
  induction l generalizing k with
  | nil => simp
  | cons x t ih =>
    cases k with
    | zero =>
      have := h2 x rfl
      rw [List.takeWhile_cons, this]
      rfl
    | succ k =>
      have := h1 0 x (by omega) rfl
      rw [List.takeWhile_cons, this, if_pos rfl, List.take_succ_cons]
      congr 1
      exact ih (fun i c hi hc => h1 (i + 1) c (by omega) (by simpa using hc)) (fun c hc => h2 c (by simpa using hc))
theorem tokS_take {l : List Int} {k : Nat} (h1 : ∀ i c, i < k → l[i]? = some c → okS c = true) (h2 : ∀ c, l[k]? = some c → okS c = false) : l.takeWhile okS = l.take k := by
  induction l generalizing k with
  | nil => simp
  | cons x t ih =>
    cases k with
    | zero =>
      have := h2 x rfl
      rw [List.takeWhile_cons, this]
      rfl
    | succ k =>
      have := h1 0 x (by omega) rfl
      rw [List.takeWhile_cons, this, if_pos rfl, List.take_succ_cons]
      congr 1
      exact ih (fun i c hi hc => h1 (i + 1) c (by omega) (by simpa using hc)) (fun c hc => h2 c (by simpa using hc))
structure Rb where
  all : Bool
  none_ : Bool
  ru : List (Bool × List Int)
  de : Int
def mineB (tk n : List Int) : Bool := !tk.isEmpty && decide (tokL n = tk)
def starB (n : List Int) : Bool := decide (n = [42])
def pickF (p : List Int → Bool) (gs : List Gp) : List Gp := gs.filter fun g => g.ag.any p
def mergeL (gs : List Gp) : Rb := ⟨false, false, (gs.flatMap (·.ru)).take 64, gs.foldl (fun d g => max d g.de) 0⟩
def pickL (gs : List Gp) (tk : List Int) : Rb := if pickF (mineB tk) gs = [] then mergeL (pickF starB gs) else mergeL (pickF (mineB tk) gs)
def readL (status : Int) (body agent : List Int) : Rb :=
  if 200 ≤ status ∧ status < 300 then pickL (grL (linesL body)) (tokL agent)
  else if 400 ≤ status ∧ status < 500 ∧ status ≠ 429 then ⟨true, false, [], 0⟩ else ⟨false, true, [], 0⟩
end Go.Proofs.YtodlecjbpmggiaaGreatDoor
