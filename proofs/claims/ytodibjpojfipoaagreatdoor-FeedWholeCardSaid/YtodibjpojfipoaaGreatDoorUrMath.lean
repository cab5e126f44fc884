/- Package url: the mathematics of names, ports and paths, over the numbers of the bytes. No program here. -/
import Derived.WalkKit
namespace Go.Proofs.YtodibjpojfipoaaGreatDoor
set_option linter.unusedVariables false
set_option linter.unusedSimpArgs false

/-- A letter in its small size. -/
def lwI (c : Int) : Int := if 65 ≤ c ∧ c ≤ 90 then c + 32 else c
/-- May it stand in a name, beside the sign that joins? -/
def alnI (c : Int) : Bool := decide ((97 ≤ c ∧ c ≤ 122) ∨ (65 ≤ c ∧ c ≤ 90) ∨ (48 ≤ c ∧ c ≤ 57))
def smallI (c : Int) : Bool := decide ((97 ≤ c ∧ c ≤ 122) ∨ (48 ≤ c ∧ c ≤ 57) ∨ c = 45)
/-- A name, read letter by letter: how long the label is so far, and what stood last. -/
def nameA : Nat → Int → List Int → Bool
  | len, last, [] => decide (0 < len) && decide (last ≠ 45)
  | len, last, c :: t => if c = 46 then decide (0 < len) && decide (last ≠ 45) && nameA 0 46 t
    else if c = 45 then decide (0 < len) && decide (len + 1 ≤ 63) && nameA (len + 1) 45 t
    else alnI c && decide (len + 1 ≤ 63) && nameA (len + 1) c t
/-- Parts with a sign between. -/
def splI (s : Int) : List Int → List (List Int)
  | [] => [[]]
  | c :: t => if c = s then [] :: splI s t else match splI s t with
    | [] => [[c]]
    | p :: ps => (c :: p) :: ps
theorem splI_ne (s : Int) : ∀ l, splI s l ≠ []
  | [] => by simp [splI]
  | c :: t => by
    unfold splI
    split
    · simp
    · split <;> simp
/-- May a label be? -/
def labI (p : List Int) : Bool := decide (1 ≤ p.length) && decide (p.length ≤ 63) && decide (p.head? ≠ some 45) && decide (p.getLast? ≠ some 45) && p.all smallI
theorem lw_dot (c : Int) : lwI c = 46 ↔ c = 46 := by unfold lwI; split <;> omega
theorem lw_dash (c : Int) : lwI c = 45 ↔ c = 45 := by unfold lwI; split <;> omega
theorem lw_small {c : Int} (h : c ≠ 45) : smallI (lwI c) = alnI c := by
  unfold smallI alnI lwI
  rw [decide_eq_decide]
  split <;> omega
/-- The label so far may be the beginning of one. -/
structure Beg (q : List Int) (last : Int) : Prop where
  len : q.length ≤ 63
  all : q.all smallI = true
  head : q.head? ≠ some 45
  last : (q = [] ∧ last = 46) ∨ (q ≠ [] ∧ (q.getLast? = some 45 ↔ last = 45))
theorem Beg.nil : Beg [] 46 := ⟨by simp, rfl, by simp, Or.inl ⟨rfl, rfl⟩⟩
theorem Beg.end_ {q : List Int} {last : Int} (h : Beg q last) : labI q = (decide (0 < q.length) && decide (last ≠ 45)) := by
  unfold labI
  rw [h.all, decide_eq_true h.len, decide_eq_true h.head, Bool.and_true, Bool.and_true, Bool.and_true]
  rcases h.last with ⟨rfl, rfl⟩ | ⟨h1, h2⟩
  · simp
  · congr 1
    rw [decide_eq_decide]
    exact not_congr h2
theorem Beg.snoc {q : List Int} {last c : Int} (h : Beg q last) (hc : smallI (lwI c) = true) (h0 : q = [] → c ≠ 45) (hl : q.length + 1 ≤ 63) : Beg (q ++ [lwI c]) c := by
  refine ⟨by simp; omega, by simp [h.all, hc], ?_, Or.inr ⟨by simp, ?_⟩⟩
  · cases q with
    | nil => simp [lw_dash]; exact h0 rfl
    | cons x q => simpa using h.head
  · simp [lw_dash]
theorem lab_bad {q : List Int} (h : labI q = false → False) : labI q = true := by
  cases hq : labI q with
  | true => rfl
  | false => exact (h hq).elim
/-- What a label with more behind it needs. -/
theorem lab_pre {q p : List Int} (h : labI (q ++ p) = true) : (q ++ p).length ≤ 63 ∧ q.all smallI = true ∧ (q ++ p).head? ≠ some 45 := by
  unfold labI at h
  simp only [Bool.and_eq_true, decide_eq_true_eq] at h
  obtain ⟨⟨⟨⟨h1, h2⟩, h3⟩, h4⟩, h5⟩ := h
  rw [List.all_append, Bool.and_eq_true] at h5
  exact ⟨h2, h5.1, h3⟩
theorem nameA_spl : ∀ (s : List Int) (q : List Int) (last : Int), Beg q last →
    nameA q.length last s = (match splI 46 (s.map lwI) with | [] => false | p :: ps => labI (q ++ p) && ps.all labI)
  | [], q, last, h => by
    show (decide (0 < q.length) && decide (last ≠ 45)) = (labI (q ++ []) && ([] : List (List Int)).all labI)
    rw [List.append_nil, h.end_]
    simp
  | c :: t, q, last, h => by
    rw [List.map_cons]
    unfold nameA splI
    by_cases hd : c = 46
    · rw [if_pos hd, if_pos ((lw_dot c).2 hd)]
      have ih := nameA_spl t [] 46 Beg.nil
      rw [List.length_nil] at ih
      rw [ih]
      show _ = (labI (q ++ []) && (splI 46 (t.map lwI)).all labI)
      rw [List.append_nil, h.end_]
      congr 1
      cases hs : splI 46 (t.map lwI) with
      | nil => exact absurd hs (splI_ne _ _)
      | cons p ps => simp
    · rw [if_neg hd, if_neg (fun e => hd ((lw_dot c).1 e))]
      have hcons : ∀ p : List Int, q ++ lwI c :: p = (q ++ [lwI c]) ++ p := fun p => by simp
      cases hs : splI 46 (t.map lwI) with
      | nil => exact absurd hs (splI_ne _ _)
      | cons p ps =>
        simp only
        rw [hcons]
        by_cases hok : smallI (lwI c) = true ∧ (q = [] → c ≠ 45) ∧ q.length + 1 ≤ 63
        · have ih := nameA_spl t (q ++ [lwI c]) c (h.snoc hok.1 hok.2.1 hok.2.2)
          rw [hs, List.length_append, List.length_singleton] at ih
          simp only at ih
          by_cases hm : c = 45
          · have hq : 0 < q.length := by
              cases q with
              | nil => exact absurd hm (hok.2.1 rfl)
              | cons x q => simp
            rw [if_pos hm, decide_eq_true hq, decide_eq_true hok.2.2, Bool.true_and, Bool.true_and, ← ih, hm]
          · rw [if_neg hm, ← lw_small hm, hok.1, decide_eq_true hok.2.2, Bool.true_and, Bool.true_and, ih]
        · have hbad : labI ((q ++ [lwI c]) ++ p) = false := by
            cases hl : labI ((q ++ [lwI c]) ++ p) with
            | false => rfl
            | true =>
              obtain ⟨h1, h2, h3⟩ := lab_pre hl
              refine absurd ⟨?_, ?_, ?_⟩ hok
              · rw [List.all_append] at h2
                simp at h2
                exact h2.2
              · intro e e2
                subst e
                rw [e2] at h3
                exact h3 (by simp [lwI])
              · simp at h1
                omega
          rw [hbad, Bool.false_and]
          by_cases hm : c = 45
          · rw [if_pos hm]
            have hsm : smallI (lwI c) = true := by rw [hm]; decide
            by_cases hq : q = []
            · subst hq; simp
            · have : ¬ q.length + 1 ≤ 63 := fun e => hok ⟨hsm, fun e2 => absurd e2 hq, e⟩
              rw [decide_eq_false this, Bool.and_false, Bool.false_and]
          · rw [if_neg hm, ← lw_small hm]
            cases hsm : smallI (lwI c) with
            | false => simp
            | true =>
              have : ¬ q.length + 1 ≤ 63 := fun e => hok ⟨hsm, fun _ => hm, e⟩
              rw [decide_eq_false this]
              simp
/-- A name letter by letter is a name label by label. -/
theorem name_labels (s : List Int) : nameA 0 46 s = (splI 46 (s.map lwI)).all labI := by
  have := nameA_spl s [] 46 Beg.nil
  rw [List.length_nil] at this
  rw [this]
  cases hs : splI 46 (s.map lwI) with
  | nil => exact absurd hs (splI_ne _ _)
  | cons p ps => simp

/-- A port, digit by digit. -/
def portA : Int → List Int → Option Int
  | n, [] => some n
  | n, c :: t => if 48 ≤ c ∧ c ≤ 57 ∧ ¬ (c = 48 ∧ n = 0) ∧ 10 * n + (c - 48) ≤ 65535 then portA (10 * n + (c - 48)) t else none
def pvI (n : Int) (l : List Int) : Int := l.foldl (fun n c => 10 * n + (c - 48)) n
def pdig (l : List Int) : Prop := ∀ c ∈ l, 48 ≤ c ∧ c ≤ 57
instance (l : List Int) : Decidable (pdig l) := by unfold pdig; exact inferInstance
theorem pvI_cons (n c : Int) (t : List Int) : pvI n (c :: t) = pvI (10 * n + (c - 48)) t := rfl
theorem pvI_ge : ∀ (l : List Int) (n : Int), 0 ≤ n → pdig l → n * 10 ^ l.length ≤ pvI n l
  | [], n, _, _ => by simp [pvI]
  | c :: t, n, hn, hd => by
    have hc := hd c (by simp)
    have ih := pvI_ge t (10 * n + (c - 48)) (by omega) (fun x hx => hd x (by simp [hx]))
    rw [pvI_cons]
    refine Int.le_trans ?_ ih
    rw [List.length_cons, Int.pow_succ, ← Int.mul_assoc, Int.mul_right_comm]
    exact Int.mul_le_mul_of_nonneg_right (by omega) (Int.pow_nonneg (by decide))
theorem pvI_mono {l : List Int} {n : Int} (hn : 0 ≤ n) (hd : pdig l) : n ≤ pvI n l := by
  have h1 := pvI_ge l n hn hd
  have h2 : (1 : Int) ≤ 10 ^ l.length := (Int.pow_pos (by decide) : (0 : Int) < _)
  have h3 : n * 1 ≤ n * 10 ^ l.length := Int.mul_le_mul_of_nonneg_left h2 hn
  omega
theorem portA_pos : ∀ (l : List Int) (n : Int), 0 < n → n ≤ 65535 → portA n l = if pdig l ∧ pvI n l ≤ 65535 then some (pvI n l) else none
  | [], n, h0, h1 => by
    rw [if_pos ⟨fun c hc => by simp at hc, h1⟩]
    rfl
  | c :: t, n, h0, h1 => by
    unfold portA
    by_cases hc : 48 ≤ c ∧ c ≤ 57
    · by_cases hv : 10 * n + (c - 48) ≤ 65535
      · rw [if_pos ⟨hc.1, hc.2, by omega, hv⟩, portA_pos t _ (by omega) hv, pvI_cons]
        have : pdig (c :: t) ↔ pdig t := ⟨fun h x hx => h x (by simp [hx]), fun h x hx => by
          rcases List.mem_cons.1 hx with rfl | hx
          · exact hc
          · exact h x hx⟩
        simp only [this]
      · rw [if_neg (fun h => hv h.2.2.2), if_neg]
        rintro ⟨hd, hle⟩
        rw [pvI_cons] at hle
        have := pvI_mono (n := 10 * n + (c - 48)) (by omega) (fun x hx => hd x (by simp [hx]) : pdig t)
        omega
    · rw [if_neg (fun h => hc ⟨h.1, h.2.1⟩), if_neg]
      rintro ⟨hd, _⟩
      exact hc (hd c (by simp))
/-- A port, as the document has it. -/
def portD (l : List Int) : Int := if 1 ≤ l.length ∧ l.length ≤ 5 ∧ l.head? ≠ some 48 ∧ pdig l ∧ pvI 0 l ≤ 65535 then pvI 0 l else 0
theorem port_same (l : List Int) : (portA 0 l).getD 0 = portD l := by
  cases l with
  | nil => rfl
  | cons c t =>
    unfold portA portD
    by_cases hc : 48 ≤ c ∧ c ≤ 57
    · by_cases h0 : c = 48
      · rw [if_neg (fun h => h.2.2.1 ⟨h0, rfl⟩), if_neg]
        · rfl
        · rintro ⟨_, _, h, _⟩
          exact h (by simp [h0])
      · rw [if_pos ⟨hc.1, hc.2, fun h => h0 h.1, by omega⟩, portA_pos t _ (by omega) (by omega)]
        by_cases hd : pdig t ∧ pvI (10 * 0 + (c - 48)) t ≤ 65535
        · rw [if_pos hd, if_pos]
          · rfl
          · refine ⟨by simp, ?_, by simpa using h0, fun x hx => ?_, hd.2⟩
            · have h1 := pvI_ge t (10 * 0 + (c - 48)) (by omega) hd.1
              rw [List.length_cons]
              rcases Nat.lt_or_ge t.length 5 with h | h
              · omega
              · exfalso
                have h2 : (10 : Int) ^ 5 ≤ 10 ^ t.length := by
                  rw [show t.length = 5 + (t.length - 5) from by omega, Int.pow_add]
                  have h3 : (1 : Int) ≤ 10 ^ (t.length - 5) := (Int.pow_pos (by decide) : (0 : Int) < _)
                  have h4 : (10 : Int) ^ 5 * 1 ≤ 10 ^ 5 * 10 ^ (t.length - 5) := Int.mul_le_mul_of_nonneg_left h3 (by decide)
                  omega
                have h5 : 1 * (10 : Int) ^ t.length ≤ (10 * 0 + (c - 48)) * 10 ^ t.length := Int.mul_le_mul_of_nonneg_right (by omega) (Int.pow_nonneg (by decide))
                have h6 : (10 : Int) ^ 5 = 100000 := by decide
                omega
            · rcases List.mem_cons.1 hx with rfl | hx
              · exact hc
              · exact hd.1 x hx
        · rw [if_neg hd, if_neg]
          · rfl
          · rintro ⟨_, _, _, h1, h2⟩
            exact hd ⟨fun x hx => h1 x (by simp [hx]), h2⟩
    · rw [if_neg (fun h => hc ⟨h.1, h.2.1⟩), if_neg]
      · rfl
      · rintro ⟨_, _, _, h, _⟩
        exact hc (h c (by simp))
/-- Parts of a path, without what goes up and stays. -/
def cstep (out : List (List Int)) (p : List Int) : List (List Int) :=
  if p = [46] then out else if p = [46, 46] then (if out.dropLast = [] then [[]] else out.dropLast) else out ++ [p]
def cleanL (ps : List (List Int)) : List (List Int) := ps.foldl cstep [] ++ (if ps.getLast? = some [46] ∨ ps.getLast? = some [46, 46] then [[]] else [])
def joinI : List (List Int) → List Int
  | [] => []
  | [p] => p
  | p :: q :: ps => p ++ 47 :: joinI (q :: ps)
def cleanI (l : List Int) : List Int :=
  let s := joinI (cleanL (splI 47 l))
  if s.head? = some 47 then s else 47 :: s
end Go.Proofs.YtodibjpojfipoaaGreatDoor
