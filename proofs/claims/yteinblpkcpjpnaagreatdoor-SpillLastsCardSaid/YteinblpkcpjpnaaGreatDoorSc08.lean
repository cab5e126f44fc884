/- Part of a chain: DkMath. -/
import Derived.Lib.Hide
/- The simulated disk, told by lists: segments by number, rising; pieces not yet synced. No program here. -/
namespace Go.Proofs.YteinblpkcpjpnaaGreatDoor
open Go
set_option linter.unusedVariables false
set_option linter.unusedSimpArgs false

abbrev Sgs := List (Int × List Int)
abbrev Pcs := List (Int × Nat)
def gS : Sgs → Int → Option (List Int)
  | [], _ => none
  | (m, c) :: t, n => if m = n then some c else gS t n
def pS : Sgs → Int → List Int → Sgs
  | [], n, b => [(n, b)]
  | (m, c) :: t, n, b => if n < m then (n, b) :: (m, c) :: t else if m = n then (n, b) :: t else (m, c) :: pS t n b
def SS (S : Sgs) : Prop := S.Pairwise fun p q => p.1 < q.1
def gD (S : Sgs) (n : Int) : List Int := (gS S n).getD []
theorem gS_put (S : Sgs) (n : Int) (b : List Int) (k : Int) : gS (pS S n b) k = if k = n then some b else gS S k := by
  induction S with
  | nil =>
    unfold pS gS gS
    by_cases h : k = n
    · rw [if_pos h, if_pos h.symm]
    · rw [if_neg h, if_neg (fun e => h e.symm)]
  | cons x t ih =>
    obtain ⟨m, c⟩ := x
    unfold pS
    by_cases h1 : n < m
    · rw [if_pos h1]
      by_cases h : k = n
      · rw [if_pos h]; unfold gS; rw [if_pos h.symm]
      · rw [if_neg h]; rw [gS, if_neg (fun e => h e.symm)]
    · rw [if_neg h1]
      by_cases h2 : m = n
      · rw [if_pos h2]
        by_cases h : k = n
        · rw [if_pos h]; unfold gS; rw [if_pos h.symm]
        · rw [if_neg h, gS, gS, if_neg (fun e => h e.symm), if_neg (fun e => h (e.symm.trans h2))]
      · rw [if_neg h2, gS, ih, gS]
        by_cases h3 : m = k
        · rw [if_pos h3, if_pos h3, if_neg (fun e => h2 (h3.trans e))]
        · rw [if_neg h3, if_neg h3]
theorem pS_mem {S : Sgs} {n : Int} {b : List Int} {p : Int × List Int} (h : p ∈ pS S n b) : p = (n, b) ∨ p ∈ S := by
  induction S with
  | nil => exact Or.inl (by simpa [pS] using h)
  | cons x t ih =>
    obtain ⟨m, c⟩ := x
    unfold pS at h
    split at h
    · rcases List.mem_cons.1 h with h | h
      · exact Or.inl h
      · exact Or.inr h
    · split at h
      · rcases List.mem_cons.1 h with h | h
        · exact Or.inl h
        · exact Or.inr (List.mem_cons_of_mem _ h)
      · rcases List.mem_cons.1 h with h | h
        · exact Or.inr (h ▸ List.mem_cons_self)
        · rcases ih h with h | h
          · exact Or.inl h
          · exact Or.inr (List.mem_cons_of_mem _ h)
theorem SS_put {S : Sgs} (h : SS S) (n : Int) (b : List Int) : SS (pS S n b) := by
  unfold SS at *
  induction S with
  | nil => exact List.pairwise_singleton _ _
  | cons x t ih =>
    obtain ⟨m, c⟩ := x
    obtain ⟨h1, h2⟩ := List.pairwise_cons.1 h
    unfold pS
    split
    · rename_i hn
      refine List.pairwise_cons.2 ⟨fun q hq => ?_, h⟩
      rcases List.mem_cons.1 hq with hq | hq
      · rw [hq]; exact hn
      · have := h1 q hq
        exact Int.lt_trans hn this
    · split
      · rename_i hn hm
        subst hm
        exact List.pairwise_cons.2 ⟨fun q hq => h1 q hq, h2⟩
      · rename_i hn hm
        refine List.pairwise_cons.2 ⟨fun q hq => ?_, ih h2⟩
        rcases pS_mem hq with hq | hq
        · rw [hq]
          show m < n
          omega
        · exact h1 q hq
theorem gS_low {S : Sgs} {n : Int} (h : ∀ p ∈ S, n < p.1) : gS S n = none := by
  induction S with
  | nil => rfl
  | cons x t ih =>
    obtain ⟨m, c⟩ := x
    have h1 : n < m := h (m, c) List.mem_cons_self
    rw [gS, if_neg (by omega), ih (fun p hp => h p (List.mem_cons_of_mem _ hp))]
theorem len_put {S : Sgs} (h : SS S) (n : Int) (b : List Int) : (pS S n b).length = if (gS S n).isSome then S.length else S.length + 1 := by
  unfold SS at h
  induction S with
  | nil => rfl
  | cons x t ih =>
    obtain ⟨m, c⟩ := x
    obtain ⟨h1, h2⟩ := List.pairwise_cons.1 h
    unfold pS
    split
    · rename_i hn
      have : gS ((m, c) :: t) n = none := gS_low fun p hp => by
        rcases List.mem_cons.1 hp with hp | hp
        · rw [hp]; exact hn
        · exact Int.lt_trans hn (h1 p hp)
      rw [this]
      rfl
    · split
      · rename_i hn hm
        rw [gS, if_pos hm]
        rfl
      · rename_i hn hm
        rw [gS, if_neg hm, List.length_cons, ih h2, List.length_cons]
        split <;> rfl
theorem gS_keys {S : Sgs} {n : Int} : n ∈ S.map Prod.fst ↔ (gS S n).isSome = true := by
  induction S with
  | nil => simp [gS]
  | cons x t ih =>
    obtain ⟨m, c⟩ := x
    rw [gS, List.map_cons, List.mem_cons, ih]
    by_cases h : m = n
    · simp [h]
    · rw [if_neg h]
      constructor
      · rintro (h' | h')
        · exact absurd h'.symm h
        · exact h'
      · exact Or.inr
theorem keys_nodup {S : Sgs} (h : SS S) : (S.map Prod.fst).Nodup := by
  unfold List.Nodup
  rw [List.pairwise_map]
  exact List.Pairwise.imp (fun h => by omega) h
theorem keys_sorted {S : Sgs} (h : SS S) : (S.map Prod.fst).Pairwise fun x y => decide (x ≤ y) = true := by
  rw [List.pairwise_map]
  exact List.Pairwise.imp (fun h => decide_eq_true (by omega)) h
/-- How many bytes of a segment are not yet synced. -/
def loose : Pcs → Int → Nat
  | [], _ => 0
  | (g, z) :: t, n => (if g = n then z else 0) + loose t n
theorem loose_app (u : Pcs) (g : Int) (z : Nat) (n : Int) : loose (u ++ [(g, z)]) n = loose u n + if g = n then z else 0 := by
  induction u with
  | nil => simp [loose]
  | cons x t ih =>
    obtain ⟨m, y⟩ := x
    rw [List.cons_append, loose, ih, loose]
    omega
def UN (S : Sgs) (u : Pcs) : Prop := (∀ p ∈ u, (gS S p.1).isSome = true) ∧ ∀ n, loose u n ≤ (gD S n).length
theorem UN.nil (S : Sgs) : UN S [] := ⟨fun p hp => (by cases hp), fun n => Nat.zero_le _⟩
theorem gD_put (S : Sgs) (n : Int) (b : List Int) (k : Int) : gD (pS S n b) k = if k = n then b else gD S k := by
  unfold gD
  rw [gS_put]
  split <;> rfl
theorem UN.add {S : Sgs} {u : Pcs} (h : UN S u) (n : Int) (b : List Int) : UN (pS S n (gD S n ++ b)) (u ++ [(n, b.length)]) := by
  refine ⟨fun p hp => ?_, fun k => ?_⟩
  · rw [gS_put]
    split
    · rfl
    · rename_i hne
      rcases List.mem_append.1 hp with hp | hp
      · exact h.1 p hp
      · rw [List.mem_singleton] at hp
        rw [hp] at hne
        exact absurd rfl hne
  · rw [loose_app, gD_put]
    have := h.2 k
    by_cases e : k = n
    · subst e
      rw [if_pos rfl, if_pos rfl, List.length_append]
      omega
    · rw [if_neg e, if_neg (fun e' => e e'.symm)]
      exact this
/-- What of a piece is kept. -/
def keptN (k : Int) (z : Nat) : Nat := (max 0 (min k (z : Int))).toNat
theorem keptN_le (k : Int) (z : Nat) : keptN k z ≤ z := by unfold keptN; omega
theorem keptN_int (k : Int) (z : Nat) : ((keptN k z : Nat) : Int) = max 0 (min k (z : Int)) := by unfold keptN; omega
def cut1 (k : Int) (S : Sgs) (p : Int × Nat) : Sgs := pS S p.1 ((gD S p.1).take ((gD S p.1).length - (p.2 - keptN k p.2)))
def crash : Int → Sgs → Pcs → Sgs
  | _, S, [] => S
  | k, S, p :: t => crash (k - keptN k p.2) (cut1 k S p) t
theorem UN.cut {k : Int} {S : Sgs} {p : Int × Nat} {t : Pcs} (h : UN S (p :: t)) : UN (cut1 k S p) t := by
  obtain ⟨g, z⟩ := p
  refine ⟨fun q hq => ?_, fun n => ?_⟩
  · unfold cut1
    rw [gS_put]
    split
    · rfl
    · exact h.1 q (List.mem_cons_of_mem _ hq)
  · have h1 := h.2 n
    have h2 := keptN_le k z
    rw [loose] at h1
    unfold cut1
    rw [gD_put]
    by_cases e : n = g
    · subst e
      rw [if_pos rfl] at h1
      rw [if_pos rfl, List.length_take]
      dsimp only
      omega
    · rw [if_neg (fun e' => e e'.symm)] at h1
      rw [if_neg e]
      omega
theorem UN.head {S : Sgs} {g : Int} {z : Nat} {t : Pcs} (h : UN S ((g, z) :: t)) : z ≤ (gD S g).length := by
  have := h.2 g
  rw [loose, if_pos rfl] at this
  omega
theorem SS_cut {k : Int} {S : Sgs} {p : Int × Nat} (h : SS S) : SS (cut1 k S p) := SS_put h _ _
theorem len_cut {k : Int} {S : Sgs} {p : Int × Nat} (h : SS S) (hs : (gS S p.1).isSome = true) : (cut1 k S p).length = S.length := by
  unfold cut1
  rw [len_put h, if_pos hs]
end Go.Proofs.YteinblpkcpjpnaaGreatDoor
