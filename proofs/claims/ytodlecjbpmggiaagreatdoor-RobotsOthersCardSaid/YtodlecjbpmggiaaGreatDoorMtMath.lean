/- Package match: the mathematics of patterns. No program here. -/
import Derived.WalkKit
import Derived.Lib.Split
namespace Go.Proofs.YtodlecjbpmggiaaGreatDoor
open Go.RowKit

/-- Does a text match a pattern, whole? -/
def mb : List UInt8 → List UInt8 → Bool
  | [], s => s.isEmpty
  | c :: p, s => if c = 42 then (List.range (s.length + 1)).any (fun i => mb p (s.drop i)) else match s with
    | [] => false
    | x :: t => x == c && mb p t
theorem mb_nil (s : List UInt8) : mb [] s = true ↔ s = [] := by simp [mb]
theorem mb_star (p s : List UInt8) : mb (42 :: p) s = true ↔ ∃ i, i ≤ s.length ∧ mb p (s.drop i) = true := by
  simp only [mb, if_true, List.any_eq_true, List.mem_range]
  constructor
  · rintro ⟨i, h, h2⟩; exact ⟨i, by omega, h2⟩
  · rintro ⟨i, h, h2⟩; exact ⟨i, by omega, h2⟩
theorem mb_lit {c : UInt8} (hc : c ≠ 42) (p s : List UInt8) : mb (c :: p) s = true ↔ ∃ t, s = c :: t ∧ mb p t = true := by
  cases s with
  | nil => simp [mb, hc]
  | cons x t =>
    simp only [mb, if_neg hc, Bool.and_eq_true, beq_iff_eq, List.cons.injEq]
    constructor
    · rintro ⟨rfl, h⟩; exact ⟨t, ⟨rfl, rfl⟩, h⟩
    · rintro ⟨t', ⟨h1, h2⟩, h⟩; exact ⟨h1, by rw [h2]; exact h⟩
theorem mb_star' (p s : List UInt8) : mb (42 :: p) s = true ↔ ∃ u, u <:+ s ∧ mb p u = true := by
  rw [mb_star]
  constructor
  · rintro ⟨i, _, h⟩; exact ⟨_, List.drop_suffix i s, h⟩
  · rintro ⟨u, ⟨v, rfl⟩, h⟩; exact ⟨v.length, by simp, by simpa using h⟩
theorem mb_app {q : List UInt8} (hq : (42 : UInt8) ∉ q) (p s : List UInt8) : mb (q ++ p) s = true ↔ ∃ t, s = q ++ t ∧ mb p t = true := by
  induction q generalizing s with
  | nil => simp
  | cons c q ih =>
    have hc : c ≠ 42 := fun e => hq (by simp [e])
    rw [List.cons_append, mb_lit hc]
    constructor
    · rintro ⟨t, rfl, h⟩
      obtain ⟨u, rfl, h2⟩ := (ih (fun e => hq (by simp [e])) t).1 h
      exact ⟨u, rfl, h2⟩
    · rintro ⟨u, rfl, h⟩
      exact ⟨q ++ u, rfl, (ih (fun e => hq (by simp [e])) _).2 ⟨u, rfl, h⟩⟩
theorem mb_snoc_star (p s : List UInt8) : mb (p ++ [42]) s = true ↔ ∃ j, j ≤ s.length ∧ mb p (s.take j) = true := by
  induction p generalizing s with
  | nil =>
    rw [List.nil_append, mb_star]
    constructor
    · rintro ⟨i, hi, h⟩; exact ⟨0, by omega, by simp [mb]⟩
    · rintro ⟨j, hj, h⟩; exact ⟨s.length, by omega, by simp [mb]⟩
  | cons c p ih =>
    by_cases hc : c = 42
    · subst hc
      rw [List.cons_append, mb_star]
      constructor
      · rintro ⟨i, hi, h⟩
        obtain ⟨j, hj, h2⟩ := (ih _).1 h
        rw [List.length_drop] at hj
        refine ⟨i + j, by omega, (mb_star _ _).2 ⟨i, ?_, ?_⟩⟩
        · rw [List.length_take]; omega
        · rw [List.drop_take, show i + j - i = j from by omega]; exact h2
      · rintro ⟨j, hj, h⟩
        obtain ⟨i, hi, h2⟩ := (mb_star _ _).1 h
        rw [List.length_take] at hi
        refine ⟨i, by omega, (ih _).2 ⟨j - i, by rw [List.length_drop]; omega, ?_⟩⟩
        rwa [List.drop_take] at h2
    · rw [List.cons_append, mb_lit hc]
      constructor
      · rintro ⟨t, rfl, h⟩
        obtain ⟨j, hj, h2⟩ := (ih _).1 h
        exact ⟨j + 1, by simp; omega, (mb_lit hc _ _).2 ⟨_, rfl, h2⟩⟩
      · rintro ⟨j, hj, h⟩
        obtain ⟨t, ht, h2⟩ := (mb_lit hc _ _).1 h
        cases s with
        | nil => simp at ht
        | cons x s =>
          cases j with
          | zero => simp at ht
          | succ j =>
            rw [List.take_succ_cons] at ht
            injection ht with e1 e2
            subst e1
            exact ⟨s, rfl, (ih _).2 ⟨j, by simp at hj; omega, by rw [e2]; exact h2⟩⟩
theorem mb_snoc_lit {c : UInt8} (hc : c ≠ 42) (p s : List UInt8) : mb (p ++ [c]) s = true ↔ ∃ t, s = t ++ [c] ∧ mb p t = true := by
  induction p generalizing s with
  | nil =>
    rw [List.nil_append, mb_lit hc]
    constructor
    · rintro ⟨t, rfl, h⟩
      rw [mb_nil] at h
      subst h
      exact ⟨[], rfl, by simp [mb]⟩
    · rintro ⟨t, rfl, h⟩
      rw [mb_nil] at h
      subst h
      exact ⟨[], rfl, by simp [mb]⟩
  | cons d p ih =>
    by_cases hd : d = 42
    · subst hd
      rw [List.cons_append, mb_star']
      constructor
      · rintro ⟨u, ⟨v, rfl⟩, h⟩
        obtain ⟨t, rfl, h2⟩ := (ih _).1 h
        exact ⟨v ++ t, by simp, (mb_star' _ _).2 ⟨t, ⟨v, rfl⟩, h2⟩⟩
      · rintro ⟨t, rfl, h⟩
        obtain ⟨u, ⟨v, rfl⟩, h2⟩ := (mb_star' _ _).1 h
        exact ⟨u ++ [c], ⟨v, by simp⟩, (ih _).2 ⟨u, rfl, h2⟩⟩
    · rw [List.cons_append, mb_lit hd]
      constructor
      · rintro ⟨t, rfl, h⟩
        obtain ⟨u, rfl, h2⟩ := (ih _).1 h
        exact ⟨d :: u, rfl, (mb_lit hd _ _).2 ⟨u, rfl, h2⟩⟩
      · rintro ⟨t, rfl, h⟩
        obtain ⟨u, rfl, h2⟩ := (mb_lit hd _ _).1 h
        exact ⟨u ++ [c], rfl, (ih _).2 ⟨u, rfl, h2⟩⟩

/-- Looking for the parts between the stars one after the other. -/
def gw : List (List UInt8) → List UInt8 → Prop
  | [], s => s = []
  | [q], s => q <:+ s
  | q :: r :: ps, s => 0 ≤ Lib.index s q ∧ gw (r :: ps) (s.drop ((Lib.index s q).toNat + q.length))
def joinP (ps : List (List UInt8)) : List UInt8 := ps.flatMap (42 :: ·)
theorem joinP_cons (q : List UInt8) (ps : List (List UInt8)) : joinP (q :: ps) = 42 :: (q ++ joinP ps) := by simp [joinP]
theorem mono_star {p u s : List UInt8} (h : u <:+ s) (hm : mb (42 :: p) u = true) : mb (42 :: p) s = true := by
  obtain ⟨v, hv, h2⟩ := (mb_star' _ _).1 hm
  exact (mb_star' _ _).2 ⟨v, hv.trans h, h2⟩
theorem gw_iff : ∀ (ps : List (List UInt8)) (s : List UInt8), (∀ q ∈ ps, (42 : UInt8) ∉ q) → (gw ps s ↔ mb (joinP ps) s = true)
  | [], s, _ => by rw [show joinP [] = [] from rfl, mb_nil]; rfl
  | [q], s, hq => by
    rw [joinP_cons, show joinP [] = [] from rfl, mb_star']
    show q <:+ s ↔ _
    constructor
    · intro h
      exact ⟨q, h, (mb_app (hq q (by simp)) [] q).2 ⟨[], by simp, by simp [mb]⟩⟩
    · rintro ⟨u, hu, h⟩
      obtain ⟨t, rfl, h2⟩ := (mb_app (hq q (by simp)) [] u).1 h
      rw [mb_nil] at h2
      subst h2
      simpa using hu
  | q :: r :: ps, s, hq => by
    have ih := gw_iff (r :: ps)
    rw [joinP_cons, mb_star']
    show 0 ≤ Lib.index s q ∧ gw (r :: ps) (s.drop ((Lib.index s q).toNat + q.length)) ↔ _
    rw [ih _ (fun x hx => hq x (by simp at hx ⊢; exact Or.inr hx)), joinP_cons]
    rcases Lib.index_spec s q with ⟨e, hno⟩ | ⟨i, e, hi, hocc, hfst⟩
    · rw [e]
      constructor
      · rintro ⟨h, _⟩; omega
      · rintro ⟨u, ⟨v, rfl⟩, h⟩
        obtain ⟨t, rfl, h2⟩ := (mb_app (hq q (by simp)) _ u).1 h
        have := hno v.length (by simp)
        unfold Lib.occAt at this
        rw [List.drop_left] at this
        have h3 : q.isPrefixOf (q ++ t) = true := List.isPrefixOf_iff_prefix.2 (List.prefix_append _ _)
        rw [h3] at this
        cases this
    · rw [e]
      have hpre : q <+: s.drop i := List.isPrefixOf_iff_prefix.1 hocc
      obtain ⟨t0, ht0⟩ := hpre
      have hd : s.drop (i + q.length) = t0 := by rw [← List.drop_drop, ← ht0, List.drop_left]
      rw [show ((i : Int)).toNat = i from by omega, hd]
      constructor
      · rintro ⟨_, h⟩
        exact ⟨s.drop i, List.drop_suffix i s, (mb_app (hq q (by simp)) _ _).2 ⟨t0, ht0.symm, h⟩⟩
      · rintro ⟨u, ⟨v, rfl⟩, h⟩
        refine ⟨by omega, ?_⟩
        obtain ⟨t, rfl, h2⟩ := (mb_app (hq q (by simp)) _ u).1 h
        have hle : i ≤ v.length := by
          rcases Nat.lt_or_ge v.length i with hlt | h'
          · have := hfst v.length hlt
            unfold Lib.occAt at this
            rw [List.drop_left] at this
            have h3 : q.isPrefixOf (q ++ t) = true := List.isPrefixOf_iff_prefix.2 (List.prefix_append _ _)
            rw [h3] at this
            cases this
          · exact h'
        refine mono_star ?_ h2
        rw [← hd, show v ++ (q ++ t) = (v ++ q) ++ t from by simp]
        have hl : i + q.length ≤ (v ++ q).length := by simp; omega
        rw [List.drop_append_of_le_length hl]
        exact List.suffix_append _ _
/-- The whole matching. -/
def MM (p s : List UInt8) : Bool := if p.getLast? = some 36 then mb p.dropLast s else mb (p ++ [42]) s
theorem greedy_whole {p0 : List UInt8} {ps : List (List UInt8)} (h0 : (42 : UInt8) ∉ p0) (hps : ∀ q ∈ ps, (42 : UInt8) ∉ q) (s : List UInt8) : mb (p0 ++ joinP ps) s = true ↔ p0 <+: s ∧ gw ps (s.drop p0.length) := by
  rw [mb_app h0, gw_iff ps _ hps]
  constructor
  · rintro ⟨t, rfl, h⟩
    exact ⟨List.prefix_append _ _, by simpa using h⟩
  · rintro ⟨⟨t, rfl⟩, h⟩
    exact ⟨t, rfl, by simpa using h⟩
theorem joinP_snoc (ps : List (List UInt8)) : joinP (ps ++ [[]]) = joinP ps ++ [42] := by simp [joinP]
theorem greedy_open {p0 : List UInt8} {ps : List (List UInt8)} (h0 : (42 : UInt8) ∉ p0) (hps : ∀ q ∈ ps, (42 : UInt8) ∉ q) (s : List UInt8) : mb ((p0 ++ joinP ps) ++ [42]) s = true ↔ p0 <+: s ∧ gw (ps ++ [[]]) (s.drop p0.length) := by
  rw [List.append_assoc, ← joinP_snoc]
  exact greedy_whole h0 (fun q hq => by
    rcases List.mem_append.1 hq with h | h
    · exact hps q h
    · simp at h; subst h; simp) s
end Go.Proofs.YtodlecjbpmggiaaGreatDoor
