/- Package field: spaces behind a text change nothing. No program here. -/
import Derived.Test.YtodibjpojfipoaaGreatDoorFdPrs
namespace Go.Proofs.YtodibjpojfipoaaGreatDoor
open Go
set_option linter.unusedVariables false
set_option linter.unusedSimpArgs false
set_option maxRecDepth 10000

def spN (k : Nat) : List Int := List.replicate k 32
theorem tw_sp (p : Int → Bool) (hp : p 32 = false) (k : Nat) : ∀ l : List Int, (l ++ spN k).takeWhile p = l.takeWhile p
  | [] => by
    cases k with
    | zero => rfl
    | succ k => show (32 :: spN k).takeWhile p = []; rw [List.takeWhile_cons, hp]; rfl
  | c :: r => by
    rw [List.cons_append, List.takeWhile_cons, List.takeWhile_cons, tw_sp p hp k r]
theorem dw_sp (p : Int → Bool) (hp : p 32 = false) (k : Nat) : ∀ l : List Int, (l ++ spN k).dropWhile p = l.dropWhile p ++ spN k
  | [] => by
    cases k with
    | zero => rfl
    | succ k => show (32 :: spN k).dropWhile p = _; rw [List.dropWhile_cons, hp]; rfl
  | c :: r => by
    rw [List.cons_append, List.dropWhile_cons, List.dropWhile_cons]
    split
    · exact dw_sp p hp k r
    · rfl
/-- What spaces are taken off. -/
theorem dw_spY (p : Int → Bool) (hp : p 32 = true) (k : Nat) : ∀ l : List Int, (l ++ spN k).dropWhile p = if l.dropWhile p = [] then [] else l.dropWhile p ++ spN k
  | [] => by
    rw [List.nil_append, List.dropWhile_nil, if_pos rfl]
    induction k with
    | zero => rfl
    | succ k ih => show (32 :: spN k).dropWhile p = []; rw [List.dropWhile_cons, if_pos hp]; exact ih
  | c :: r => by
    rw [List.cons_append, List.dropWhile_cons, List.dropWhile_cons]
    split
    · exact dw_spY p hp k r
    · rw [if_neg (by simp)]
      rfl
abbrev exR {α : Type} (k : Nat) (o : Option (α × List Int)) : Option (α × List Int) := o.map fun p => (p.1, p.2 ++ spN k)
theorem sp_head (k : Nat) : spN k = [] ∨ ∃ r, spN k = 32 :: r := by
  cases k with
  | zero => exact Or.inl rfl
  | succ k => exact Or.inr ⟨spN k, rfl⟩
theorem textG_spn (k : Nat) : textG (spN k) = none := by
  induction k with
  | zero => rfl
  | succ k ih =>
    show textG (32 :: spN k) = none
    unfold textG
    rw [if_neg (by decide), if_neg (by decide), if_neg (by decide), ih]
    rfl
theorem textG_sp (k : Nat) : ∀ (n : Nat) (l : List Int), l.length ≤ n → textG (l ++ spN k) = exR k (textG l) := by
  intro n
  induction n with
  | zero =>
    intro l hl
    have : l = [] := List.eq_nil_of_length_eq_zero (by omega)
    subst this
    rw [List.nil_append, textG_spn]
    rfl
  | succ n ih =>
    intro l hl
    match l, hl with
    | [], _ =>
      rw [List.nil_append, textG_spn]
      rfl
    | c :: r, hl =>
      simp only [List.length_cons] at hl
      rw [List.cons_append]
      unfold textG
      by_cases h1 : c = 34
      · rw [if_pos h1, if_pos h1]
        rfl
      · rw [if_neg h1, if_neg h1]
        by_cases h2 : c = 92
        · rw [if_pos h2, if_pos h2]
          match r, hl with
          | [], _ =>
            rw [List.nil_append]
            rcases sp_head k with e | ⟨q, e⟩
            · rw [e]
              rfl
            · rw [e]
              show (if (32 : Int) = 34 ∨ (32 : Int) = 92 then _ else none) = _
              rw [if_neg (by decide)]
              rfl
          | d :: r', hl =>
            rw [List.cons_append]
            dsimp only
            split
            · rw [ih r' (by simp only [List.length_cons] at hl; omega)]
              cases textG r' <;> rfl
            · rfl
        · rw [if_neg h2, if_neg h2]
          split
          · rfl
          · rw [ih r (by omega)]
            cases textG r <;> rfl
theorem keyF_sp (k : Nat) (l : List Int) : keyF (l ++ spN k) = exR k (keyF l) := by
  cases l with
  | nil =>
    rw [List.nil_append]
    rcases sp_head k with e | ⟨q, e⟩
    · rw [e]; rfl
    · rw [e]; rfl
  | cons c r =>
    rw [List.cons_append]
    show (if (fLow c || c == 42) = true then some ((c :: (r ++ spN k)).takeWhile keyC, (c :: (r ++ spN k)).dropWhile keyC) else none) = exR k (if (fLow c || c == 42) = true then some ((c :: r).takeWhile keyC, (c :: r).dropWhile keyC) else none)
    rw [← List.cons_append, tw_sp keyC (by decide), dw_sp keyC (by decide)]
    split <;> rfl
theorem wordF_sp (k : Nat) (l : List Int) : wordF (l ++ spN k) = exR k (wordF l) := by
  cases l with
  | nil =>
    rw [List.nil_append]
    rcases sp_head k with e | ⟨q, e⟩
    · rw [e]; rfl
    · rw [e]; rfl
  | cons c r =>
    rw [List.cons_append]
    show (if ((fLow c || fUp c) || c == 42) = true then some ((c :: (r ++ spN k)).takeWhile wordC, (c :: (r ++ spN k)).dropWhile wordC) else none) = exR k (if ((fLow c || fUp c) || c == 42) = true then some ((c :: r).takeWhile wordC, (c :: r).dropWhile wordC) else none)
    rw [← List.cons_append, tw_sp wordC (by decide), dw_sp wordC (by decide)]
    split <;> rfl
theorem digF_sp (k : Nat) (b : Bool) (l : List Int) : digF b (l ++ spN k) = exR k (digF b l) := by
  unfold digF
  rw [tw_sp fNum (by decide), dw_sp fNum (by decide)]
  split <;> rfl
theorem numF_sp (k : Nat) (l : List Int) : numF (l ++ spN k) = exR k (numF l) := by
  cases l with
  | nil =>
    rw [List.nil_append]
    rcases sp_head k with e | ⟨q, e⟩
    · rw [e]; rfl
    · have h := digF_sp k false []
      rw [List.nil_append, e] at h
      rw [e]
      exact h
  | cons c r =>
    by_cases h : c = 45
    · subst h
      exact digF_sp k true r
    · have h1 : ∀ q : List Int, numF (c :: q) = digF false (c :: q) := fun q => by
        unfold numF
        split
        · rename_i e
          injection e with e1 e2
          exact absurd e1 h
        · rfl
      rw [List.cons_append, h1, h1, ← List.cons_append]
      exact digF_sp k false (c :: r)
theorem flagF_ne {c : Int} (h : c ≠ 63) (q : List Int) : flagF (c :: q) = none := by
  unfold flagF
  split
  · rename_i e
    injection e with e _
    exact absurd e h
  · rename_i e
    injection e with e _
    exact absurd e h
  · rfl
theorem flagF_sp (k : Nat) (l : List Int) : flagF (l ++ spN k) = exR k (flagF l) := by
  match l with
  | [] =>
    rw [List.nil_append]
    rcases sp_head k with e | ⟨q, e⟩
    · rw [e]; rfl
    · rw [e]; rfl
  | [c] =>
    by_cases h : c = 63
    · subst h
      rcases sp_head k with e | ⟨q, e⟩
      · rw [e]; rfl
      · rw [e]; rfl
    · rw [List.cons_append, flagF_ne h, flagF_ne h]
      rfl
  | c :: d :: r =>
    rw [List.cons_append, List.cons_append]
    by_cases h : c = 63
    · subst h
      by_cases h1 : d = 49
      · subst h1; rfl
      · by_cases h2 : d = 48
        · subst h2; rfl
        · have hn : ∀ q : List Int, flagF (63 :: d :: q) = none := fun q => by
            unfold flagF
            split
            · rename_i e
              injection e with _ e
              injection e with e _
              exact absurd e h1
            · rename_i e
              injection e with _ e
              injection e with e _
              exact absurd e h2
            · rfl
          rw [hn, hn]
          rfl
    · rw [flagF_ne h, flagF_ne h]
      rfl
theorem valF_text (r : List Int) : valF (34 :: r) = (textG r).map fun p => (⟨2, 0, p.1⟩, p.2) := rfl
theorem valF_flag (r : List Int) : valF (63 :: r) = (flagF (63 :: r)).map fun p => (flagV p.1, p.2) := rfl
theorem valF_nil : valF [] = none := rfl
theorem valF_oth {c : Int} (r : List Int) (h1 : c ≠ 34) (h2 : c ≠ 63) : valF (c :: r) = if (c == 45 || fNum c) = true then (numF (c :: r)).map fun p => (⟨1, p.1, []⟩, p.2) else (wordF (c :: r)).map fun p => (⟨3, 0, p.1⟩, p.2) := by
  unfold valF
  split
  · rename_i e; injection e with e _; exact absurd e h1
  · rename_i e; injection e with e _; exact absurd e h2
  · rfl
theorem valF_sp (k : Nat) (l : List Int) : valF (l ++ spN k) = exR k (valF l) := by
  cases l with
  | nil =>
    rw [List.nil_append]
    rcases sp_head k with e | ⟨q, e⟩
    · rw [e]; rfl
    · rw [e]; rfl
  | cons c r =>
    by_cases h1 : c = 34
    · subst h1
      rw [List.cons_append, valF_text, valF_text, textG_sp k _ r (Nat.le_refl _)]
      cases textG r <;> rfl
    · by_cases h2 : c = 63
      · subst h2
        rw [List.cons_append, valF_flag, valF_flag, ← List.cons_append, flagF_sp]
        cases flagF (63 :: r) <;> rfl
      · rw [List.cons_append, valF_oth _ h1 h2, valF_oth _ h1 h2, ← List.cons_append, numF_sp, wordF_sp]
        split
        · cases numF (c :: r) <;> rfl
        · cases wordF (c :: r) <;> rfl
theorem pairF_eq {l kk r : List Int} (h : keyF l = some (kk, 61 :: r)) : pairF l = (valF r).map fun p => ((kk, p.1), p.2) := by
  unfold pairF
  rw [h]
  rfl
theorem pairF_ne {l kk r : List Int} (h : keyF l = some (kk, r)) (hr : ∀ q, r ≠ 61 :: q) : pairF l = some ((kk, flagV 1), r) := by
  unfold pairF
  rw [h]
  dsimp only
  split
  · rename_i q
    exact absurd rfl (hr q)
  · rfl
theorem pairF_none {l : List Int} (h : keyF l = none) : pairF l = none := by unfold pairF; rw [h]
theorem pairF_sp (k : Nat) (l : List Int) : pairF (l ++ spN k) = exR k (pairF l) := by
  have hk := keyF_sp k l
  cases hh : keyF l with
  | none =>
    rw [hh] at hk
    rw [pairF_none hh, pairF_none hk]
    rfl
  | some p =>
    obtain ⟨kk, r⟩ := p
    rw [hh] at hk
    by_cases hr : ∃ q, r = 61 :: q
    · obtain ⟨q, rfl⟩ := hr
      rw [pairF_eq hh, pairF_eq (r := q ++ spN k) hk, valF_sp]
      cases valF q <;> rfl
    · rw [pairF_ne hh (fun q e => hr ⟨q, e⟩), pairF_ne (r := r ++ spN k) hk (fun q e => by
        cases r with
        | nil =>
          rw [List.nil_append] at e
          rcases sp_head k with e2 | ⟨q2, e2⟩
          · rw [e2] at e; cases e
          · rw [e2] at e; injection e with e _; exact absurd e (by decide)
        | cons c t =>
          rw [List.cons_append] at e
          injection e with e1 e2
          exact hr ⟨t, by rw [e1]⟩)]
      rfl
theorem cutS59 {l r : List Int} (h : cutS [59] l = some r) : l = 59 :: r := cutS_some h
theorem cutS59_sp (k : Nat) (l : List Int) : cutS [59] (l ++ spN k) = (cutS [59] l).map (· ++ spN k) := by
  cases l with
  | nil =>
    rw [List.nil_append]
    rcases sp_head k with e | ⟨q, e⟩
    · rw [e]; rfl
    · rw [e]; rfl
  | cons c r =>
    rw [List.cons_append]
    unfold cutS
    simp only [List.isPrefixOf_cons_cons, List.isPrefixOf_nil_left, Bool.and_true]
    split <;> rfl
theorem pairF_dw (k : Nat) (l : List Int) : pairF ((l ++ spN k).dropWhile sp1) = exR k (pairF (l.dropWhile sp1)) := by
  rw [dw_spY sp1 (by decide)]
  split
  · rename_i h
    rw [h]
    rfl
  · exact pairF_sp k _
theorem parsF_sp (k : Nat) : ∀ (f g : Nat) (l : List Int), l.length < f → l.length + k < g → parsF g (l ++ spN k) = exR k (parsF f l) := by
  intro f
  induction f with
  | zero => intro g l h; omega
  | succ f ih =>
    intro g l hf hg
    obtain ⟨g, rfl⟩ : ∃ g', g = g' + 1 := ⟨g - 1, by omega⟩
    have hc := cutS59_sp k l
    cases h : cutS [59] l with
    | none =>
      rw [h] at hc
      rw [parsF_end _ _ h, parsF_end _ _ hc]
      rfl
    | some r =>
      rw [h] at hc
      have hl := congrArg List.length (cutS59 h)
      simp only [List.length_cons] at hl
      rw [parsF_step _ _ _ h, parsF_step _ _ _ hc, pairF_dw]
      cases hp : pairF (r.dropWhile sp1) with
      | none => rfl
      | some p =>
        obtain ⟨p, r'⟩ := p
        have h1 := pairF_len hp
        have h2 := dw_len sp1 r
        show ((parsF g (r' ++ spN k)).map fun q => (p :: q.1, q.2)) = exR k ((parsF f r').map fun q => (p :: q.1, q.2))
        rw [ih g r' (by omega) (by omega)]
        cases parsF f r' <;> rfl
theorem headF_sp (k : Nat) (l : List Int) : headF (l ++ spN k) = exR k (headF l) := by
  cases l with
  | nil =>
    rw [List.nil_append]
    rcases sp_head k with e | ⟨q, e⟩
    · rw [e]; rfl
    · rw [e]; rfl
  | cons c r =>
    by_cases h : c = 34
    · subst h
      rw [List.cons_append]
      show ((textG (r ++ spN k)).map fun p => ((p.1, flagV 1), p.2)) = exR k ((textG r).map fun p => ((p.1, flagV 1), p.2))
      rw [textG_sp k _ r (Nat.le_refl _)]
      cases textG r <;> rfl
    · have hn : ∀ q : List Int, headF (c :: q) = pairF (c :: q) := fun q => by
        unfold headF
        split
        · rename_i e; injection e with e _; exact absurd e h
        · rfl
      rw [List.cons_append, hn, hn, ← List.cons_append]
      exact pairF_sp k _
theorem itemF_sp (k : Nat) (l : List Int) : itemF (l ++ spN k) = exR k (itemF l) := by
  have hh := headF_sp k l
  cases h : headF l with
  | none =>
    rw [h] at hh
    rw [itemF_none h, itemF_none hh]
    rfl
  | some p =>
    obtain ⟨kv, r⟩ := p
    rw [h] at hh
    rw [itemF_of h (r.length + 1) (by omega), itemF_of (r := r ++ spN k) hh (r.length + k + 1) (by simp [spN]), parsF_sp k (r.length + 1) (r.length + k + 1) r (by omega) (by omega)]
    cases parsF (r.length + 1) r <;> rfl
theorem collF_nil (f n : Nat) : collF f n [] = none := by
  cases f with
  | zero => rfl
  | succ f => rfl
theorem collF_sp (k : Nat) : ∀ (f g n : Nat) (l : List Int), l.length < f → l.length + k < g → collF g n (l ++ spN k) = collF f n l := by
  intro f
  induction f with
  | zero => intro g n l h; omega
  | succ f ih =>
    intro g n l hf hg
    obtain ⟨g, rfl⟩ : ∃ g', g = g' + 1 := ⟨g - 1, by omega⟩
    unfold collF
    rw [itemF_sp]
    cases hi : itemF l with
    | none => rfl
    | some p =>
      obtain ⟨i, r⟩ := p
      have h1 := itemF_len hi
      dsimp only [exR, Option.map_some]
      by_cases hn : n = 16
      · rw [if_pos hn, if_pos hn]
      · rw [if_neg hn, if_neg hn, dw_spY blI (by decide)]
        have h2 := dw_len blI r
        cases hd : r.dropWhile blI with
        | nil => rw [if_pos rfl]
        | cons c q =>
          rw [if_neg (by simp), List.cons_append]
          rw [hd] at h2
          simp only [List.length_cons] at h2
          by_cases hc : c = 44
          · subst hc
            show ((collF g (n + 1) ((q ++ spN k).dropWhile blI)).map fun is => i :: is) = ((collF f (n + 1) (q.dropWhile blI)).map fun is => i :: is)
            rw [dw_spY blI (by decide)]
            have h3 := dw_len blI q
            split
            · rename_i h
              rw [h, collF_nil, collF_nil]
            · rw [ih g (n + 1) (q.dropWhile blI) (by omega) (by omega)]
          · split
            · rename_i e; cases e
            · rename_i e; injection e with e _; exact absurd e hc
            · split
              · rename_i e; cases e
              · rename_i e; injection e with e _; exact absurd e hc
              · rfl
/-- A text without the spaces around it. -/
theorem parseF_sp (k : Nat) (l : List Int) (hl : l = [] ∨ ∃ c r, l = c :: r ∧ sp1 c = false) : parseF (l ++ spN k) = match l with
    | [] => some []
    | c :: r => collF (l.length + 1) 0 l := by
  rcases hl with rfl | ⟨c, r, rfl, hc⟩
  · unfold parseF
    rw [dw_spY sp1 (by decide)]
    rfl
  · have e : ((c :: r) ++ spN k).dropWhile sp1 = (c :: r) ++ spN k := by
      rw [List.cons_append, List.dropWhile_cons, hc]
      rfl
    unfold parseF
    rw [e, List.cons_append]
    dsimp only
    rw [← List.cons_append]
    exact collF_sp k _ _ 0 (c :: r) (by simp) (by simp [spN]; omega)
end Go.Proofs.YtodibjpojfipoaaGreatDoor
