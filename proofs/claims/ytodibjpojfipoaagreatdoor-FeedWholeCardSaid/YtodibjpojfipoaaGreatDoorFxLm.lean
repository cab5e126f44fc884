/- The document's fields: number, Number, Param, limit. -/
import Derived.Test.YtodibjpojfipoaaGreatDoorFdPrs
import Derived.Test.YtodibjpojfipoaaGreatDoorFeRfm
import Derived.Test.YtodibjpojfipoaaGreatDoorApE
import Derived.Test.YtodibjpojfipoaaGreatDoorLast
/- Package field: spaces behind a text change nothing. No program here. -/
namespace Go.Proofs.YtodibjpojfipoaaGreatDoor
open Go
set_option linter.unusedVariables false
set_option linter.unusedSimpArgs false
set_option maxRecDepth 10000

def spN (k : Nat) : List Int := List.replicate k 32
theorem tw_sp (p : Int → Bool) (hp : p 32 = false) (k : Nat) : ∀ l : List Int, (l ++ spN k).takeWhile p = l.takeWhile p
  | [] => by
    cases k with
    | zero => rfl
    | succ k => show (32 :: spN k).takeWhile p = []; rw [List.takeWhile_cons, hp]; rfl
  | c :: r => by
    rw [List.cons_append, List.takeWhile_cons, List.takeWhile_cons, tw_sp p hp k r]
theorem dw_sp (p : Int → Bool) (hp : p 32 = false) (k : Nat) : ∀ l : List Int, (l ++ spN k).dropWhile p = l.dropWhile p ++ spN k
  | [] => by
    cases k with
    | zero => rfl
    | succ k => show (32 :: spN k).dropWhile p = _; rw [List.dropWhile_cons, hp]; rfl
  | c :: r => by
    rw [List.cons_append, List.dropWhile_cons, List.dropWhile_cons]
    split
    · exact dw_sp p hp k r
    · rfl
/-- What spaces are taken off. -/
theorem dw_spY (p : Int → Bool) (hp : p 32 = true) (k : Nat) : ∀ l : List Int, (l ++ spN k).dropWhile p = if l.dropWhile p = [] then [] else l.dropWhile p ++ spN k
  | [] => by
    rw [List.nil_append, List.dropWhile_nil, if_pos rfl]
    induction k with
    | zero => rfl
    | succ k ih => show (32 :: spN k).dropWhile p = []; rw [List.dropWhile_cons, if_pos hp]; exact ih
  | c :: r => by
    rw [List.cons_append, List.dropWhile_cons, List.dropWhile_cons]
    split
    · exact dw_spY p hp k r
    · rw [if_neg (by simp)]
      rfl
abbrev exR {α : Type} (k : Nat) (o : Option (α × List Int)) : Option (α × List Int) := o.map fun p => (p.1, p.2 ++ spN k)
theorem sp_head (k : Nat) : spN k = [] ∨ ∃ r, spN k = 32 :: r := by
  cases k with
  | zero => exact Or.inl rfl
  | succ k => exact Or.inr ⟨spN k, rfl⟩
theorem textG_spn (k : Nat) : textG (spN k) = none := by
  induction k with
  | zero => rfl
  | succ k ih =>
    show textG (32 :: spN k) = none
    unfold textG
    rw [if_neg (by decide), if_neg (by decide), if_neg (by decide), ih]
    rfl
theorem textG_sp (k : Nat) : ∀ (n : Nat) (l : List Int), l.length ≤ n → textG (l ++ spN k) = exR k (textG l) := by
  intro n
  induction n with
  | zero =>
    intro l hl
    have : l = [] := List.eq_nil_of_length_eq_zero (by omega)
    subst this
    rw [List.nil_append, textG_spn]
    rfl
  | succ n ih =>
    intro l hl
    match l, hl with
    | [], _ =>
      rw [List.nil_append, textG_spn]
      rfl
    | c :: r, hl =>
      simp only [List.length_cons] at hl
      rw [List.cons_append]
      unfold textG
      by_cases h1 : c = 34
      · rw [if_pos h1, if_pos h1]
        rfl
      · rw [if_neg h1, if_neg h1]
        by_cases h2 : c = 92
        · rw [if_pos h2, if_pos h2]
          match r, hl with
          | [], _ =>
            rw [List.nil_append]
            rcases sp_head k with e | ⟨q, e⟩
            · rw [e]
              rfl
            · rw [e]
              show (if (32 : Int) = 34 ∨ (32 : Int) = 92 then _ else none) = _
              rw [if_neg (by decide)]
              rfl
          | d :: r', hl =>
            rw [List.cons_append]
            dsimp only
            split
            · rw [ih r' (by simp only [List.length_cons] at hl; omega)]
              cases textG r' <;> rfl
            · rfl
        · rw [if_neg h2, if_neg h2]
          split
          · rfl
          · rw [ih r (by omega)]
            cases textG r <;> rfl
theorem keyF_sp (k : Nat) (l : List Int) : keyF (l ++ spN k) = exR k (keyF l) := by
  cases l with
  | nil =>
    rw [List.nil_append]
    rcases sp_head k with e | ⟨q, e⟩
    · rw [e]; rfl
    · rw [e]; rfl
  | cons c r =>
    rw [List.cons_append]
    show (if (fLow c || c == 42) = true then some ((c :: (r ++ spN k)).takeWhile keyC, (c :: (r ++ spN k)).dropWhile keyC) else none) = exR k (if (fLow c || c == 42) = true then some ((c :: r).takeWhile keyC, (c :: r).dropWhile keyC) else none)
    rw [← List.cons_append, tw_sp keyC (by decide), dw_sp keyC (by decide)]
    split <;> rfl
theorem wordF_sp (k : Nat) (l : List Int) : wordF (l ++ spN k) = exR k (wordF l) := by
  cases l with
  | nil =>
    rw [List.nil_append]
    rcases sp_head k with e | ⟨q, e⟩
    · rw [e]; rfl
    · rw [e]; rfl
  | cons c r =>
    rw [List.cons_append]
    show (if ((fLow c || fUp c) || c == 42) = true then some ((c :: (r ++ spN k)).takeWhile wordC, (c :: (r ++ spN k)).dropWhile wordC) else none) = exR k (if ((fLow c || fUp c) || c == 42) = true then some ((c :: r).takeWhile wordC, (c :: r).dropWhile wordC) else none)
    rw [← List.cons_append, tw_sp wordC (by decide), dw_sp wordC (by decide)]
    split <;> rfl
theorem digF_sp (k : Nat) (b : Bool) (l : List Int) : digF b (l ++ spN k) = exR k (digF b l) := by
  unfold digF
  rw [tw_sp fNum (by decide), dw_sp fNum (by decide)]
  split <;> rfl
theorem numF_sp (k : Nat) (l : List Int) : numF (l ++ spN k) = exR k (numF l) := by
  cases l with
  | nil =>
    rw [List.nil_append]
    rcases sp_head k with e | ⟨q, e⟩
    · rw [e]; rfl
    · have h := digF_sp k false []
      rw [List.nil_append, e] at h
      rw [e]
      exact h
  | cons c r =>
    by_cases h : c = 45
    · subst h
      exact digF_sp k true r
    · have h1 : ∀ q : List Int, numF (c :: q) = digF false (c :: q) := fun q => by
        unfold numF
        split
        · rename_i e
          injection e with e1 e2
          exact absurd e1 h
        · rfl
      rw [List.cons_append, h1, h1, ← List.cons_append]
      exact digF_sp k false (c :: r)
theorem flagF_ne {c : Int} (h : c ≠ 63) (q : List Int) : flagF (c :: q) = none := by
  unfold flagF
  split
  · rename_i e
    injection e with e _
    exact absurd e h
  · rename_i e
    injection e with e _
    exact absurd e h
  · rfl
theorem flagF_sp (k : Nat) (l : List Int) : flagF (l ++ spN k) = exR k (flagF l) := by
  match l with
  | [] =>
    rw [List.nil_append]
    rcases sp_head k with e | ⟨q, e⟩
    · rw [e]; rfl
    · rw [e]; rfl
  | [c] =>
    by_cases h : c = 63
    · subst h
      rcases sp_head k with e | ⟨q, e⟩
      · rw [e]; rfl
      · rw [e]; rfl
    · rw [List.cons_append, flagF_ne h, flagF_ne h]
      rfl
  | c :: d :: r =>
    rw [List.cons_append, List.cons_append]
    by_cases h : c = 63
    · subst h
      by_cases h1 : d = 49
      · subst h1; rfl
      · by_cases h2 : d = 48
        · subst h2; rfl
        · have hn : ∀ q : List Int, flagF (63 :: d :: q) = none := fun q => by
            unfold flagF
            split
            · rename_i e
              injection e with _ e
              injection e with e _
              exact absurd e h1
            · rename_i e
              injection e with _ e
              injection e with e _
              exact absurd e h2
            · rfl
          rw [hn, hn]
          rfl
    · rw [flagF_ne h, flagF_ne h]
      rfl
theorem valF_text (r : List Int) : valF (34 :: r) = (textG r).map fun p => (⟨2, 0, p.1⟩, p.2) := rfl
theorem valF_flag (r : List Int) : valF (63 :: r) = (flagF (63 :: r)).map fun p => (flagV p.1, p.2) := rfl
theorem valF_nil : valF [] = none := rfl
theorem valF_oth {c : Int} (r : List Int) (h1 : c ≠ 34) (h2 : c ≠ 63) : valF (c :: r) = if (c == 45 || fNum c) = true then (numF (c :: r)).map fun p => (⟨1, p.1, []⟩, p.2) else (wordF (c :: r)).map fun p => (⟨3, 0, p.1⟩, p.2) := by
  unfold valF
  split
  · rename_i e; injection e with e _; exact absurd e h1
  · rename_i e; injection e with e _; exact absurd e h2
  · rfl
theorem valF_sp (k : Nat) (l : List Int) : valF (l ++ spN k) = exR k (valF l) := by
  cases l with
  | nil =>
    rw [List.nil_append]
    rcases sp_head k with e | ⟨q, e⟩
    · rw [e]; rfl
    · rw [e]; rfl
  | cons c r =>
    by_cases h1 : c = 34
    · subst h1
      rw [List.cons_append, valF_text, valF_text, textG_sp k _ r (Nat.le_refl _)]
      cases textG r <;> rfl
    · by_cases h2 : c = 63
      · subst h2
        rw [List.cons_append, valF_flag, valF_flag, ← List.cons_append, flagF_sp]
        cases flagF (63 :: r) <;> rfl
      · rw [List.cons_append, valF_oth _ h1 h2, valF_oth _ h1 h2, ← List.cons_append, numF_sp, wordF_sp]
        split
        · cases numF (c :: r) <;> rfl
        · cases wordF (c :: r) <;> rfl
theorem pairF_eq {l kk r : List Int} (h : keyF l = some (kk, 61 :: r)) : pairF l = (valF r).map fun p => ((kk, p.1), p.2) := by
  unfold pairF
  rw [h]
  rfl
theorem pairF_ne {l kk r : List Int} (h : keyF l = some (kk, r)) (hr : ∀ q, r ≠ 61 :: q) : pairF l = some ((kk, flagV 1), r) := by
  unfold pairF
  rw [h]
  dsimp only
  split
  · rename_i q
    exact absurd rfl (hr q)
  · rfl
theorem pairF_none {l : List Int} (h : keyF l = none) : pairF l = none := by unfold pairF; rw [h]
theorem pairF_sp (k : Nat) (l : List Int) : pairF (l ++ spN k) = exR k (pairF l) := by
  have hk := keyF_sp k l
  cases hh : keyF l with
  | none =>
    rw [hh] at hk
    rw [pairF_none hh, pairF_none hk]
    rfl
  | some p =>
    obtain ⟨kk, r⟩ := p
    rw [hh] at hk
    by_cases hr : ∃ q, r = 61 :: q
    · obtain ⟨q, rfl⟩ := hr
      rw [pairF_eq hh, pairF_eq (r := q ++ spN k) hk, valF_sp]
      cases valF q <;> rfl
    · rw [pairF_ne hh (fun q e => hr ⟨q, e⟩), pairF_ne (r := r ++ spN k) hk (fun q e => by
        cases r with
        | nil =>
          rw [List.nil_append] at e
          rcases sp_head k with e2 | ⟨q2, e2⟩
          · rw [e2] at e; cases e
          · rw [e2] at e; injection e with e _; exact absurd e (by decide)
        | cons c t =>
          rw [List.cons_append] at e
          injection e with e1 e2
          exact hr ⟨t, by rw [e1]⟩)]
      rfl
theorem cutS59 {l r : List Int} (h : cutS [59] l = some r) : l = 59 :: r := cutS_some h
theorem cutS59_sp (k : Nat) (l : List Int) : cutS [59] (l ++ spN k) = (cutS [59] l).map (· ++ spN k) := by
  cases l with
  | nil =>
    rw [List.nil_append]
    rcases sp_head k with e | ⟨q, e⟩
    · rw [e]; rfl
    · rw [e]; rfl
  | cons c r =>
    rw [List.cons_append]
    unfold cutS
    simp only [List.isPrefixOf_cons_cons, List.isPrefixOf_nil_left, Bool.and_true]
    split <;> rfl
theorem pairF_dw (k : Nat) (l : List Int) : pairF ((l ++ spN k).dropWhile sp1) = exR k (pairF (l.dropWhile sp1)) := by
  rw [dw_spY sp1 (by decide)]
  split
  · rename_i h
    rw [h]
    rfl
  · exact pairF_sp k _
theorem parsF_sp (k : Nat) : ∀ (f g : Nat) (l : List Int), l.length < f → l.length + k < g → parsF g (l ++ spN k) = exR k (parsF f l) := by
  intro f
  induction f with
  | zero => intro g l h; omega
  | succ f ih =>
    intro g l hf hg
    obtain ⟨g, rfl⟩ : ∃ g', g = g' + 1 := ⟨g - 1, by omega⟩
    have hc := cutS59_sp k l
    cases h : cutS [59] l with
    | none =>
      rw [h] at hc
      rw [parsF_end _ _ h, parsF_end _ _ hc]
      rfl
    | some r =>
      rw [h] at hc
      have hl := congrArg List.length (cutS59 h)
      simp only [List.length_cons] at hl
      rw [parsF_step _ _ _ h, parsF_step _ _ _ hc, pairF_dw]
      cases hp : pairF (r.dropWhile sp1) with
      | none => rfl
      | some p =>
        obtain ⟨p, r'⟩ := p
        have h1 := pairF_len hp
        have h2 := dw_len sp1 r
        show ((parsF g (r' ++ spN k)).map fun q => (p :: q.1, q.2)) = exR k ((parsF f r').map fun q => (p :: q.1, q.2))
        rw [ih g r' (by omega) (by omega)]
        cases parsF f r' <;> rfl
theorem headF_sp (k : Nat) (l : List Int) : headF (l ++ spN k) = exR k (headF l) := by
  cases l with
  | nil =>
    rw [List.nil_append]
    rcases sp_head k with e | ⟨q, e⟩
    · rw [e]; rfl
    · rw [e]; rfl
  | cons c r =>
    by_cases h : c = 34
    · subst h
      rw [List.cons_append]
      show ((textG (r ++ spN k)).map fun p => ((p.1, flagV 1), p.2)) = exR k ((textG r).map fun p => ((p.1, flagV 1), p.2))
      rw [textG_sp k _ r (Nat.le_refl _)]
      cases textG r <;> rfl
    · have hn : ∀ q : List Int, headF (c :: q) = pairF (c :: q) := fun q => by
        unfold headF
        split
        · rename_i e; injection e with e _; exact absurd e h
        · rfl
      rw [List.cons_append, hn, hn, ← List.cons_append]
      exact pairF_sp k _
theorem itemF_sp (k : Nat) (l : List Int) : itemF (l ++ spN k) = exR k (itemF l) := by
  have hh := headF_sp k l
  cases h : headF l with
  | none =>
    rw [h] at hh
    rw [itemF_none h, itemF_none hh]
    rfl
  | some p =>
    obtain ⟨kv, r⟩ := p
    rw [h] at hh
    rw [itemF_of h (r.length + 1) (by omega), itemF_of (r := r ++ spN k) hh (r.length + k + 1) (by simp [spN]), parsF_sp k (r.length + 1) (r.length + k + 1) r (by omega) (by omega)]
    cases parsF (r.length + 1) r <;> rfl
theorem collF_nil (f n : Nat) : collF f n [] = none := by
  cases f with
  | zero => rfl
  | succ f => rfl
theorem collF_sp (k : Nat) : ∀ (f g n : Nat) (l : List Int), l.length < f → l.length + k < g → collF g n (l ++ spN k) = collF f n l := by
  intro f
  induction f with
  | zero => intro g n l h; omega
  | succ f ih =>
    intro g n l hf hg
    obtain ⟨g, rfl⟩ : ∃ g', g = g' + 1 := ⟨g - 1, by omega⟩
    unfold collF
    rw [itemF_sp]
    cases hi : itemF l with
    | none => rfl
    | some p =>
      obtain ⟨i, r⟩ := p
      have h1 := itemF_len hi
      dsimp only [exR, Option.map_some]
      by_cases hn : n = 16
      · rw [if_pos hn, if_pos hn]
      · rw [if_neg hn, if_neg hn, dw_spY blI (by decide)]
        have h2 := dw_len blI r
        cases hd : r.dropWhile blI with
        | nil => rw [if_pos rfl]
        | cons c q =>
          rw [if_neg (by simp), List.cons_append]
          rw [hd] at h2
          simp only [List.length_cons] at h2
          by_cases hc : c = 44
          · subst hc
            show ((collF g (n + 1) ((q ++ spN k).dropWhile blI)).map fun is => i :: is) = ((collF f (n + 1) (q.dropWhile blI)).map fun is => i :: is)
            rw [dw_spY blI (by decide)]
            have h3 := dw_len blI q
            split
            · rename_i h
              rw [h, collF_nil, collF_nil]
            · rw [ih g (n + 1) (q.dropWhile blI) (by omega) (by omega)]
          · split
            · rename_i e; cases e
            · rename_i e; injection e with e _; exact absurd e hc
            · split
              · rename_i e; cases e
              · rename_i e; injection e with e _; exact absurd e hc
              · rfl
/-- A text without the spaces around it. -/
theorem parseF_sp (k : Nat) (l : List Int) (hl : l = [] ∨ ∃ c r, l = c :: r ∧ sp1 c = false) : parseF (l ++ spN k) = match l with
    | [] => some []
    | c :: r => collF (l.length + 1) 0 l := by
  rcases hl with rfl | ⟨c, r, rfl, hc⟩
  · unfold parseF
    rw [dw_spY sp1 (by decide)]
    rfl
  · have e : ((c :: r) ++ spN k).dropWhile sp1 = (c :: r) ++ spN k := by
      rw [List.cons_append, List.dropWhile_cons, hc]
      rfl
    unfold parseF
    rw [e, List.cons_append]
    dsimp only
    rw [← List.cons_append]
    exact collF_sp k _ _ 0 (c :: r) (by simp) (by simp [spN]; omega)
end Go.Proofs.YtodibjpojfipoaaGreatDoor
/- The document's fields: low, in, at, quoted. -/
namespace Go.Proofs.YtodibjpojfipoaaGreatDoor
open Go Go.RowKit
set_option linter.unusedVariables false
set_option linter.unusedSimpArgs false
set_option maxRecDepth 10000

set_option maxHeartbeats 1000000 in
theorem rlow_at (c : Int) (b : Bool) (hb : fLow c = b) (w : World) : Calls Tryz.prog 131 #[.int .u8 c] w fun e w' => e = .returned (.bool b) ∧ w' = w := by
  obtain ⟨p, hp⟩ : ∃ p, decide (97 ≤ c) = p := ⟨_, rfl⟩
  obtain ⟨q, hq⟩ : ∃ p, decide (c ≤ 122) = p := ⟨_, rfl⟩
  have HB : Hid ((p && q) = b) := Lib.hid (by rw [← hb, ← hp, ← hq]; rfl)
  clear hb
  go_enter Tryz.func131, Tryz.ntmps131
  cases p with
  | true =>
    cases q with
    | true =>
      go_wp2
      go_ret
      exact ⟨by rw [← HB.out]; rfl, rfl⟩
    | false =>
      go_wp2
      go_ret
      exact ⟨by rw [← HB.out]; rfl, rfl⟩
  | false =>
    go_wp2
    go_ret
    exact ⟨by rw [← HB.out]; rfl, rfl⟩
set_option maxHeartbeats 2000000 in
theorem rin_at (x : ByteArray) (hx : x.size ≤ 1000) (c : Int) (b : Bool) (hb : (btL x).contains c = b) (w : World) : Calls Tryz.prog 132 #[.string x, .int .u8 c] w fun e w' => e = .returned (.bool b) ∧ w' = w := by
  have HB := Lib.hid hb
  clear hb
  go_enter Tryz.func132, Tryz.ntmps132
  go_wp2_with fail
  go_loop [5] (fun j => ∃ i : Nat, j = .int .i64 (i : Int) ∧ i ≤ x.size ∧ Hid ((btL x).contains c = ((btL x).drop i).contains c)) (fun j => x.size - (intOf j).toNat)
  case atStart => exact ⟨0, rfl, by omega, Lib.hid (by rw [List.drop_zero])⟩
  case round =>
    obtain ⟨i, rfl, hi, HC⟩ := hrel
    by_cases hlt : i < x.size
    · have kd : decide ((i : Int) < (x.size : Int)) = true := decide_eq_true (by omega)
      have kd2 : decide (i < x.size) = true := decide_eq_true hlt
      obtain ⟨d, hd⟩ : ∃ d : Int, (x[i].toNat : Int) = d := ⟨_, rfl⟩
      have HDR : Hid ((btL x).drop i = d :: (btL x).drop (i + 1)) := Lib.hid (by rw [← hd]; exact ln_cons x i hlt)
      by_cases he : d = c
      · have e1 : (d == c) = true := beq_iff_eq.2 he
        have HE : Hid (b = true) := Lib.hid (by rw [← HB.out, HC.out, HDR.out, List.contains_cons, he]; simp)
        clear he
        go_wp2
        go_ret
        exact ⟨by rw [HE.out]; rfl, rfl⟩
      · have e1 : (d == c) = false := beq_eq_false_iff_ne.2 he
        have HE : Hid ((btL x).contains c = ((btL x).drop (i + 1)).contains c) := Lib.hid (by
          rw [HC.out, HDR.out, List.contains_cons]
          have : (c == d) = false := beq_eq_false_iff_ne.2 (fun h => he h.symm)
          rw [this, Bool.false_or])
        clear he
        go_wp2
        go_round
        case rel => exact ⟨i + 1, by go_num, by omega, HE⟩
        case measure => simp [intOf]; omega
    · have kd : decide ((i : Int) < (x.size : Int)) = false := decide_eq_false (by omega)
      have kd2 : decide (i < x.size) = false := decide_eq_false hlt
      have HE : Hid (b = false) := Lib.hid (by rw [← HB.out, HC.out, List.drop_eq_nil_of_le (by rw [btL_length]; omega)]; rfl)
      go_wp2
      go_ret
      exact ⟨by rw [HE.out]; rfl, rfl⟩
set_option maxHeartbeats 1000000 in
theorem rat7_at (s : ByteArray) (hz : s.size ≤ 1000000) (i : Nat) (hi : i ≤ 2000000) (w : World) : Calls Tryz.prog 119 #[.string s, .int .i64 (i : Int)] w fun e w' => e = .returned (.tuple #[.int .u8 (hdI ((btL s).drop i)), .bool (decide (i < s.size))]) ∧ w' = w := by
  have ix0 : decide ((i : Int) < 0) = false := decide_eq_false (by omega)
  have hge : (0 : Int) ≤ (i : Int) := by omega
  by_cases hlt : i < s.size
  · have kd : decide ((s.size : Int) ≤ (i : Int)) = false := decide_eq_false (by omega)
    have kd2 : decide (i < s.size) = true := decide_eq_true hlt
    have kd3 : decide (s.size ≤ i) = false := decide_eq_false (by omega)
    have hix : (i : Int) < (s.size : Int) := by omega
    obtain ⟨d, hd⟩ : ∃ d : Int, (s[i].toNat : Int) = d := ⟨_, rfl⟩
    have e : hdI ((btL s).drop i) = d := by rw [ln_cons s i hlt, hd]; rfl
    rw [e, kd2]
    clear e
    go_enter Tryz.func119, Tryz.ntmps119
    go_wp2
    go_ret2
    exact ⟨rfl, rfl⟩
  · have kd : decide ((s.size : Int) ≤ (i : Int)) = true := decide_eq_true (by omega)
    have kd2 : decide (i < s.size) = false := decide_eq_false hlt
    have kd3 : decide (s.size ≤ i) = true := decide_eq_true (by omega)
    have e : hdI ((btL s).drop i) = 0 := by rw [List.drop_eq_nil_of_le (by rw [btL_length]; omega)]; rfl
    rw [e, kd2]
    clear e
    go_enter Tryz.func119, Tryz.ntmps119
    go_wp2
    go_ret2
    exact ⟨rfl, rfl⟩
/-- A text between signs, and its end. -/
def QtP (s : ByteArray) (o : Option (List Int × List Int)) (w : World) (e : Ending) (w' : World) : Prop := ∃ (t : ByteArray) (r : Int), e = .returned (.tuple #[.string t, .int .i64 r]) ∧ Below w.heap.size w w' ∧ t.size ≤ s.size ∧ (o = none → r = -1 ∧ t = ⟨#[]⟩) ∧ (∀ p, o = some p → ∃ k : Nat, k ≤ s.size ∧ r = (k : Int) ∧ p.2 = (btL s).drop k ∧ p.1 = btL t)
set_option maxHeartbeats 8000000 in
theorem rquoted_at (s : ByteArray) (hz : s.size ≤ 1000000) (i0 : Nat) (hi0 : i0 < s.size) (w : World) :
    Calls Tryz.prog 120 #[.string s, .int .i64 (i0 : Int)] w (QtP s (textG ((btL s).drop (i0 + 1))) w) := by
  obtain ⟨o, ho⟩ : ∃ o, textG ((btL s).drop (i0 + 1)) = o := ⟨_, rfl⟩
  have HO := Lib.hid ho
  rw [ho]
  clear ho
  go_enter Tryz.func120, Tryz.ntmps120
  go_upto_region 2 with fail
  refine code_forget (fun W => Hid (OwnB W w.heap.size (some ⟨w.heap.size, 0, none⟩) 0 []) ∧ Hid (Below w.heap.size w W)) ⟨Lib.hid (OwnB.lit (w := w) [] (Nat.le_refl _) (by decide)), Lib.hid ((Below.refl w.heap.size w).alloc (Nat.le_refl _) _)⟩ ?_
  rintro w1 ⟨O1, HB1⟩
  obtain ⟨g0, hg0⟩ : ∃ x, w.heap.size = x := ⟨_, rfl⟩
  have HG0 := Lib.hid hg0
  rw [hg0] at O1 ⊢
  clear hg0
  go_wp2_with fail
  go_loopw [1, 6] (fun j b wr => ∃ (i : Nat) (acc : List Int) (n : Nat) (a : Option Addr) (cap : Nat), j = .int .i64 (i : Int) ∧ b = .slice a n cap ∧ i ≤ s.size ∧ n ≤ i ∧ Hid (acc.length = n) ∧ Hid (Byts acc) ∧ Hid (OwnB wr w.heap.size a cap acc) ∧ Hid (o = (textG ((btL s).drop i)).map fun p => (acc ++ p.1, p.2)) ∧ Hid (Below w.heap.size w wr)) (fun j _ _ => s.size - (intOf j).toNat)
  case atStart => exact ⟨i0 + 1, [], 0, some ⟨g0, 0, none⟩, 0, by go_num, rfl, by omega, by omega, Lib.hid rfl, Lib.hid Byts.nil, Lib.hid (by rw [HG0.out]; exact O1.out), Lib.hid (by rw [← HO.out]; simp), HB1⟩
  case round =>
    obtain ⟨i, acc, n, a, cap, rfl, rfl, hi, hni, HN, HBY, HOW, HT, HB⟩ := hrel
    clear O1 HB1 HO
    by_cases hlt : i < s.size
    · have kd : decide ((i : Int) < (s.size : Int)) = true := decide_eq_true (by omega)
      have kd2 : decide (i < s.size) = true := decide_eq_true hlt
      obtain ⟨c, hc⟩ : ∃ d : Int, (s[i].toNat : Int) = d := ⟨_, rfl⟩
      have hcb : 0 ≤ c ∧ c < 256 := by rw [← hc]; exact ⟨by omega, by have := s[i].toNat_lt; omega⟩
      have HDR : Hid ((btL s).drop i = c :: (btL s).drop (i + 1)) := Lib.hid (by rw [← hc]; exact ln_cons s i hlt)
      by_cases c34 : c = 34
      · have d1 : (c == 34) = true := by rw [c34]; rfl
        have HF : Hid (o = some (acc, (btL s).drop (i + 1))) := Lib.hid (by rw [HT.out, HDR.out, c34, tx_q]; simp)
        have hcv := HOW.out.rd.text 78 5 9 (P := Tryz.prog) Tryz.underlying78 Tryz.underlying5 Tryz.underlying9 (fun _ => by
          rcases HOW.out.form with ⟨h, _⟩ | ⟨g, h, _⟩
          · exact Or.inl h
          · exact Or.inr ⟨g, 0, h⟩) cap
        rw [HN.out] at hcv
        obtain ⟨t, ht⟩ : ∃ t, strL acc = t := ⟨_, rfl⟩
        have HTT := Lib.hid ht
        rw [ht] at hcv
        clear c34 ht
        go_wp2
        go_ret2
        exact ⟨t, (i : Int) + 1, rfl, HB.out, by rw [← HTT.out, strL_size, HN.out]; omega, fun h => (by rw [HF.out] at h; cases h), fun p hp => ⟨i + 1, by omega, by omega, by rw [HF.out] at hp; injection hp with hp; rw [← hp], by rw [HF.out] at hp; injection hp with hp; rw [← hp, ← HTT.out, btL_strL HBY.out]⟩⟩
      · have d1 : (c == 34) = false := by simpa using c34
        have HC34 := Lib.hid c34
        clear c34
        by_cases c92 : c = 92
        · have d2 : (c == 92) = true := by rw [c92]; rfl
          have HC92 := Lib.hid c92
          clear c92
          by_cases hl2 : i + 1 < s.size
          · have ld : decide ((s.size : Int) ≤ (i : Int) + 1) = false := decide_eq_false (by omega)
            have ld2 : decide (s.size ≤ i + 1) = false := decide_eq_false (by omega)
            have ld3 : decide (i + 1 < s.size) = true := decide_eq_true hl2
            obtain ⟨d, hd⟩ : ∃ d : Int, (s[i + 1].toNat : Int) = d := ⟨_, rfl⟩
            have hdb : 0 ≤ d ∧ d < 256 := by rw [← hd]; exact ⟨by omega, by have := s[i + 1].toNat_lt; omega⟩
            have HD2 : Hid ((btL s).drop (i + 1) = d :: (btL s).drop (i + 2)) := Lib.hid (by rw [← hd]; exact ln_cons s (i + 1) hl2)
            obtain ⟨j, hj⟩ : ∃ j, i + 1 = j := ⟨_, rfl⟩
            have HJ := Lib.hid hj
            have hji : (i : Int) + 1 = (j : Int) := by omega
            have hwj : IntKind.i64.wrap ((i : Int) + 1) = (j : Int) := by rw [hji]; exact IntWalk.i64_in _ (by omega)
            have jx0 : (0 : Int) ≤ (j : Int) := by omega
            have jx1 : (j : Int) < (s.size : Int) := by omega
            have jx2 : j < s.size := by omega
            have ld : decide ((s.size : Int) ≤ (j : Int)) = false := decide_eq_false (by omega)
            have ld2 : decide (s.size ≤ j) = false := decide_eq_false (by omega)
            have hd : (s[j].toNat : Int) = d := by subst hj; exact hd
            by_cases hok : d = 34 ∨ d = 92
            · have HEQ : Hid (o = (textG ((btL s).drop (j + 1))).map fun p => ((acc ++ [d]) ++ p.1, p.2)) := Lib.hid (by
                rw [HT.out, HDR.out, HC92.out, HD2.out, tx_b d _ hok, Option.map_map, ← HJ.out]
                congr 1
                funext p
                simp)
              have HLN : Hid ((acc ++ [d]).length = n + 1) := Lib.hid (by rw [List.length_append, HN.out]; rfl)
              have HBN : Hid (Byts (acc ++ [d])) := Lib.hid (HBY.out.append (Byts.mk hdb Byts.nil))
              obtain ⟨q34, hq34⟩ : ∃ q, (d != 34) = q := ⟨_, rfl⟩
              obtain ⟨q92, hq92⟩ : ∃ q, (d != 92) = q := ⟨_, rfl⟩
              have HQ : Hid (q34 = false ∨ q92 = false) := Lib.hid (by
                rcases hok with h | h
                · left; rw [← hq34, h]; rfl
                · right; rw [← hq92, h]; rfl)
              clear hok ld3 hji hj
              cases q34 with
              | false =>
                go_wp2_with (at_builtin; refine wpList_app3 rfl _ _ rfl w.heap.size a n cap acc [d] (acc ++ [d]) 1 (n + 1) rfl HN.out rfl HLN.out (by omega) rfl (HOW.out.alloc _) _ 0 1 rfl (RdB.new _ [d] _ _) (by omega) (Nat.le_trans HB.out.size (by simp)) ?_; rintro g9 cap9 w9 own9 bel9; have HOW9 := Lib.hid own9; have HB9 : Hid (Below w.heap.size w w9) := Lib.hid ((HB.out.alloc HB.out.size _).trans bel9); clear own9 bel9)
                go_roundw
                case rel => exact ⟨j + 1, acc ++ [d], n + 1, some ⟨g9, 0, none⟩, cap9, by go_num, rfl, (by have := HJ.out; omega), (by have := HJ.out; omega), HLN, HBN, HOW9, HEQ, HB9⟩
                case measure => simp [intOf]; have := HJ.out; omega
              | true =>
                obtain rfl : q92 = false := by rcases HQ.out with h | h; (· cases h); (· exact h)
                go_wp2_with (at_builtin; refine wpList_app3 rfl _ _ rfl w.heap.size a n cap acc [d] (acc ++ [d]) 1 (n + 1) rfl HN.out rfl HLN.out (by omega) rfl (HOW.out.alloc _) _ 0 1 rfl (RdB.new _ [d] _ _) (by omega) (Nat.le_trans HB.out.size (by simp)) ?_; rintro g9 cap9 w9 own9 bel9; have HOW9 := Lib.hid own9; have HB9 : Hid (Below w.heap.size w w9) := Lib.hid ((HB.out.alloc HB.out.size _).trans bel9); clear own9 bel9)
                go_roundw
                case rel => exact ⟨j + 1, acc ++ [d], n + 1, some ⟨g9, 0, none⟩, cap9, by go_num, rfl, (by have := HJ.out; omega), (by have := HJ.out; omega), HLN, HBN, HOW9, HEQ, HB9⟩
                case measure => simp [intOf]; have := HJ.out; omega
            · have HF : Hid (o = none) := Lib.hid (by rw [HT.out, HDR.out, HC92.out, HD2.out, tx_bn d _ hok]; rfl)
              have x1 : (d != 34) = true := by simp; omega
              have x2 : (d != 92) = true := by simp; omega
              clear hok ld3 hji hj
              go_wp2
              go_ret2
              exact ⟨⟨#[]⟩, -1, rfl, HB.out, Nat.zero_le _, fun _ => ⟨rfl, rfl⟩, fun p hp => (by rw [HF.out] at hp; cases hp)⟩
          · have ld : decide ((s.size : Int) ≤ (i : Int) + 1) = true := decide_eq_true (by omega)
            have ld2 : decide (s.size ≤ i + 1) = true := decide_eq_true (by omega)
            have HF : Hid (o = none) := Lib.hid (by rw [HT.out, HDR.out, HC92.out, List.drop_eq_nil_of_le (by rw [btL_length]; omega), tx_b0]; rfl)
            go_wp2
            go_ret2
            exact ⟨⟨#[]⟩, -1, rfl, HB.out, Nat.zero_le _, fun _ => ⟨rfl, rfl⟩, fun p hp => (by rw [HF.out] at hp; cases hp)⟩
        · have d2 : (c == 92) = false := by simpa using c92
          have HC92 := Lib.hid c92
          clear c92
          by_cases hr : c < 32 ∨ 126 < c
          · have HF : Hid (o = none) := Lib.hid (by rw [HT.out, HDR.out, tx_no c _ HC34.out HC92.out hr]; rfl)
            by_cases h32 : c < 32
            · have x1 : decide (c < 32) = true := decide_eq_true h32
              go_wp2
              go_ret2
              exact ⟨⟨#[]⟩, -1, rfl, HB.out, Nat.zero_le _, fun _ => ⟨rfl, rfl⟩, fun p hp => (by rw [HF.out] at hp; cases hp)⟩
            · have x1 : decide (c < 32) = false := decide_eq_false h32
              have x2 : decide (126 < c) = true := decide_eq_true (by omega)
              go_wp2
              go_ret2
              exact ⟨⟨#[]⟩, -1, rfl, HB.out, Nat.zero_le _, fun _ => ⟨rfl, rfl⟩, fun p hp => (by rw [HF.out] at hp; cases hp)⟩
          · have x1 : decide (c < 32) = false := decide_eq_false (by omega)
            have x2 : decide (126 < c) = false := decide_eq_false (by omega)
            have HEQ : Hid (o = (textG ((btL s).drop (i + 1))).map fun p => ((acc ++ [c]) ++ p.1, p.2)) := Lib.hid (by
              rw [HT.out, HDR.out, tx_c c _ HC34.out HC92.out hr, Option.map_map]
              congr 1
              funext p
              simp)
            have HLN : Hid ((acc ++ [c]).length = n + 1) := Lib.hid (by rw [List.length_append, HN.out]; rfl)
            have HBN : Hid (Byts (acc ++ [c])) := Lib.hid (HBY.out.append (Byts.mk hcb Byts.nil))
            clear hr
            go_wp2_with (at_builtin; refine wpList_app3 rfl _ _ rfl w.heap.size a n cap acc [c] (acc ++ [c]) 1 (n + 1) rfl HN.out rfl HLN.out (by omega) rfl (HOW.out.alloc _) _ 0 1 rfl (RdB.new _ [c] _ _) (by omega) (Nat.le_trans HB.out.size (by simp)) ?_; rintro g9 cap9 w9 own9 bel9; have HOW9 := Lib.hid own9; have HB9 : Hid (Below w.heap.size w w9) := Lib.hid ((HB.out.alloc HB.out.size _).trans bel9); clear own9 bel9)
            go_roundw
            case rel => exact ⟨i + 1, acc ++ [c], n + 1, some ⟨g9, 0, none⟩, cap9, by go_num, rfl, by omega, by omega, HLN, HBN, HOW9, HEQ, HB9⟩
            case measure => simp [intOf]; omega
    · have kd : decide ((i : Int) < (s.size : Int)) = false := decide_eq_false (by omega)
      have kd2 : decide (i < s.size) = false := decide_eq_false hlt
      have HF : Hid (o = none) := Lib.hid (by rw [HT.out, List.drop_eq_nil_of_le (by rw [btL_length]; omega)]; rfl)
      go_wp2
      go_ret2
      exact ⟨⟨#[]⟩, -1, rfl, HB.out, Nat.zero_le _, fun _ => ⟨rfl, rfl⟩, fun p hp => (by rw [HF.out] at hp; cases hp)⟩
end Go.Proofs.YtodibjpojfipoaaGreatDoor
/- The document's fields: key, blanks. -/
namespace Go.Proofs.YtodibjpojfipoaaGreatDoor
open Go Go.RowKit
set_option linter.unusedVariables false
set_option linter.unusedSimpArgs false
set_option maxRecDepth 10000

theorem tw_of_dw {p : Int → Bool} {l : List Int} {m : Nat} (hm : m ≤ l.length) (h : l.dropWhile p = l.drop m) : l.takeWhile p = l.take m := by
  have h1 : (l.takeWhile p).length = m := by
    have h2 := congrArg List.length (List.takeWhile_append_dropWhile (p := p) (l := l))
    rw [List.length_append, h, List.length_drop] at h2
    omega
  rw [← tw_take, h1]
theorem dw_drop {p : Int → Bool} {s : ByteArray} {i k : Nat} (hik : i ≤ k) (hk : k ≤ s.size) (h : ((btL s).drop i).dropWhile p = (btL s).drop k) : ((btL s).drop i).takeWhile p = btL (s.extract i k) := by
  have e : (btL s).drop k = ((btL s).drop i).drop (k - i) := by rw [List.drop_drop]; congr 1; omega
  rw [ln_extract]
  exact tw_of_dw (by rw [List.length_drop, btL_length]; omega) (by rw [h, e])
/-- The end of a key. -/
def KyP (s : ByteArray) (i : Nat) (w : World) (e : Ending) (w' : World) : Prop := ∃ r : Int, e = .returned (.int .i64 r) ∧ w' = w ∧ ((keyF ((btL s).drop i) = none ∧ r = -1) ∨ ∃ k : Nat, i ≤ k ∧ k ≤ s.size ∧ r = (k : Int) ∧ keyF ((btL s).drop i) = some (btL (s.extract i k), (btL s).drop k))
theorem keyF_yes {l : List Int} {c : Int} {r : List Int} (h : l = c :: r) (hc : (fLow c || c == 42) = true) : keyF l = some (l.takeWhile keyC, l.dropWhile keyC) := by
  subst h
  show (if (fLow c || c == 42) = true then _ else none) = _
  rw [if_pos hc]
theorem keyF_no {l : List Int} {c : Int} {r : List Int} (h : l = c :: r) (hc : (fLow c || c == 42) = false) : keyF l = none := by
  subst h
  show (if (fLow c || c == 42) = true then _ else none) = _
  rw [if_neg (by rw [hc]; decide)]
set_option maxHeartbeats 4000000 in
theorem rkey_at (s : ByteArray) (hz : s.size ≤ 1000000) (i : Nat) (hi : i ≤ s.size) (w : World) : Calls Tryz.prog 121 #[.string s, .int .i64 (i : Int)] w (KyP s i w) := by
  have AT := Lib.hid (fun W : World => rat7_at s hz i (by omega) W)
  obtain ⟨c0, hc0⟩ : ∃ c, hdI ((btL s).drop i) = c := ⟨_, rfl⟩
  obtain ⟨ok, hok⟩ : ∃ b, decide (i < s.size) = b := ⟨_, rfl⟩
  rw [hc0, hok] at AT
  obtain ⟨Q, hQ⟩ : ∃ b : Bool, (!(ok && (fLow c0 || c0 == 42))) = b := ⟨_, rfl⟩
  have HQ := Lib.hid hQ
  have HCD : Hid (ok = true → (btL s).drop i = c0 :: (btL s).drop (i + 1)) := Lib.hid (fun h => by
    rw [h] at hok
    have hlt := of_decide_eq_true hok
    rw [← hc0, ln_cons s i hlt]
    rfl)
  have HCN : Hid (ok = false → (btL s).drop i = []) := Lib.hid (fun h => by
    rw [h] at hok
    have hlt := of_decide_eq_false hok
    exact List.drop_eq_nil_of_le (by rw [btL_length]; omega))
  clear hc0 hok hQ
  go_enter Tryz.func121, Tryz.ntmps121
  go_wp2_with fail
  refine (AT.out _).mono ?_
  rintro e wx ⟨rfl, hw⟩
  subst wx
  go_upto_region 2 with fail
  go_cut [23] from 7 (fun v wx => v = .bool Q ∧ wx = w)
  case first =>
    cases ok with
    | false =>
      have e : Q = true := by rw [← HQ.out]; rfl
      subst e
      go_wp2
      go_meet
      exact ⟨rfl, rfl⟩
    | true =>
      cases hq : fLow c0 with
      | true =>
        have e : Q = false := by rw [← HQ.out, hq]; rfl
        subst e
        have CT := Lib.hid (fun W : World => rlow_at c0 true hq W)
        clear hq
        go_wp2_with fail
        refine (CT.out _).mono ?_
        rintro e wx ⟨rfl, hw⟩
        subst wx
        go_wp2
        go_meet
        exact ⟨rfl, rfl⟩
      | false =>
        have CT := Lib.hid (fun W : World => rlow_at c0 false hq W)
        obtain ⟨q4, hq4⟩ : ∃ b, (c0 == 42) = b := ⟨_, rfl⟩
        have e : (!q4) = Q := by rw [← HQ.out, hq, hq4]; rfl
        have hne : (c0 != 42) = Q := by rw [← e, ← hq4]; rfl
        clear hq hq4 e
        go_wp2_with fail
        refine (CT.out _).mono ?_
        rintro e wx ⟨rfl, hw⟩
        subst wx
        go_wp2
        go_meet
        exact ⟨rfl, rfl⟩
  case rest =>
  obtain ⟨rfl, he⟩ := hcut
  have he := he.symm
  subst he
  cases Q with
  | true =>
    have HE : Hid (keyF ((btL s).drop i) = none) := Lib.hid (by
      cases ok with
      | false => rw [HCN.out rfl]; rfl
      | true =>
        refine keyF_no (HCD.out rfl) ?_
        have := HQ.out
        simpa using this)
    go_wp2
    go_ret
    exact ⟨-1, rfl, rfl, Or.inl ⟨HE.out, rfl⟩⟩
  | false =>
    have hok : ok = true := by
      have := HQ.out
      cases ok with
      | true => rfl
      | false => cases this
    subst hok
    have HKF : Hid (keyF ((btL s).drop i) = some (((btL s).drop i).takeWhile keyC, ((btL s).drop i).dropWhile keyC)) := Lib.hid (keyF_yes (HCD.out rfl) (by
      have := HQ.out
      cases hh : (fLow c0 || c0 == 42) with
      | true => rfl
      | false => rw [hh] at this; cases this))
    clear HCD HCN HQ AT
    go_wp2_with fail
    go_loop [1] (fun j => ∃ k : Nat, j = .int .i64 (k : Int) ∧ i ≤ k ∧ k ≤ s.size ∧ Hid (((btL s).drop i).dropWhile keyC = ((btL s).drop k).dropWhile keyC)) (fun j => s.size - (intOf j).toNat)
    case atStart => exact ⟨i, rfl, by omega, by omega, Lib.hid rfl⟩
    case round =>
      obtain ⟨k, rfl, hik, hks, HD⟩ := hrel
      by_cases hlt : k < s.size
      · have kd : decide ((k : Int) < (s.size : Int)) = true := decide_eq_true (by omega)
        have kd2 : decide (k < s.size) = true := decide_eq_true hlt
        obtain ⟨c, hc⟩ : ∃ d : Int, (s[k].toNat : Int) = d := ⟨_, rfl⟩
        have HDR : Hid ((btL s).drop k = c :: (btL s).drop (k + 1)) := Lib.hid (by rw [← hc]; exact ln_cons s k hlt)
        have kx0 : (0 : Int) ≤ (k : Int) := by omega
        have kx1 : (k : Int) < (s.size : Int) := by omega
        cases hq0 : fLow c with
        | true =>
          have HK : Hid (keyC c = true) := Lib.hid (by unfold keyC; rw [hq0]; simp)
          have CT := Lib.hid (fun W : World => rlow_at c true hq0 W)
          clear hq0
          go_wp2_with fail
          refine (CT.out _).mono ?_
          rintro e wx ⟨rfl, hw⟩
          subst wx
          have HD2 : Hid (((btL s).drop i).dropWhile keyC = ((btL s).drop (k + 1)).dropWhile keyC) := Lib.hid (by rw [HD.out, HDR.out, List.dropWhile_cons, if_pos HK.out])
          go_wp2
          go_round
          case rel => exact ⟨k + 1, by go_num, by omega, by omega, HD2⟩
          case measure => simp [intOf]; omega
        | false =>
          have HN0 := Lib.hid hq0
          have CT := Lib.hid (fun W : World => rlow_at c false hq0 W)
          clear hq0
          go_wp2_with fail
          refine (CT.out _).mono ?_
          rintro e wx ⟨rfl, hw⟩
          subst wx
          cases hq1 : fNum c with
          | true =>
            have HK : Hid (keyC c = true) := Lib.hid (by unfold keyC; rw [hq1]; simp)
            have CT := Lib.hid (fun W : World => rnumc_at c true hq1 W)
            clear hq1
            go_wp2_with fail
            refine (CT.out _).mono ?_
            rintro e wx ⟨rfl, hw⟩
            subst wx
            have HD2 : Hid (((btL s).drop i).dropWhile keyC = ((btL s).drop (k + 1)).dropWhile keyC) := Lib.hid (by rw [HD.out, HDR.out, List.dropWhile_cons, if_pos HK.out])
            go_wp2
            go_round
            case rel => exact ⟨k + 1, by go_num, by omega, by omega, HD2⟩
            case measure => simp [intOf]; omega
          | false =>
            have HN1 := Lib.hid hq1
            have CT := Lib.hid (fun W : World => rnumc_at c false hq1 W)
            clear hq1
            go_wp2_with fail
            refine (CT.out _).mono ?_
            rintro e wx ⟨rfl, hw⟩
            subst wx
            cases hq2 : ([95, 45, 46, 42] : List Int).contains c with
            | true =>
              have HK : Hid (keyC c = true) := Lib.hid (by unfold keyC; rw [hq2]; simp)
              have CT := Lib.hid (fun W : World => rin_at ⟨#[95, 45, 46, 42]⟩ (by decide) c true hq2 W)
              clear hq2
              go_wp2_with fail
              refine (CT.out _).mono ?_
              rintro e wx ⟨rfl, hw⟩
              subst wx
              have HD2 : Hid (((btL s).drop i).dropWhile keyC = ((btL s).drop (k + 1)).dropWhile keyC) := Lib.hid (by rw [HD.out, HDR.out, List.dropWhile_cons, if_pos HK.out])
              go_wp2
              go_round
              case rel => exact ⟨k + 1, by go_num, by omega, by omega, HD2⟩
              case measure => simp [intOf]; omega
            | false =>
              have HN2 := Lib.hid hq2
              have CT := Lib.hid (fun W : World => rin_at ⟨#[95, 45, 46, 42]⟩ (by decide) c false hq2 W)
              clear hq2
              go_wp2_with fail
              refine (CT.out _).mono ?_
              rintro e wx ⟨rfl, hw⟩
              subst wx
              have HE : Hid (((btL s).drop i).dropWhile keyC = (btL s).drop k) := Lib.hid (by rw [HD.out, HDR.out, List.dropWhile_cons, if_neg (by unfold keyC; rw [HN0.out, HN1.out, HN2.out]; decide)])
              have HF : Hid (keyF ((btL s).drop i) = some (btL (s.extract i k), (btL s).drop k)) := Lib.hid (by rw [HKF.out, HE.out, dw_drop hik hks HE.out])
              go_wp2
              go_ret
              exact ⟨(k : Int), rfl, rfl, Or.inr ⟨k, hik, hks, rfl, HF.out⟩⟩
      · have kd : decide ((k : Int) < (s.size : Int)) = false := decide_eq_false (by omega)
        have kd2 : decide (k < s.size) = false := decide_eq_false hlt
        have HE : Hid (((btL s).drop i).dropWhile keyC = (btL s).drop k) := Lib.hid (by rw [HD.out, List.drop_eq_nil_of_le (by rw [btL_length]; omega)]; rfl)
        have HF : Hid (keyF ((btL s).drop i) = some (btL (s.extract i k), (btL s).drop k)) := Lib.hid (by rw [HKF.out, HE.out, dw_drop hik hks HE.out])
        go_wp2
        go_ret
        exact ⟨(k : Int), rfl, rfl, Or.inr ⟨k, hik, hks, rfl, HF.out⟩⟩
/-- Behind blanks and tabs. -/
def BlP (s : ByteArray) (i : Nat) (w : World) (e : Ending) (w' : World) : Prop := ∃ k : Nat, e = .returned (.int .i64 (k : Int)) ∧ w' = w ∧ i ≤ k ∧ k ≤ s.size ∧ ((btL s).drop i).dropWhile blI = (btL s).drop k
set_option maxHeartbeats 4000000 in
theorem rblanks_at (s : ByteArray) (hz : s.size ≤ 1000000) (i : Nat) (hi : i ≤ s.size) (w : World) : Calls Tryz.prog 99 #[.string s, .int .i64 (i : Int)] w (BlP s i w) := by
  go_enter Tryz.func99, Tryz.ntmps99
  go_wp2_with fail
  go_loop [1] (fun j => ∃ k : Nat, j = .int .i64 (k : Int) ∧ i ≤ k ∧ k ≤ s.size ∧ Hid (((btL s).drop i).dropWhile blI = ((btL s).drop k).dropWhile blI)) (fun j => s.size - (intOf j).toNat)
  case atStart => exact ⟨i, rfl, by omega, by omega, Lib.hid rfl⟩
  case round =>
    obtain ⟨k, rfl, hik, hks, HD⟩ := hrel
    by_cases hlt : k < s.size
    · have kd : decide ((k : Int) < (s.size : Int)) = true := decide_eq_true (by omega)
      have kd2 : decide (k < s.size) = true := decide_eq_true hlt
      obtain ⟨c, hc⟩ : ∃ d : Int, (s[k].toNat : Int) = d := ⟨_, rfl⟩
      have HDR : Hid ((btL s).drop k = c :: (btL s).drop (k + 1)) := Lib.hid (by rw [← hc]; exact ln_cons s k hlt)
      have kx0 : (0 : Int) ≤ (k : Int) := by omega
      have kx1 : (k : Int) < (s.size : Int) := by omega
      by_cases c32 : c = 32
      · have d1 : (c == 32) = true := beq_iff_eq.2 c32
        have HK : Hid (blI c = true) := Lib.hid (by rw [c32]; rfl)
        clear c32
        have HD2 : Hid (((btL s).drop i).dropWhile blI = ((btL s).drop (k + 1)).dropWhile blI) := Lib.hid (by rw [HD.out, HDR.out, List.dropWhile_cons, if_pos HK.out])
        go_wp2
        go_round
        case rel => exact ⟨k + 1, by go_num, by omega, by omega, HD2⟩
        case measure => simp [intOf]; omega
      · have d1 : (c == 32) = false := beq_eq_false_iff_ne.2 c32
        by_cases c9 : c = 9
        · have d2 : (c == 9) = true := beq_iff_eq.2 c9
          have HK : Hid (blI c = true) := Lib.hid (by rw [c9]; rfl)
          clear c32 c9
          have HD2 : Hid (((btL s).drop i).dropWhile blI = ((btL s).drop (k + 1)).dropWhile blI) := Lib.hid (by rw [HD.out, HDR.out, List.dropWhile_cons, if_pos HK.out])
          go_wp2
          go_round
          case rel => exact ⟨k + 1, by go_num, by omega, by omega, HD2⟩
          case measure => simp [intOf]; omega
        · have d2 : (c == 9) = false := beq_eq_false_iff_ne.2 c9
          have HNB : Hid (¬ blI c = true) := Lib.hid (by unfold blI; simp [c32, c9])
          clear c32 c9
          have HE : Hid (((btL s).drop i).dropWhile blI = (btL s).drop k) := Lib.hid (by rw [HD.out, HDR.out, List.dropWhile_cons, if_neg (by exact HNB.out)])
          go_wp2
          go_ret
          exact ⟨k, rfl, rfl, hik, hks, HE.out⟩
    · have kd : decide ((k : Int) < (s.size : Int)) = false := decide_eq_false (by omega)
      have kd2 : decide (k < s.size) = false := decide_eq_false hlt
      have HE : Hid (((btL s).drop i).dropWhile blI = (btL s).drop k) := Lib.hid (by rw [HD.out, List.drop_eq_nil_of_le (by rw [btL_length]; omega)]; rfl)
      go_wp2
      go_ret
      exact ⟨k, rfl, rfl, hik, hks, HE.out⟩
end Go.Proofs.YtodibjpojfipoaaGreatDoor
/- The document's fields: value, behind. -/
namespace Go.Proofs.YtodibjpojfipoaaGreatDoor
open Go Go.RowKit
set_option linter.unusedVariables false
set_option linter.unusedSimpArgs false
set_option maxRecDepth 10000

theorem fval_app : ∀ (l : List Int) (v c : Int), fval v (l ++ [c]) = 10 * fval v l + (c - 48)
  | [], v, c => rfl
  | x :: t, v, c => fval_app t _ c
theorem numF_ne {c : Int} (h : c ≠ 45) (q : List Int) : numF (c :: q) = digF false (c :: q) := by
  unfold numF
  split
  · rename_i e
    injection e with e1 e2
    exact absurd e1 h
  · rfl
/-- A value, and its end. -/
def VlP (s : ByteArray) (i : Nat) (w : World) (e : Ending) (w' : World) : Prop := ∃ (v : VB) (r : Int), e = .returned (.tuple #[.agg #[.int .i64 v.k, .int .i64 v.n, .string v.s], .int .i64 r]) ∧ Below w.heap.size w w' ∧ v.s.size ≤ 1000000 ∧
  ((valF ((btL s).drop i) = none ∧ r = -1) ∨ ∃ k : Nat, i ≤ k ∧ k ≤ s.size ∧ r = (k : Int) ∧ valF ((btL s).drop i) = some (v.f, (btL s).drop k))
set_option maxHeartbeats 8000000 in
theorem rvalue_at (s : ByteArray) (hz : s.size ≤ 1000000) (i : Nat) (hi : i ≤ s.size) (w : World) : Calls Tryz.prog 133 #[.string s, .int .i64 (i : Int)] w (VlP s i w) := by
  have AT := Lib.hid (fun W : World => rat7_at s hz i (by omega) W)
  have AT2 := Lib.hid (fun W : World => rat7_at s hz (i + 1) (by omega) W)
  obtain ⟨c0, hc0⟩ : ∃ c, hdI ((btL s).drop i) = c := ⟨_, rfl⟩
  obtain ⟨ok, hok⟩ : ∃ b, decide (i < s.size) = b := ⟨_, rfl⟩
  rw [hc0, hok] at AT
  have HOK := Lib.hid hok
  have HCD : Hid (ok = true → (btL s).drop i = c0 :: (btL s).drop (i + 1)) := Lib.hid (fun h => by
    rw [h] at hok
    have hlt := of_decide_eq_true hok
    rw [← hc0, ln_cons s i hlt]
    rfl)
  have HC0 := Lib.hid hc0
  clear hc0 hok
  go_enter Tryz.func133, Tryz.ntmps133
  go_upto_region 1 with fail
  refine code_forget (fun W => Hid (Box W w.heap.size #[.int .i64 0, .int .i64 0, .string ⟨#[]⟩] 70) ∧ Hid (Below w.heap.size w W)) ⟨Lib.hid (Box.new w _ _), Lib.hid ((Below.refl w.heap.size w).alloc (Nat.le_refl _) _)⟩ ?_
  obtain ⟨rb, hrb⟩ : ∃ x, w.heap.size = x := ⟨_, rfl⟩
  have hrw : Hid (w.heap.size ≤ rb) := Lib.hid (Nat.le_of_eq hrb)
  rintro w1 ⟨BX, HB1⟩
  rw [hrb] at BX ⊢
  clear hrb
  go_wp2_with fail
  refine (AT.out _).mono ?_
  rintro e wx ⟨rfl, hw⟩
  subst wx
  clear AT
  cases ok with
  | false =>
    have HF : Hid (valF ((btL s).drop i) = none) := Lib.hid (by
      rw [List.drop_eq_nil_of_le (by have := of_decide_eq_false HOK.out; rw [btL_length]; omega)]
      rfl)
    have l0 := BX.out.lt
    have c0 := BX.out.cell 0
    have c1 := BX.out.cell 1
    have c2 := BX.out.cell 2
    have f0 := BX.out.free 0
    have f1 := BX.out.free 1
    have f2 := BX.out.free 2
    go_wp2
    have BX9 := Lib.hid (((BX.out.set 0 (.int .i64 0)).set 1 (.int .i64 0)).set 2 (.string ⟨#[]⟩))
    have HB9 := Lib.hid (((HB1.out.setCell (p := ⟨rb, 0, none⟩) hrw.out (.int .i64 0)).setCell (p := ⟨rb, 1, none⟩) hrw.out (.int .i64 0)).setCell (p := ⟨rb, 2, none⟩) hrw.out (.string ⟨#[]⟩))
    obtain ⟨w9, hw9⟩ : ∃ W, ((w1.setCell ⟨rb, 0, none⟩ (.int .i64 0)).setCell ⟨rb, 1, none⟩ (.int .i64 0)).setCell ⟨rb, 2, none⟩ (.string ⟨#[]⟩) = W := ⟨_, rfl⟩
    rw [hw9] at BX9 HB9 ⊢
    have s0 := BX9.out.cell 0
    have s1 := BX9.out.cell 1
    have s2 := BX9.out.cell 2
    exact bodyPost_ret (v := .tuple #[.agg #[.int .i64 0, .int .i64 0, .string ⟨#[]⟩], .int .i64 (-1)]) (by simp [results, Tryz.results133, go_sem, s0, s1, s2]) rfl ⟨⟨0, 0, ⟨#[]⟩⟩, (-1), rfl, HB9.out, by decide, Or.inl ⟨HF.out, rfl⟩⟩
  | true =>
    have hlt : i < s.size := of_decide_eq_true HOK.out
    have HL := Lib.hid (HCD.out rfl)
    clear HCD HOK
    by_cases c34 : c0 = 34
    · have d1 : (c0 == 34) = true := beq_iff_eq.2 c34
      have QT := Lib.hid (rquoted_at s hz i hlt w1)
      have HV : Hid (valF ((btL s).drop i) = (textG ((btL s).drop (i + 1))).map fun p => (⟨2, 0, p.1⟩, p.2)) := Lib.hid (by rw [HL.out, c34, valF_text])
      clear c34 AT2
      go_wp2_with fail
      refine QT.out.mono ?_
      rintro e w2 ⟨t, r, rfl, hb, htz, hn, hy⟩
      have HB2 := Lib.hid (HB1.out.trans (hb.mono HB1.out.size))
      have BX2 := Lib.hid (BX.out.later hb)
      have HN := Lib.hid hn
      have HY := Lib.hid hy
      clear hb hn hy HB1 BX QT
      have l0 := BX2.out.lt
      have c0 := BX2.out.cell 0
      have c1 := BX2.out.cell 1
      have c2 := BX2.out.cell 2
      have f0 := BX2.out.free 0
      have f1 := BX2.out.free 1
      have f2 := BX2.out.free 2
      go_wp2
      have BX9 := Lib.hid (((BX2.out.set 0 (.int .i64 2)).set 1 (.int .i64 0)).set 2 (.string t))
      have HB9 := Lib.hid (((HB2.out.setCell (p := ⟨rb, 0, none⟩) hrw.out (.int .i64 2)).setCell (p := ⟨rb, 1, none⟩) hrw.out (.int .i64 0)).setCell (p := ⟨rb, 2, none⟩) hrw.out (.string t))
      obtain ⟨w9, hw9⟩ : ∃ W, ((w2.setCell ⟨rb, 0, none⟩ (.int .i64 2)).setCell ⟨rb, 1, none⟩ (.int .i64 0)).setCell ⟨rb, 2, none⟩ (.string t) = W := ⟨_, rfl⟩
      rw [hw9] at BX9 HB9 ⊢
      have s0 := BX9.out.cell 0
      have s1 := BX9.out.cell 1
      have s2 := BX9.out.cell 2
      exact bodyPost_ret (v := .tuple #[.agg #[.int .i64 2, .int .i64 0, .string t], .int .i64 r]) (by simp [results, Tryz.results133, go_sem, s0, s1, s2]) rfl ⟨⟨2, 0, t⟩, r, rfl, HB9.out, by dsimp only; omega, (by
        cases ho : textG ((btL s).drop (i + 1)) with
        | none =>
          obtain ⟨e1, _⟩ := HN.out ho
          exact Or.inl ⟨by rw [HV.out, ho]; rfl, e1⟩
        | some p =>
          obtain ⟨k, k1, k2, k3, k4⟩ := HY.out p ho
          have hk : i ≤ k := by
            have h1 := textG_len _ _ _ _ (Nat.le_refl _) ho
            rw [k3, List.length_drop, List.length_drop, btL_length] at h1
            omega
          exact Or.inr ⟨k, hk, k1, k2, by rw [HV.out, ho, Option.map_some, k3, k4]; rfl⟩)⟩
    · have d1 : (c0 == 34) = false := beq_eq_false_iff_ne.2 c34
      have H34 := Lib.hid c34
      clear c34
      by_cases c63 : c0 = 63
      · have d2 : (c0 == 63) = true := beq_iff_eq.2 c63
        have HV : Hid (valF ((btL s).drop i) = (flagF (63 :: (btL s).drop (i + 1))).map fun p => (flagV p.1, p.2)) := Lib.hid (by rw [HL.out, c63, valF_flag])
        obtain ⟨d, hd⟩ : ∃ c, hdI ((btL s).drop (i + 1)) = c := ⟨_, rfl⟩
        obtain ⟨more, hmore⟩ : ∃ b, decide (i + 1 < s.size) = b := ⟨_, rfl⟩
        rw [hd, hmore] at AT2
        have e1 : ((i + 1 : Nat) : Int) = (i : Int) + 1 := by omega
        rw [e1] at AT2
        have hw1 : IntKind.i64.wrap ((i : Int) + 1) = (i : Int) + 1 := IntWalk.i64_in _ (by omega)
        have hw2 : IntKind.i64.wrap ((i : Int) + 2) = (i : Int) + 2 := IntWalk.i64_in _ (by omega)
        have HM := Lib.hid hmore
        have HDD : Hid (more = true → (btL s).drop (i + 1) = d :: (btL s).drop (i + 2)) := Lib.hid (fun h => by
          rw [h] at hmore
          have h2 := of_decide_eq_true hmore
          rw [← hd, ln_cons s (i + 1) h2]
          rfl)
        clear c63 hd hmore e1
        go_wp2_with fail
        refine (AT2.out _).mono ?_
        rintro e wx ⟨rfl, hw⟩
        subst wx
        clear AT2
        cases more with
        | false =>
          have HF : Hid (valF ((btL s).drop i) = none) := Lib.hid (by
            rw [HV.out, List.drop_eq_nil_of_le (by have := of_decide_eq_false HM.out; rw [btL_length]; omega)]
            rfl)
          have l0 := BX.out.lt
          have c0 := BX.out.cell 0
          have c1 := BX.out.cell 1
          have c2 := BX.out.cell 2
          have f0 := BX.out.free 0
          have f1 := BX.out.free 1
          have f2 := BX.out.free 2
          go_wp2
          have BX9 := Lib.hid (((BX.out.set 0 (.int .i64 0)).set 1 (.int .i64 0)).set 2 (.string ⟨#[]⟩))
          have HB9 := Lib.hid (((HB1.out.setCell (p := ⟨rb, 0, none⟩) hrw.out (.int .i64 0)).setCell (p := ⟨rb, 1, none⟩) hrw.out (.int .i64 0)).setCell (p := ⟨rb, 2, none⟩) hrw.out (.string ⟨#[]⟩))
          obtain ⟨w9, hw9⟩ : ∃ W, ((w1.setCell ⟨rb, 0, none⟩ (.int .i64 0)).setCell ⟨rb, 1, none⟩ (.int .i64 0)).setCell ⟨rb, 2, none⟩ (.string ⟨#[]⟩) = W := ⟨_, rfl⟩
          rw [hw9] at BX9 HB9 ⊢
          have s0 := BX9.out.cell 0
          have s1 := BX9.out.cell 1
          have s2 := BX9.out.cell 2
          exact bodyPost_ret (v := .tuple #[.agg #[.int .i64 0, .int .i64 0, .string ⟨#[]⟩], .int .i64 (-1)]) (by simp [results, Tryz.results133, go_sem, s0, s1, s2]) rfl ⟨⟨0, 0, ⟨#[]⟩⟩, (-1), rfl, HB9.out, by decide, Or.inl ⟨HF.out, rfl⟩⟩
        | true =>
          have HD2 := Lib.hid (HDD.out rfl)
          have hl2 : i + 2 ≤ s.size := of_decide_eq_true HM.out
          clear HDD HM
          by_cases d48 : d = 48
          · have x1 : (d != 48) = false := by rw [d48]; rfl
            have HF : Hid (valF ((btL s).drop i) = some (flagV 0, (btL s).drop (i + 2))) := Lib.hid (by rw [HV.out, HD2.out, d48]; rfl)
            subst d48
            have l0 := BX.out.lt
            have c0 := BX.out.cell 0
            have c1 := BX.out.cell 1
            have c2 := BX.out.cell 2
            have f0 := BX.out.free 0
            have f1 := BX.out.free 1
            have f2 := BX.out.free 2
            go_wp2
            have BX9 := Lib.hid (((BX.out.set 0 (.int .i64 4)).set 1 (.int .i64 0)).set 2 (.string ⟨#[]⟩))
            have HB9 := Lib.hid (((HB1.out.setCell (p := ⟨rb, 0, none⟩) hrw.out (.int .i64 4)).setCell (p := ⟨rb, 1, none⟩) hrw.out (.int .i64 0)).setCell (p := ⟨rb, 2, none⟩) hrw.out (.string ⟨#[]⟩))
            obtain ⟨w9, hw9⟩ : ∃ W, ((w1.setCell ⟨rb, 0, none⟩ (.int .i64 4)).setCell ⟨rb, 1, none⟩ (.int .i64 0)).setCell ⟨rb, 2, none⟩ (.string ⟨#[]⟩) = W := ⟨_, rfl⟩
            rw [hw9] at BX9 HB9 ⊢
            have s0 := BX9.out.cell 0
            have s1 := BX9.out.cell 1
            have s2 := BX9.out.cell 2
            exact bodyPost_ret (v := .tuple #[.agg #[.int .i64 4, .int .i64 0, .string ⟨#[]⟩], .int .i64 ((i : Int) + 2)]) (by simp [results, Tryz.results133, go_sem, s0, s1, s2]) rfl ⟨⟨4, 0, ⟨#[]⟩⟩, ((i : Int) + 2), rfl, HB9.out, by decide, Or.inr ⟨i + 2, by omega, hl2, by omega, HF.out⟩⟩
          · have x1 : (d != 48) = true := by simpa using d48
            by_cases d49 : d = 49
            · have x2 : (d != 49) = false := by rw [d49]; rfl
              have HF : Hid (valF ((btL s).drop i) = some (flagV 1, (btL s).drop (i + 2))) := Lib.hid (by rw [HV.out, HD2.out, d49]; rfl)
              subst d49
              have l0 := BX.out.lt
              have c0 := BX.out.cell 0
              have c1 := BX.out.cell 1
              have c2 := BX.out.cell 2
              have f0 := BX.out.free 0
              have f1 := BX.out.free 1
              have f2 := BX.out.free 2
              go_wp2
              have BX9 := Lib.hid (((BX.out.set 0 (.int .i64 4)).set 1 (.int .i64 1)).set 2 (.string ⟨#[]⟩))
              have HB9 := Lib.hid (((HB1.out.setCell (p := ⟨rb, 0, none⟩) hrw.out (.int .i64 4)).setCell (p := ⟨rb, 1, none⟩) hrw.out (.int .i64 1)).setCell (p := ⟨rb, 2, none⟩) hrw.out (.string ⟨#[]⟩))
              obtain ⟨w9, hw9⟩ : ∃ W, ((w1.setCell ⟨rb, 0, none⟩ (.int .i64 4)).setCell ⟨rb, 1, none⟩ (.int .i64 1)).setCell ⟨rb, 2, none⟩ (.string ⟨#[]⟩) = W := ⟨_, rfl⟩
              rw [hw9] at BX9 HB9 ⊢
              have s0 := BX9.out.cell 0
              have s1 := BX9.out.cell 1
              have s2 := BX9.out.cell 2
              exact bodyPost_ret (v := .tuple #[.agg #[.int .i64 4, .int .i64 1, .string ⟨#[]⟩], .int .i64 ((i : Int) + 2)]) (by simp [results, Tryz.results133, go_sem, s0, s1, s2]) rfl ⟨⟨4, 1, ⟨#[]⟩⟩, ((i : Int) + 2), rfl, HB9.out, by decide, Or.inr ⟨i + 2, by omega, hl2, by omega, HF.out⟩⟩
            · have x2 : (d != 49) = true := by simpa using d49
              have HF : Hid (valF ((btL s).drop i) = none) := Lib.hid (by
                rw [HV.out, HD2.out]
                have : flagF (63 :: d :: (btL s).drop (i + 2)) = none := by
                  unfold flagF
                  split
                  · rename_i e
                    injection e with _ e
                    injection e with e _
                    exact absurd e d49
                  · rename_i e
                    injection e with _ e
                    injection e with e _
                    exact absurd e d48
                  · rfl
                rw [this]
                rfl)
              clear d48 d49
              have l0 := BX.out.lt
              have c0 := BX.out.cell 0
              have c1 := BX.out.cell 1
              have c2 := BX.out.cell 2
              have f0 := BX.out.free 0
              have f1 := BX.out.free 1
              have f2 := BX.out.free 2
              go_wp2
              have BX9 := Lib.hid (((BX.out.set 0 (.int .i64 0)).set 1 (.int .i64 0)).set 2 (.string ⟨#[]⟩))
              have HB9 := Lib.hid (((HB1.out.setCell (p := ⟨rb, 0, none⟩) hrw.out (.int .i64 0)).setCell (p := ⟨rb, 1, none⟩) hrw.out (.int .i64 0)).setCell (p := ⟨rb, 2, none⟩) hrw.out (.string ⟨#[]⟩))
              obtain ⟨w9, hw9⟩ : ∃ W, ((w1.setCell ⟨rb, 0, none⟩ (.int .i64 0)).setCell ⟨rb, 1, none⟩ (.int .i64 0)).setCell ⟨rb, 2, none⟩ (.string ⟨#[]⟩) = W := ⟨_, rfl⟩
              rw [hw9] at BX9 HB9 ⊢
              have s0 := BX9.out.cell 0
              have s1 := BX9.out.cell 1
              have s2 := BX9.out.cell 2
              exact bodyPost_ret (v := .tuple #[.agg #[.int .i64 0, .int .i64 0, .string ⟨#[]⟩], .int .i64 (-1)]) (by simp [results, Tryz.results133, go_sem, s0, s1, s2]) rfl ⟨⟨0, 0, ⟨#[]⟩⟩, (-1), rfl, HB9.out, by decide, Or.inl ⟨HF.out, rfl⟩⟩
      · have d2 : (c0 == 63) = false := beq_eq_false_iff_ne.2 c63
        have HV : Hid (valF ((btL s).drop i) = if (c0 == 45 || fNum c0) = true then (numF ((btL s).drop i)).map fun p => (⟨1, p.1, []⟩, p.2) else (wordF ((btL s).drop i)).map fun p => (⟨3, 0, p.1⟩, p.2)) := Lib.hid (by rw [HL.out]; exact valF_oth _ H34.out c63)
        clear c63 AT2 H34
        obtain ⟨Q, hQ⟩ : ∃ b : Bool, (c0 == 45 || fNum c0) = b := ⟨_, rfl⟩
        have HQ := Lib.hid hQ
        clear hQ
        go_upto_region 12 with fail
        go_cut [67] from 16 (fun v wx => v = .bool Q ∧ wx = w1)
        case first =>
          by_cases c45 : c0 = 45
          · have d3 : (c0 == 45) = true := beq_iff_eq.2 c45
            have e : Q = true := by rw [← HQ.out, d3]; rfl
            subst e
            clear c45
            go_wp2
            go_meet
            exact ⟨rfl, rfl⟩
          · have d3 : (c0 == 45) = false := beq_eq_false_iff_ne.2 c45
            have e : fNum c0 = Q := by rw [← HQ.out, d3]; rfl
            have CT := Lib.hid (fun W : World => rnumc_at c0 Q e W)
            clear c45 e
            go_wp2_with fail
            refine (CT.out _).mono ?_
            rintro e wx ⟨rfl, hw⟩
            subst wx
            go_wp2
            go_meet
            exact ⟨rfl, rfl⟩
        case rest =>
        obtain ⟨rfl, he⟩ := hcut
        have he := he.symm
        subst he
        cases Q with
        | true =>
          have HV2 : Hid (valF ((btL s).drop i) = (numF ((btL s).drop i)).map fun p => (⟨1, p.1, []⟩, p.2)) := Lib.hid (by rw [HV.out, if_pos HQ.out])
          clear HV HQ
          obtain ⟨neg, hneg⟩ : ∃ b, (c0 == 45) = b := ⟨_, rfl⟩
          obtain ⟨F, hF⟩ : ∃ F, (if neg = true then i + 1 else i) = F := ⟨_, rfl⟩
          have HNF : Hid (numF ((btL s).drop i) = digF neg ((btL s).drop F)) := Lib.hid (by
            rw [← hF]
            cases neg with
            | true =>
              rw [if_pos rfl, HL.out, beq_iff_eq.1 hneg]
              rfl
            | false =>
              rw [if_neg (by decide), HL.out]
              exact numF_ne (beq_eq_false_iff_ne.1 hneg) _)
          have hFi : i ≤ F ∧ F ≤ s.size := by rw [← hF]; split <;> omega
          have HFF := Lib.hid hF
          clear hF
          go_upto_if 70 with fail
          go_cut [1] from 16 (fun v wx => v = .int .i64 (F : Int) ∧ wx = w1)
          case first =>
            cases neg with
            | true =>
              have e : (i : Int) + 1 = (F : Int) := by rw [← HFF.out, if_pos rfl]; omega
              have hw1 : IntKind.i64.wrap ((i : Int) + 1) = (F : Int) := by rw [e]; exact IntWalk.i64_in _ (by omega)
              go_wp2
              go_meet
              exact ⟨rfl, rfl⟩
            | false =>
              have e : (F : Int) = (i : Int) := by rw [← HFF.out, if_neg (by decide)]
              go_wp2
              go_meet
              exact ⟨by rw [e], rfl⟩
          case rest =>
          obtain ⟨rfl, he⟩ := hcut
          have he := he.symm
          subst he
          have HNG := Lib.hid hneg
          clear hneg HFF
          go_wp2_with fail
          go_loop [1, 13] (fun j n => ∃ (k : Nat) (v : Nat), j = .int .i64 (k : Int) ∧ n = .int .i64 (v : Int) ∧ F ≤ k ∧ k ≤ s.size ∧ v < 10 ^ 16 ∧ Hid (k - F ≤ 16 → (v : Int) = fval 0 (((btL s).drop F).take (k - F)) ∧ v < 10 ^ (k - F)) ∧ Hid (((btL s).drop F).dropWhile fNum = ((btL s).drop k).dropWhile fNum)) (fun j _ => s.size - (intOf j).toNat)
          case atStart => exact ⟨F, 0, rfl, rfl, by omega, by omega, by decide, Lib.hid (fun _ => by rw [Nat.sub_self]; exact ⟨rfl, by decide⟩), Lib.hid rfl⟩
          case round =>
            obtain ⟨k, v, rfl, rfl, hik, hks, hv16, HVV, HD⟩ := hrel
            have hwkF : IntKind.i64.wrap ((k : Int) - (F : Int)) = (k : Int) - (F : Int) := IntWalk.i64_in _ (by omega)
            by_cases hlt2 : k < s.size
            · have kd : decide ((k : Int) < (s.size : Int)) = true := decide_eq_true (by omega)
              have kd2 : decide (k < s.size) = true := decide_eq_true hlt2
              obtain ⟨c, hc⟩ : ∃ d : Int, (s[k].toNat : Int) = d := ⟨_, rfl⟩
              have HDR : Hid ((btL s).drop k = c :: (btL s).drop (k + 1)) := Lib.hid (by rw [← hc]; exact ln_cons s k hlt2)
              have kx0 : (0 : Int) ≤ (k : Int) := by omega
              have kx1 : (k : Int) < (s.size : Int) := by omega
              cases hq : fNum c with
              | true =>
                have hcd := fNum_is hq
                have CT := Lib.hid (fun W : World => rnumc_at c true hq W)
                have HD2 : Hid (((btL s).drop F).dropWhile fNum = ((btL s).drop (k + 1)).dropWhile fNum) := Lib.hid (by rw [HD.out, HDR.out, List.dropWhile_cons, if_pos hq])
                have HTK : Hid (((btL s).drop F).take (k + 1 - F) = ((btL s).drop F).take (k - F) ++ [c]) := Lib.hid (by
                  have e : k + 1 - F = (k - F) + 1 := by omega
                  rw [e, List.take_add_one, List.getElem?_drop]
                  have e2 : (btL s)[F + (k - F)]? = some c := by
                    have := congrArg List.head? HDR.out
                    rw [List.head?_drop] at this
                    rw [show F + (k - F) = k from by omega, this]
                    rfl
                  rw [e2]
                  rfl)
                clear hq
                go_wp2_with fail
                refine (CT.out _).mono ?_
                rintro e wx ⟨rfl, hw⟩
                subst wx
                by_cases h16 : k - F < 16
                · have x16 : decide ((k : Int) - (F : Int) < 16) = true := decide_eq_true (by omega)
                  obtain ⟨hv1, hv2⟩ := HVV.out (by omega)
                  obtain ⟨u, hu⟩ : ∃ u : Nat, (u : Int) = 10 * (v : Int) + (c - 48) := ⟨(10 * (v : Int) + (c - 48)).toNat, by omega⟩
                  have w1 : IntKind.u8.wrap (c - 48) = c - 48 := by rw [IntKind.wrap_u8]; omega
                  have w2 : IntKind.i64.wrap (c - 48) = c - 48 := by rw [IntKind.wrap_i64]; omega
                  have w3 : IntKind.i64.wrap (10 * (v : Int)) = 10 * (v : Int) := IntWalk.i64_in _ (by omega)
                  have w4 : IntKind.i64.wrap (10 * (v : Int) + (c - 48)) = (u : Int) := by rw [← hu]; exact IntWalk.i64_in _ (by omega)
                  have hp : u < 10 ^ (k + 1 - F) := by
                    have e : k + 1 - F = (k - F) + 1 := by omega
                    rw [e, Nat.pow_succ]
                    omega
                  have hu16 : u < 10 ^ 16 := Nat.lt_of_lt_of_le hp (Nat.pow_le_pow_right (by decide) (by omega))
                  have HV3 : Hid (k + 1 - F ≤ 16 → (u : Int) = fval 0 (((btL s).drop F).take (k + 1 - F)) ∧ u < 10 ^ (k + 1 - F)) := Lib.hid (fun _ => ⟨by rw [HTK.out, fval_app, ← hv1, hu], hp⟩)
                  clear hv1 hv2 hp
                  go_wp2
                  go_round
                  case rel => exact ⟨k + 1, u, by go_num, by rw [hu], by omega, by omega, hu16, HV3, HD2⟩
                  case measure => simp [intOf]; omega
                · have x16 : decide ((k : Int) - (F : Int) < 16) = false := decide_eq_false (by omega)
                  have HV3 : Hid (k + 1 - F ≤ 16 → (v : Int) = fval 0 (((btL s).drop F).take (k + 1 - F)) ∧ v < 10 ^ (k + 1 - F)) := Lib.hid (fun h => by omega)
                  go_wp2
                  go_round
                  case rel => exact ⟨k + 1, v, by go_num, rfl, by omega, by omega, hv16, HV3, HD2⟩
                  case measure => simp [intOf]; omega
              | false =>
                have CT := Lib.hid (fun W : World => rnumc_at c false hq W)
                have HE : Hid (((btL s).drop F).dropWhile fNum = (btL s).drop k) := Lib.hid (by rw [HD.out, HDR.out, List.dropWhile_cons, if_neg (by rw [hq]; decide)])
                clear hq
                go_wp2_with fail
                refine (CT.out _).mono ?_
                rintro e wx ⟨rfl, hw⟩
                subst wx
                have HTW := Lib.hid (tw_of_dw (p := fNum) (l := (btL s).drop F) (m := k - F) (by rw [List.length_drop, btL_length]; omega) (by rw [HE.out, List.drop_drop]; congr 1; omega))
                have htl : (((btL s).drop F).take (k - F)).length = k - F := by rw [List.length_take, List.length_drop, btL_length]; omega
                have HTL := Lib.hid htl
                clear htl
                by_cases hm : k - F = 0 ∨ 15 < k - F
                · have HF : Hid (valF ((btL s).drop i) = none) := Lib.hid (by
                    rw [HV2.out, HNF.out]
                    unfold digF
                    rw [HTW.out, HTL.out, if_pos hm]
                    rfl)
                  by_cases hkF : k = F
                  · have x1 : ((k : Int) == (F : Int)) = true := beq_iff_eq.2 (by omega)
                    clear hm
                    have l0 := BX.out.lt
                    have c0 := BX.out.cell 0
                    have c1 := BX.out.cell 1
                    have c2 := BX.out.cell 2
                    have f0 := BX.out.free 0
                    have f1 := BX.out.free 1
                    have f2 := BX.out.free 2
                    go_wp2
                    have BX9 := Lib.hid (((BX.out.set 0 (.int .i64 0)).set 1 (.int .i64 0)).set 2 (.string ⟨#[]⟩))
                    have HB9 := Lib.hid (((HB1.out.setCell (p := ⟨rb, 0, none⟩) hrw.out (.int .i64 0)).setCell (p := ⟨rb, 1, none⟩) hrw.out (.int .i64 0)).setCell (p := ⟨rb, 2, none⟩) hrw.out (.string ⟨#[]⟩))
                    obtain ⟨w9, hw9⟩ : ∃ W, ((w1.setCell ⟨rb, 0, none⟩ (.int .i64 0)).setCell ⟨rb, 1, none⟩ (.int .i64 0)).setCell ⟨rb, 2, none⟩ (.string ⟨#[]⟩) = W := ⟨_, rfl⟩
                    rw [hw9] at BX9 HB9 ⊢
                    have s0 := BX9.out.cell 0
                    have s1 := BX9.out.cell 1
                    have s2 := BX9.out.cell 2
                    exact bodyPost_ret (v := .tuple #[.agg #[.int .i64 0, .int .i64 0, .string ⟨#[]⟩], .int .i64 (-1)]) (by simp [results, Tryz.results133, go_sem, s0, s1, s2]) rfl ⟨⟨0, 0, ⟨#[]⟩⟩, (-1), rfl, HB9.out, by decide, Or.inl ⟨HF.out, rfl⟩⟩
                  · have x1 : ((k : Int) == (F : Int)) = false := beq_eq_false_iff_ne.2 (by omega)
                    have x2 : decide (15 < (k : Int) - (F : Int)) = true := decide_eq_true (by omega)
                    clear hm hkF
                    have l0 := BX.out.lt
                    have c0 := BX.out.cell 0
                    have c1 := BX.out.cell 1
                    have c2 := BX.out.cell 2
                    have f0 := BX.out.free 0
                    have f1 := BX.out.free 1
                    have f2 := BX.out.free 2
                    go_wp2
                    have BX9 := Lib.hid (((BX.out.set 0 (.int .i64 0)).set 1 (.int .i64 0)).set 2 (.string ⟨#[]⟩))
                    have HB9 := Lib.hid (((HB1.out.setCell (p := ⟨rb, 0, none⟩) hrw.out (.int .i64 0)).setCell (p := ⟨rb, 1, none⟩) hrw.out (.int .i64 0)).setCell (p := ⟨rb, 2, none⟩) hrw.out (.string ⟨#[]⟩))
                    obtain ⟨w9, hw9⟩ : ∃ W, ((w1.setCell ⟨rb, 0, none⟩ (.int .i64 0)).setCell ⟨rb, 1, none⟩ (.int .i64 0)).setCell ⟨rb, 2, none⟩ (.string ⟨#[]⟩) = W := ⟨_, rfl⟩
                    rw [hw9] at BX9 HB9 ⊢
                    have s0 := BX9.out.cell 0
                    have s1 := BX9.out.cell 1
                    have s2 := BX9.out.cell 2
                    exact bodyPost_ret (v := .tuple #[.agg #[.int .i64 0, .int .i64 0, .string ⟨#[]⟩], .int .i64 (-1)]) (by simp [results, Tryz.results133, go_sem, s0, s1, s2]) rfl ⟨⟨0, 0, ⟨#[]⟩⟩, (-1), rfl, HB9.out, by decide, Or.inl ⟨HF.out, rfl⟩⟩
                · have hm2 : 0 < k - F ∧ k - F ≤ 15 := by omega
                  obtain ⟨hv1, _⟩ := HVV.out (by omega)
                  have HF : Hid (valF ((btL s).drop i) = some (⟨1, if neg = true then -(v : Int) else (v : Int), []⟩, (btL s).drop k)) := Lib.hid (by
                    rw [HV2.out, HNF.out]
                    unfold digF
                    rw [HTW.out, HTL.out, if_neg hm, HE.out, ← hv1]
                    rfl)
                  have x1 : ((k : Int) == (F : Int)) = false := beq_eq_false_iff_ne.2 (by omega)
                  have x2 : decide (15 < (k : Int) - (F : Int)) = false := decide_eq_false (by omega)
                  have ix0 : (0 : Int) ≤ (i : Int) := by omega
                  have ix1 : (i : Int) < (s.size : Int) := by omega
                  have si : (s[i].toNat : Int) = c0 := by
                    have := congrArg List.head? (HL.out.symm.trans (ln_cons s i hlt))
                    injection this with this
                    exact this.symm
                  have HNG2 := HNG.out
                  clear hm hv1 HVV
                  cases neg with
                  | true =>
                    have w5 : IntKind.i64.wrap (-(v : Int)) = -(v : Int) := IntWalk.i64_in _ (by omega)
                    have l0 := BX.out.lt
                    have c0 := BX.out.cell 0
                    have c1 := BX.out.cell 1
                    have c2 := BX.out.cell 2
                    have f0 := BX.out.free 0
                    have f1 := BX.out.free 1
                    have f2 := BX.out.free 2
                    go_wp2
                    have BX9 := Lib.hid (((BX.out.set 0 (.int .i64 1)).set 1 (.int .i64 (-(v : Int)))).set 2 (.string ⟨#[]⟩))
                    have HB9 := Lib.hid (((HB1.out.setCell (p := ⟨rb, 0, none⟩) hrw.out (.int .i64 1)).setCell (p := ⟨rb, 1, none⟩) hrw.out (.int .i64 (-(v : Int)))).setCell (p := ⟨rb, 2, none⟩) hrw.out (.string ⟨#[]⟩))
                    obtain ⟨w9, hw9⟩ : ∃ W, ((w1.setCell ⟨rb, 0, none⟩ (.int .i64 1)).setCell ⟨rb, 1, none⟩ (.int .i64 (-(v : Int)))).setCell ⟨rb, 2, none⟩ (.string ⟨#[]⟩) = W := ⟨_, rfl⟩
                    rw [hw9] at BX9 HB9 ⊢
                    have s0 := BX9.out.cell 0
                    have s1 := BX9.out.cell 1
                    have s2 := BX9.out.cell 2
                    exact bodyPost_ret (v := .tuple #[.agg #[.int .i64 1, .int .i64 (-(v : Int)), .string ⟨#[]⟩], .int .i64 (k : Int)]) (by simp [results, Tryz.results133, go_sem, s0, s1, s2]) rfl ⟨⟨1, (-(v : Int)), ⟨#[]⟩⟩, (k : Int), rfl, HB9.out, Nat.zero_le 1000000, Or.inr ⟨k, by omega, hks, rfl, HF.out⟩⟩
                  | false =>
                    have l0 := BX.out.lt
                    have c0 := BX.out.cell 0
                    have c1 := BX.out.cell 1
                    have c2 := BX.out.cell 2
                    have f0 := BX.out.free 0
                    have f1 := BX.out.free 1
                    have f2 := BX.out.free 2
                    go_wp2
                    have BX9 := Lib.hid (((BX.out.set 0 (.int .i64 1)).set 1 (.int .i64 (v : Int))).set 2 (.string ⟨#[]⟩))
                    have HB9 := Lib.hid (((HB1.out.setCell (p := ⟨rb, 0, none⟩) hrw.out (.int .i64 1)).setCell (p := ⟨rb, 1, none⟩) hrw.out (.int .i64 (v : Int))).setCell (p := ⟨rb, 2, none⟩) hrw.out (.string ⟨#[]⟩))
                    obtain ⟨w9, hw9⟩ : ∃ W, ((w1.setCell ⟨rb, 0, none⟩ (.int .i64 1)).setCell ⟨rb, 1, none⟩ (.int .i64 (v : Int))).setCell ⟨rb, 2, none⟩ (.string ⟨#[]⟩) = W := ⟨_, rfl⟩
                    rw [hw9] at BX9 HB9 ⊢
                    have s0 := BX9.out.cell 0
                    have s1 := BX9.out.cell 1
                    have s2 := BX9.out.cell 2
                    exact bodyPost_ret (v := .tuple #[.agg #[.int .i64 1, .int .i64 (v : Int), .string ⟨#[]⟩], .int .i64 (k : Int)]) (by simp [results, Tryz.results133, go_sem, s0, s1, s2]) rfl ⟨⟨1, (v : Int), ⟨#[]⟩⟩, (k : Int), rfl, HB9.out, Nat.zero_le 1000000, Or.inr ⟨k, by omega, hks, rfl, HF.out⟩⟩
            · have kd : decide ((k : Int) < (s.size : Int)) = false := decide_eq_false (by omega)
              have kd2 : decide (k < s.size) = false := decide_eq_false hlt2
              have HE : Hid (((btL s).drop F).dropWhile fNum = (btL s).drop k) := Lib.hid (by rw [HD.out, List.drop_eq_nil_of_le (by rw [btL_length]; omega)]; rfl)
              have HTW := Lib.hid (tw_of_dw (p := fNum) (l := (btL s).drop F) (m := k - F) (by rw [List.length_drop, btL_length]; omega) (by rw [HE.out, List.drop_drop]; congr 1; omega))
              have htl : (((btL s).drop F).take (k - F)).length = k - F := by rw [List.length_take, List.length_drop, btL_length]; omega
              have HTL := Lib.hid htl
              clear htl
              by_cases hm : k - F = 0 ∨ 15 < k - F
              · have HF : Hid (valF ((btL s).drop i) = none) := Lib.hid (by
                  rw [HV2.out, HNF.out]
                  unfold digF
                  rw [HTW.out, HTL.out, if_pos hm]
                  rfl)
                by_cases hkF : k = F
                · have x1 : ((k : Int) == (F : Int)) = true := beq_iff_eq.2 (by omega)
                  clear hm
                  have l0 := BX.out.lt
                  have c0 := BX.out.cell 0
                  have c1 := BX.out.cell 1
                  have c2 := BX.out.cell 2
                  have f0 := BX.out.free 0
                  have f1 := BX.out.free 1
                  have f2 := BX.out.free 2
                  go_wp2
                  have BX9 := Lib.hid (((BX.out.set 0 (.int .i64 0)).set 1 (.int .i64 0)).set 2 (.string ⟨#[]⟩))
                  have HB9 := Lib.hid (((HB1.out.setCell (p := ⟨rb, 0, none⟩) hrw.out (.int .i64 0)).setCell (p := ⟨rb, 1, none⟩) hrw.out (.int .i64 0)).setCell (p := ⟨rb, 2, none⟩) hrw.out (.string ⟨#[]⟩))
                  obtain ⟨w9, hw9⟩ : ∃ W, ((w1.setCell ⟨rb, 0, none⟩ (.int .i64 0)).setCell ⟨rb, 1, none⟩ (.int .i64 0)).setCell ⟨rb, 2, none⟩ (.string ⟨#[]⟩) = W := ⟨_, rfl⟩
                  rw [hw9] at BX9 HB9 ⊢
                  have s0 := BX9.out.cell 0
                  have s1 := BX9.out.cell 1
                  have s2 := BX9.out.cell 2
                  exact bodyPost_ret (v := .tuple #[.agg #[.int .i64 0, .int .i64 0, .string ⟨#[]⟩], .int .i64 (-1)]) (by simp [results, Tryz.results133, go_sem, s0, s1, s2]) rfl ⟨⟨0, 0, ⟨#[]⟩⟩, (-1), rfl, HB9.out, by decide, Or.inl ⟨HF.out, rfl⟩⟩
                · have x1 : ((k : Int) == (F : Int)) = false := beq_eq_false_iff_ne.2 (by omega)
                  have x2 : decide (15 < (k : Int) - (F : Int)) = true := decide_eq_true (by omega)
                  clear hm hkF
                  have l0 := BX.out.lt
                  have c0 := BX.out.cell 0
                  have c1 := BX.out.cell 1
                  have c2 := BX.out.cell 2
                  have f0 := BX.out.free 0
                  have f1 := BX.out.free 1
                  have f2 := BX.out.free 2
                  go_wp2
                  have BX9 := Lib.hid (((BX.out.set 0 (.int .i64 0)).set 1 (.int .i64 0)).set 2 (.string ⟨#[]⟩))
                  have HB9 := Lib.hid (((HB1.out.setCell (p := ⟨rb, 0, none⟩) hrw.out (.int .i64 0)).setCell (p := ⟨rb, 1, none⟩) hrw.out (.int .i64 0)).setCell (p := ⟨rb, 2, none⟩) hrw.out (.string ⟨#[]⟩))
                  obtain ⟨w9, hw9⟩ : ∃ W, ((w1.setCell ⟨rb, 0, none⟩ (.int .i64 0)).setCell ⟨rb, 1, none⟩ (.int .i64 0)).setCell ⟨rb, 2, none⟩ (.string ⟨#[]⟩) = W := ⟨_, rfl⟩
                  rw [hw9] at BX9 HB9 ⊢
                  have s0 := BX9.out.cell 0
                  have s1 := BX9.out.cell 1
                  have s2 := BX9.out.cell 2
                  exact bodyPost_ret (v := .tuple #[.agg #[.int .i64 0, .int .i64 0, .string ⟨#[]⟩], .int .i64 (-1)]) (by simp [results, Tryz.results133, go_sem, s0, s1, s2]) rfl ⟨⟨0, 0, ⟨#[]⟩⟩, (-1), rfl, HB9.out, by decide, Or.inl ⟨HF.out, rfl⟩⟩
              · have hm2 : 0 < k - F ∧ k - F ≤ 15 := by omega
                obtain ⟨hv1, _⟩ := HVV.out (by omega)
                have HF : Hid (valF ((btL s).drop i) = some (⟨1, if neg = true then -(v : Int) else (v : Int), []⟩, (btL s).drop k)) := Lib.hid (by
                  rw [HV2.out, HNF.out]
                  unfold digF
                  rw [HTW.out, HTL.out, if_neg hm, HE.out, ← hv1]
                  rfl)
                have x1 : ((k : Int) == (F : Int)) = false := beq_eq_false_iff_ne.2 (by omega)
                have x2 : decide (15 < (k : Int) - (F : Int)) = false := decide_eq_false (by omega)
                have ix0 : (0 : Int) ≤ (i : Int) := by omega
                have ix1 : (i : Int) < (s.size : Int) := by omega
                have si : (s[i].toNat : Int) = c0 := by
                  have := congrArg List.head? (HL.out.symm.trans (ln_cons s i hlt))
                  injection this with this
                  exact this.symm
                have HNG2 := HNG.out
                clear hm hv1 HVV
                cases neg with
                | true =>
                  have w5 : IntKind.i64.wrap (-(v : Int)) = -(v : Int) := IntWalk.i64_in _ (by omega)
                  have l0 := BX.out.lt
                  have c0 := BX.out.cell 0
                  have c1 := BX.out.cell 1
                  have c2 := BX.out.cell 2
                  have f0 := BX.out.free 0
                  have f1 := BX.out.free 1
                  have f2 := BX.out.free 2
                  go_wp2
                  have BX9 := Lib.hid (((BX.out.set 0 (.int .i64 1)).set 1 (.int .i64 (-(v : Int)))).set 2 (.string ⟨#[]⟩))
                  have HB9 := Lib.hid (((HB1.out.setCell (p := ⟨rb, 0, none⟩) hrw.out (.int .i64 1)).setCell (p := ⟨rb, 1, none⟩) hrw.out (.int .i64 (-(v : Int)))).setCell (p := ⟨rb, 2, none⟩) hrw.out (.string ⟨#[]⟩))
                  obtain ⟨w9, hw9⟩ : ∃ W, ((w1.setCell ⟨rb, 0, none⟩ (.int .i64 1)).setCell ⟨rb, 1, none⟩ (.int .i64 (-(v : Int)))).setCell ⟨rb, 2, none⟩ (.string ⟨#[]⟩) = W := ⟨_, rfl⟩
                  rw [hw9] at BX9 HB9 ⊢
                  have s0 := BX9.out.cell 0
                  have s1 := BX9.out.cell 1
                  have s2 := BX9.out.cell 2
                  exact bodyPost_ret (v := .tuple #[.agg #[.int .i64 1, .int .i64 (-(v : Int)), .string ⟨#[]⟩], .int .i64 (k : Int)]) (by simp [results, Tryz.results133, go_sem, s0, s1, s2]) rfl ⟨⟨1, (-(v : Int)), ⟨#[]⟩⟩, (k : Int), rfl, HB9.out, Nat.zero_le 1000000, Or.inr ⟨k, by omega, hks, rfl, HF.out⟩⟩
                | false =>
                  have l0 := BX.out.lt
                  have c0 := BX.out.cell 0
                  have c1 := BX.out.cell 1
                  have c2 := BX.out.cell 2
                  have f0 := BX.out.free 0
                  have f1 := BX.out.free 1
                  have f2 := BX.out.free 2
                  go_wp2
                  have BX9 := Lib.hid (((BX.out.set 0 (.int .i64 1)).set 1 (.int .i64 (v : Int))).set 2 (.string ⟨#[]⟩))
                  have HB9 := Lib.hid (((HB1.out.setCell (p := ⟨rb, 0, none⟩) hrw.out (.int .i64 1)).setCell (p := ⟨rb, 1, none⟩) hrw.out (.int .i64 (v : Int))).setCell (p := ⟨rb, 2, none⟩) hrw.out (.string ⟨#[]⟩))
                  obtain ⟨w9, hw9⟩ : ∃ W, ((w1.setCell ⟨rb, 0, none⟩ (.int .i64 1)).setCell ⟨rb, 1, none⟩ (.int .i64 (v : Int))).setCell ⟨rb, 2, none⟩ (.string ⟨#[]⟩) = W := ⟨_, rfl⟩
                  rw [hw9] at BX9 HB9 ⊢
                  have s0 := BX9.out.cell 0
                  have s1 := BX9.out.cell 1
                  have s2 := BX9.out.cell 2
                  exact bodyPost_ret (v := .tuple #[.agg #[.int .i64 1, .int .i64 (v : Int), .string ⟨#[]⟩], .int .i64 (k : Int)]) (by simp [results, Tryz.results133, go_sem, s0, s1, s2]) rfl ⟨⟨1, (v : Int), ⟨#[]⟩⟩, (k : Int), rfl, HB9.out, Nat.zero_le 1000000, Or.inr ⟨k, by omega, hks, rfl, HF.out⟩⟩
        | false =>
          have HV2 : Hid (valF ((btL s).drop i) = (wordF ((btL s).drop i)).map fun p => (⟨3, 0, p.1⟩, p.2)) := Lib.hid (by rw [HV.out, if_neg (by rw [HQ.out]; decide)])
          clear HV HQ
          obtain ⟨Q, hQ⟩ : ∃ b : Bool, (!((fLow c0 || fUp c0) || c0 == 42)) = b := ⟨_, rfl⟩
          have HQ := Lib.hid hQ
          clear hQ
          go_upto_region 26 with fail
          go_cut [132] from 16 (fun v wx => v = .bool Q ∧ wx = w1)
          case first =>
            cases hq : fLow c0 with
            | true =>
              have e : Q = false := by rw [← HQ.out, hq]; rfl
              subst e
              have CT := Lib.hid (fun W : World => rlow_at c0 true hq W)
              clear hq
              go_wp2_with fail
              refine (CT.out _).mono ?_
              rintro e wx ⟨rfl, hw⟩
              subst wx
              go_wp2
              go_meet
              exact ⟨rfl, rfl⟩
            | false =>
              have CT := Lib.hid (fun W : World => rlow_at c0 false hq W)
              obtain ⟨p1, hp1⟩ : ∃ b, decide (65 ≤ c0) = b := ⟨_, rfl⟩
              obtain ⟨p2, hp2⟩ : ∃ b, decide (c0 ≤ 90) = b := ⟨_, rfl⟩
              obtain ⟨p3, hp3⟩ : ∃ b, (c0 == 42) = b := ⟨_, rfl⟩
              have e : (!((p1 && p2) || p3)) = Q := by rw [← HQ.out, hq, ← hp1, ← hp2, ← hp3]; rfl
              have E := Lib.hid e
              have hne : (c0 != 42) = !p3 := by rw [← hp3]; rfl
              clear hq e
              go_wp2_with fail
              refine (CT.out _).mono ?_
              rintro e wx ⟨rfl, hw⟩
              subst wx
              cases p1 with
              | true =>
                cases p2 with
                | true =>
                  have e : Q = false := by rw [← E.out]; rfl
                  subst e
                  go_wp2
                  go_meet
                  exact ⟨rfl, rfl⟩
                | false =>
                  cases p3 with
                  | true =>
                    have e : Q = false := by rw [← E.out]; rfl
                    subst e
                    go_wp2
                    go_meet
                    exact ⟨rfl, rfl⟩
                  | false =>
                    have e : Q = true := by rw [← E.out]; rfl
                    subst e
                    go_wp2
                    go_meet
                    exact ⟨rfl, rfl⟩
              | false =>
                cases p3 with
                | true =>
                  have e : Q = false := by rw [← E.out]; simp
                  subst e
                  go_wp2
                  go_meet
                  exact ⟨rfl, rfl⟩
                | false =>
                  have e : Q = true := by rw [← E.out]; simp
                  subst e
                  go_wp2
                  go_meet
                  exact ⟨rfl, rfl⟩
          case rest =>
          obtain ⟨rfl, he⟩ := hcut
          have he := he.symm
          subst he
          cases Q with
          | true =>
            have HF : Hid (valF ((btL s).drop i) = none) := Lib.hid (by
              rw [HV2.out, HL.out]
              have hn : ((fLow c0 || fUp c0) || c0 == 42) = false := by
                have := HQ.out
                cases hh : ((fLow c0 || fUp c0) || c0 == 42) with
                | true => rw [hh] at this; cases this
                | false => rfl
              have : wordF (c0 :: (btL s).drop (i + 1)) = none := by
                show (if ((fLow c0 || fUp c0) || c0 == 42) = true then _ else none) = _
                rw [if_neg (by rw [hn]; decide)]
              rw [this]
              rfl)
            have l0 := BX.out.lt
            have c0 := BX.out.cell 0
            have c1 := BX.out.cell 1
            have c2 := BX.out.cell 2
            have f0 := BX.out.free 0
            have f1 := BX.out.free 1
            have f2 := BX.out.free 2
            go_wp2
            have BX9 := Lib.hid (((BX.out.set 0 (.int .i64 0)).set 1 (.int .i64 0)).set 2 (.string ⟨#[]⟩))
            have HB9 := Lib.hid (((HB1.out.setCell (p := ⟨rb, 0, none⟩) hrw.out (.int .i64 0)).setCell (p := ⟨rb, 1, none⟩) hrw.out (.int .i64 0)).setCell (p := ⟨rb, 2, none⟩) hrw.out (.string ⟨#[]⟩))
            obtain ⟨w9, hw9⟩ : ∃ W, ((w1.setCell ⟨rb, 0, none⟩ (.int .i64 0)).setCell ⟨rb, 1, none⟩ (.int .i64 0)).setCell ⟨rb, 2, none⟩ (.string ⟨#[]⟩) = W := ⟨_, rfl⟩
            rw [hw9] at BX9 HB9 ⊢
            have s0 := BX9.out.cell 0
            have s1 := BX9.out.cell 1
            have s2 := BX9.out.cell 2
            exact bodyPost_ret (v := .tuple #[.agg #[.int .i64 0, .int .i64 0, .string ⟨#[]⟩], .int .i64 (-1)]) (by simp [results, Tryz.results133, go_sem, s0, s1, s2]) rfl ⟨⟨0, 0, ⟨#[]⟩⟩, (-1), rfl, HB9.out, by decide, Or.inl ⟨HF.out, rfl⟩⟩
          | false =>
            have HWF : Hid (wordF ((btL s).drop i) = some (((btL s).drop i).takeWhile wordC, ((btL s).drop i).dropWhile wordC)) := Lib.hid (by
              have hn : ((fLow c0 || fUp c0) || c0 == 42) = true := by
                have := HQ.out
                cases hh : ((fLow c0 || fUp c0) || c0 == 42) with
                | false => rw [hh] at this; cases this
                | true => rfl
              rw [HL.out]
              show (if ((fLow c0 || fUp c0) || c0 == 42) = true then _ else none) = _
              rw [if_pos hn])
            clear HQ
            go_wp2_with fail
            go_loop [1] (fun j => ∃ k : Nat, j = .int .i64 (k : Int) ∧ i ≤ k ∧ k ≤ s.size ∧ Hid (((btL s).drop i).dropWhile wordC = ((btL s).drop k).dropWhile wordC)) (fun j => s.size - (intOf j).toNat)
            case atStart => exact ⟨i, rfl, by omega, by omega, Lib.hid rfl⟩
            case round =>
              obtain ⟨k, rfl, hik, hks, HD⟩ := hrel
              by_cases hlt : k < s.size
              · have kd : decide ((k : Int) < (s.size : Int)) = true := decide_eq_true (by omega)
                have kd2 : decide (k < s.size) = true := decide_eq_true hlt
                obtain ⟨c, hc⟩ : ∃ d : Int, (s[k].toNat : Int) = d := ⟨_, rfl⟩
                have HDR : Hid ((btL s).drop k = c :: (btL s).drop (k + 1)) := Lib.hid (by rw [← hc]; exact ln_cons s k hlt)
                have kx0 : (0 : Int) ≤ (k : Int) := by omega
                have kx1 : (k : Int) < (s.size : Int) := by omega
                obtain ⟨b0, hb0⟩ : ∃ b, fLow c = b := ⟨_, rfl⟩
                obtain ⟨p1, hp1⟩ : ∃ b, decide (65 ≤ c) = b := ⟨_, rfl⟩
                obtain ⟨p2, hp2⟩ : ∃ b, decide (c ≤ 90) = b := ⟨_, rfl⟩
                obtain ⟨b2, hb2⟩ : ∃ b, fNum c = b := ⟨_, rfl⟩
                obtain ⟨b3, hb3⟩ : ∃ b, ([95, 45, 46, 42, 33, 35, 36, 37, 38, 39, 43, 94, 124, 126, 58, 47] : List Int).contains c = b := ⟨_, rfl⟩
                have HWC : Hid (wordC c = (b0 || (p1 && p2) || b2 || b3)) := Lib.hid (by rw [← hb0, ← hp1, ← hp2, ← hb2, ← hb3]; rfl)
                have C0 := Lib.hid (fun W : World => rlow_at c b0 hb0 W)
                have C2 := Lib.hid (fun W : World => rnumc_at c b2 hb2 W)
                have C3 := Lib.hid (fun W : World => rin_at ⟨#[95, 45, 46, 42, 33, 35, 36, 37, 38, 39, 43, 94, 124, 126, 58, 47]⟩ (by decide) c b3 hb3 W)
                clear hb0 hb2 hb3
                go_wp2_with fail
                refine (C0.out _).mono ?_
                rintro e wx ⟨rfl, hw⟩
                subst wx
                cases b0 with
                | true =>
                  have HK : Hid (wordC c = true) := Lib.hid (by rw [HWC.out]; rfl)
                  clear C2 C3
                  have HD2 : Hid (((btL s).drop i).dropWhile wordC = ((btL s).drop (k + 1)).dropWhile wordC) := Lib.hid (by rw [HD.out, HDR.out, List.dropWhile_cons, if_pos HK.out])
                  go_wp2
                  go_round
                  case rel => exact ⟨k + 1, by go_num, by omega, by omega, HD2⟩
                  case measure => simp [intOf]; omega
                | false =>
                  cases p1 with
                  | true =>
                    cases p2 with
                    | true =>
                      have HK : Hid (wordC c = true) := Lib.hid (by rw [HWC.out]; rfl)
                      have HD2 : Hid (((btL s).drop i).dropWhile wordC = ((btL s).drop (k + 1)).dropWhile wordC) := Lib.hid (by rw [HD.out, HDR.out, List.dropWhile_cons, if_pos HK.out])
                      go_wp2
                      go_round
                      case rel => exact ⟨k + 1, by go_num, by omega, by omega, HD2⟩
                      case measure => simp [intOf]; omega
                    | false =>
                      go_wp2_with fail
                      refine (C2.out _).mono ?_
                      rintro e wx ⟨rfl, hw⟩
                      subst wx
                      cases b2 with
                      | true =>
                        have HK : Hid (wordC c = true) := Lib.hid (by rw [HWC.out]; simp)
                        have HD2 : Hid (((btL s).drop i).dropWhile wordC = ((btL s).drop (k + 1)).dropWhile wordC) := Lib.hid (by rw [HD.out, HDR.out, List.dropWhile_cons, if_pos HK.out])
                        go_wp2
                        go_round
                        case rel => exact ⟨k + 1, by go_num, by omega, by omega, HD2⟩
                        case measure => simp [intOf]; omega
                      | false =>
                        go_wp2_with fail
                        refine (C3.out _).mono ?_
                        rintro e wx ⟨rfl, hw⟩
                        subst wx
                        cases b3 with
                        | true =>
                          have HK : Hid (wordC c = true) := Lib.hid (by rw [HWC.out]; simp)
                          have HD2 : Hid (((btL s).drop i).dropWhile wordC = ((btL s).drop (k + 1)).dropWhile wordC) := Lib.hid (by rw [HD.out, HDR.out, List.dropWhile_cons, if_pos HK.out])
                          go_wp2
                          go_round
                          case rel => exact ⟨k + 1, by go_num, by omega, by omega, HD2⟩
                          case measure => simp [intOf]; omega
                        | false =>
                          have HNW : Hid (¬ wordC c = true) := Lib.hid (by rw [HWC.out]; simp)
                          have HE : Hid (((btL s).drop i).dropWhile wordC = (btL s).drop k) := Lib.hid (by rw [HD.out, HDR.out, List.dropWhile_cons, if_neg (by exact HNW.out)])
                          have HF : Hid (valF ((btL s).drop i) = some (⟨3, 0, btL (s.extract i k)⟩, (btL s).drop k)) := Lib.hid (by rw [HV2.out, HWF.out, HE.out, dw_drop hik hks HE.out]; rfl)
                          have hez : (s.extract i k).size ≤ 1000000 := by simp; omega
                          obtain ⟨x, hx⟩ : ∃ x, s.extract i k = x := ⟨_, rfl⟩
                          rw [hx] at HF hez
                          have hkn : (k : Int) ≤ (s.size : Int) := by omega
                          have hin : (i : Int) ≤ (k : Int) := by omega
                          have i0 : (0 : Int) ≤ (i : Int) := by omega
                          have l0 := BX.out.lt
                          have c0 := BX.out.cell 0
                          have c1 := BX.out.cell 1
                          have c2 := BX.out.cell 2
                          have f0 := BX.out.free 0
                          have f1 := BX.out.free 1
                          have f2 := BX.out.free 2
                          go_wp2
                          have BX9 := Lib.hid (((BX.out.set 0 (.int .i64 3)).set 1 (.int .i64 0)).set 2 (.string x))
                          have HB9 := Lib.hid (((HB1.out.setCell (p := ⟨rb, 0, none⟩) hrw.out (.int .i64 3)).setCell (p := ⟨rb, 1, none⟩) hrw.out (.int .i64 0)).setCell (p := ⟨rb, 2, none⟩) hrw.out (.string x))
                          obtain ⟨w9, hw9⟩ : ∃ W, ((w1.setCell ⟨rb, 0, none⟩ (.int .i64 3)).setCell ⟨rb, 1, none⟩ (.int .i64 0)).setCell ⟨rb, 2, none⟩ (.string x) = W := ⟨_, rfl⟩
                          rw [hw9] at BX9 HB9 ⊢
                          have s0 := BX9.out.cell 0
                          have s1 := BX9.out.cell 1
                          have s2 := BX9.out.cell 2
                          exact bodyPost_ret (v := .tuple #[.agg #[.int .i64 3, .int .i64 0, .string x], .int .i64 (k : Int)]) (by simp [results, Tryz.results133, go_sem, s0, s1, s2]) rfl ⟨⟨3, 0, x⟩, (k : Int), rfl, HB9.out, hez, Or.inr ⟨k, hik, hks, rfl, HF.out⟩⟩
                  | false =>
                    go_wp2_with fail
                    refine (C2.out _).mono ?_
                    rintro e wx ⟨rfl, hw⟩
                    subst wx
                    cases b2 with
                    | true =>
                      have HK : Hid (wordC c = true) := Lib.hid (by rw [HWC.out]; simp)
                      have HD2 : Hid (((btL s).drop i).dropWhile wordC = ((btL s).drop (k + 1)).dropWhile wordC) := Lib.hid (by rw [HD.out, HDR.out, List.dropWhile_cons, if_pos HK.out])
                      go_wp2
                      go_round
                      case rel => exact ⟨k + 1, by go_num, by omega, by omega, HD2⟩
                      case measure => simp [intOf]; omega
                    | false =>
                      go_wp2_with fail
                      refine (C3.out _).mono ?_
                      rintro e wx ⟨rfl, hw⟩
                      subst wx
                      cases b3 with
                      | true =>
                        have HK : Hid (wordC c = true) := Lib.hid (by rw [HWC.out]; simp)
                        have HD2 : Hid (((btL s).drop i).dropWhile wordC = ((btL s).drop (k + 1)).dropWhile wordC) := Lib.hid (by rw [HD.out, HDR.out, List.dropWhile_cons, if_pos HK.out])
                        go_wp2
                        go_round
                        case rel => exact ⟨k + 1, by go_num, by omega, by omega, HD2⟩
                        case measure => simp [intOf]; omega
                      | false =>
                        have HNW : Hid (¬ wordC c = true) := Lib.hid (by rw [HWC.out]; simp)
                        have HE : Hid (((btL s).drop i).dropWhile wordC = (btL s).drop k) := Lib.hid (by rw [HD.out, HDR.out, List.dropWhile_cons, if_neg (by exact HNW.out)])
                        have HF : Hid (valF ((btL s).drop i) = some (⟨3, 0, btL (s.extract i k)⟩, (btL s).drop k)) := Lib.hid (by rw [HV2.out, HWF.out, HE.out, dw_drop hik hks HE.out]; rfl)
                        have hez : (s.extract i k).size ≤ 1000000 := by simp; omega
                        obtain ⟨x, hx⟩ : ∃ x, s.extract i k = x := ⟨_, rfl⟩
                        rw [hx] at HF hez
                        have hkn : (k : Int) ≤ (s.size : Int) := by omega
                        have hin : (i : Int) ≤ (k : Int) := by omega
                        have i0 : (0 : Int) ≤ (i : Int) := by omega
                        have l0 := BX.out.lt
                        have c0 := BX.out.cell 0
                        have c1 := BX.out.cell 1
                        have c2 := BX.out.cell 2
                        have f0 := BX.out.free 0
                        have f1 := BX.out.free 1
                        have f2 := BX.out.free 2
                        go_wp2
                        have BX9 := Lib.hid (((BX.out.set 0 (.int .i64 3)).set 1 (.int .i64 0)).set 2 (.string x))
                        have HB9 := Lib.hid (((HB1.out.setCell (p := ⟨rb, 0, none⟩) hrw.out (.int .i64 3)).setCell (p := ⟨rb, 1, none⟩) hrw.out (.int .i64 0)).setCell (p := ⟨rb, 2, none⟩) hrw.out (.string x))
                        obtain ⟨w9, hw9⟩ : ∃ W, ((w1.setCell ⟨rb, 0, none⟩ (.int .i64 3)).setCell ⟨rb, 1, none⟩ (.int .i64 0)).setCell ⟨rb, 2, none⟩ (.string x) = W := ⟨_, rfl⟩
                        rw [hw9] at BX9 HB9 ⊢
                        have s0 := BX9.out.cell 0
                        have s1 := BX9.out.cell 1
                        have s2 := BX9.out.cell 2
                        exact bodyPost_ret (v := .tuple #[.agg #[.int .i64 3, .int .i64 0, .string x], .int .i64 (k : Int)]) (by simp [results, Tryz.results133, go_sem, s0, s1, s2]) rfl ⟨⟨3, 0, x⟩, (k : Int), rfl, HB9.out, hez, Or.inr ⟨k, hik, hks, rfl, HF.out⟩⟩
              · have kd : decide ((k : Int) < (s.size : Int)) = false := decide_eq_false (by omega)
                have kd2 : decide (k < s.size) = false := decide_eq_false hlt
                have HE : Hid (((btL s).drop i).dropWhile wordC = (btL s).drop k) := Lib.hid (by rw [HD.out, List.drop_eq_nil_of_le (by rw [btL_length]; omega)]; rfl)
                have HF : Hid (valF ((btL s).drop i) = some (⟨3, 0, btL (s.extract i k)⟩, (btL s).drop k)) := Lib.hid (by rw [HV2.out, HWF.out, HE.out, dw_drop hik hks HE.out]; rfl)
                have hez : (s.extract i k).size ≤ 1000000 := by simp; omega
                obtain ⟨x, hx⟩ : ∃ x, s.extract i k = x := ⟨_, rfl⟩
                rw [hx] at HF hez
                have hkn : (k : Int) ≤ (s.size : Int) := by omega
                have hin : (i : Int) ≤ (k : Int) := by omega
                have i0 : (0 : Int) ≤ (i : Int) := by omega
                have l0 := BX.out.lt
                have c0 := BX.out.cell 0
                have c1 := BX.out.cell 1
                have c2 := BX.out.cell 2
                have f0 := BX.out.free 0
                have f1 := BX.out.free 1
                have f2 := BX.out.free 2
                go_wp2
                have BX9 := Lib.hid (((BX.out.set 0 (.int .i64 3)).set 1 (.int .i64 0)).set 2 (.string x))
                have HB9 := Lib.hid (((HB1.out.setCell (p := ⟨rb, 0, none⟩) hrw.out (.int .i64 3)).setCell (p := ⟨rb, 1, none⟩) hrw.out (.int .i64 0)).setCell (p := ⟨rb, 2, none⟩) hrw.out (.string x))
                obtain ⟨w9, hw9⟩ : ∃ W, ((w1.setCell ⟨rb, 0, none⟩ (.int .i64 3)).setCell ⟨rb, 1, none⟩ (.int .i64 0)).setCell ⟨rb, 2, none⟩ (.string x) = W := ⟨_, rfl⟩
                rw [hw9] at BX9 HB9 ⊢
                have s0 := BX9.out.cell 0
                have s1 := BX9.out.cell 1
                have s2 := BX9.out.cell 2
                exact bodyPost_ret (v := .tuple #[.agg #[.int .i64 3, .int .i64 0, .string x], .int .i64 (k : Int)]) (by simp [results, Tryz.results133, go_sem, s0, s1, s2]) rfl ⟨⟨3, 0, x⟩, (k : Int), rfl, HB9.out, hez, Or.inr ⟨k, hik, hks, rfl, HF.out⟩⟩
/-- What is behind a key. -/
def behF (l : List Int) : Option (FVal × List Int) := match l with
  | 61 :: r => valF r
  | r => some (flagV 1, r)
end Go.Proofs.YtodibjpojfipoaaGreatDoor
/- The document's fields: behind, item. -/
namespace Go.Proofs.YtodibjpojfipoaaGreatDoor
open Go Go.RowKit
set_option linter.unusedVariables false
set_option linter.unusedSimpArgs false
set_option maxRecDepth 10000

theorem behF_eq (r : List Int) : behF (61 :: r) = valF r := rfl
theorem behF_ne {l : List Int} (h : ∀ r, l ≠ 61 :: r) : behF l = some (flagV 1, l) := by
  unfold behF
  split
  · rename_i r
    exact absurd rfl (h r)
  · rfl
theorem pairF_beh {l k r : List Int} (h : keyF l = some (k, r)) : pairF l = (behF r).map fun p => ((k, p.1), p.2) := by
  by_cases hr : ∃ q, r = 61 :: q
  · obtain ⟨q, rfl⟩ := hr
    rw [pairF_eq h, behF_eq]
  · rw [pairF_ne h (fun q e => hr ⟨q, e⟩), behF_ne (fun q e => hr ⟨q, e⟩)]
    rfl
def BhP (s : ByteArray) (i : Nat) (w : World) (e : Ending) (w' : World) : Prop := ∃ (v : VB) (r : Int), e = .returned (.tuple #[.agg #[.int .i64 v.k, .int .i64 v.n, .string v.s], .int .i64 r]) ∧ Below w.heap.size w w' ∧ v.s.size ≤ 1000000 ∧
  ((behF ((btL s).drop i) = none ∧ r = -1) ∨ ∃ k : Nat, i ≤ k ∧ k ≤ s.size ∧ r = (k : Int) ∧ behF ((btL s).drop i) = some (v.f, (btL s).drop k))
set_option maxHeartbeats 4000000 in
theorem rbehind_at (s : ByteArray) (hz : s.size ≤ 1000000) (i : Nat) (hi : i ≤ s.size) (w : World) : Calls Tryz.prog 122 #[.string s, .int .i64 (i : Int)] w (BhP s i w) := by
  have AT0 := Lib.hid (fun W : World => rat7_at s hz i (by omega) W)
  obtain ⟨c0, hc0⟩ : ∃ c, hdI ((btL s).drop i) = c := ⟨_, rfl⟩
  obtain ⟨ok0, hok0⟩ : ∃ b, decide (i < s.size) = b := ⟨_, rfl⟩
  rw [hc0, hok0] at AT0
  have HCD0 : Hid (ok0 = true → (btL s).drop i = c0 :: (btL s).drop (i + 1) ∧ i < s.size) := Lib.hid (fun h => by
    rw [h] at hok0
    have hlt := of_decide_eq_true hok0
    rw [← hc0, ln_cons s i hlt]
    exact ⟨rfl, hlt⟩)
  have HCN0 : Hid (ok0 = false → (btL s).drop i = []) := Lib.hid (fun h => by
    rw [h] at hok0
    have hlt := of_decide_eq_false hok0
    exact List.drop_eq_nil_of_le (by rw [btL_length]; omega))
  clear hc0 hok0
  obtain ⟨Q, hQ⟩ : ∃ b : Bool, (ok0 && c0 == 61) = b := ⟨_, rfl⟩
  have HQ := Lib.hid hQ
  clear hQ
  go_enter Tryz.func122, Tryz.ntmps122
  go_upto_region 1 with fail
  refine code_forget (fun W => Hid (Box W w.heap.size #[.int .i64 0, .int .i64 0, .string ⟨#[]⟩] 70) ∧ Hid (Below w.heap.size w W)) ⟨Lib.hid (Box.new w _ _), Lib.hid ((Below.refl w.heap.size w).alloc (Nat.le_refl _) _)⟩ ?_
  obtain ⟨rb, hrb⟩ : ∃ x, w.heap.size = x := ⟨_, rfl⟩
  have hrw : Hid (w.heap.size ≤ rb) := Lib.hid (Nat.le_of_eq hrb)
  rintro w1 ⟨BX, HB1⟩
  rw [hrb] at BX ⊢
  clear hrb
  go_wp2_with fail
  refine (AT0.out _).mono ?_
  rintro e wx ⟨rfl, hw⟩
  subst wx
  clear AT0
  go_upto_region 2 with fail
  go_cut [18] from 8 (fun v wx => v = .bool Q ∧ wx = w1)
  case first =>
    cases ok0 with
    | false =>
      have e : Q = false := by rw [← HQ.out]; rfl
      subst e
      go_wp2
      go_meet
      exact ⟨rfl, rfl⟩
    | true =>
      have e : (c0 == 61) = Q := by rw [← HQ.out]; rfl
      go_wp2
      go_meet
      exact ⟨rfl, rfl⟩
  case rest =>
  obtain ⟨rfl, he⟩ := hcut
  have he := he.symm
  subst he
  cases Q with
  | true =>
    have HL : Hid ((btL s).drop i = 61 :: (btL s).drop (i + 1) ∧ i < s.size) := Lib.hid (by
      have h := HQ.out
      rw [Bool.and_eq_true] at h
      obtain ⟨h1, h2⟩ := HCD0.out h.1
      rw [h1, beq_iff_eq.1 h.2]
      exact ⟨rfl, h2⟩)
    have hlt := HL.out.2
    have VL := Lib.hid (rvalue_at s hz (i + 1) (by omega) w1)
    have e1 : ((i + 1 : Nat) : Int) = (i : Int) + 1 := by omega
    rw [e1] at VL
    have hw1 : IntKind.i64.wrap ((i : Int) + 1) = (i : Int) + 1 := IntWalk.i64_in _ (by omega)
    clear e1 HCD0 HCN0
    go_wp2_with fail
    refine VL.out.mono ?_
    rintro e w2 ⟨v, r, rfl, hb, hvz, hd⟩
    have BX2 := Lib.hid (BX.out.later hb)
    have HB2 := Lib.hid (HB1.out.trans (hb.mono HB1.out.size))
    have HD := Lib.hid hd
    clear hb hd VL
    go_wp2_with (refine fStoreRow rfl rfl rfl rfl BX2.out rfl (by kernel_rfl) (by simp [Value.oneCell']) ?_)
    refine bodyPost_ret (results_cell_tmpF Tryz.results122 rfl (val_row (BX2.out.setRow _) rfl)) rfl ?_
    refine ⟨v, r, rfl, below_row HB2.out hrw.out _, hvz, ?_⟩
    rw [HL.out.1, behF_eq]
    rcases HD.out with h | ⟨k, k1, k2, k3, k4⟩
    · exact Or.inl h
    · exact Or.inr ⟨k, by omega, k2, k3, k4⟩
  | false =>
    have HF : Hid (behF ((btL s).drop i) = some (flagV 1, (btL s).drop i)) := Lib.hid (behF_ne (fun r e => by
      cases ok0 with
      | false => rw [HCN0.out rfl] at e; cases e
      | true =>
        rw [(HCD0.out rfl).1] at e
        injection e with e _
        have h := HQ.out
        rw [e] at h
        cases h))
    clear HCD0 HCN0
    go_wp2_with (refine fStoreRow rfl rfl rfl rfl BX.out rfl (by kernel_rfl) (by simp [Value.oneCell']) ?_)
    refine bodyPost_ret (results_cell_tmpF Tryz.results122 rfl (val_row (BX.out.setRow _) rfl)) rfl ?_
    exact ⟨⟨4, 1, ⟨#[]⟩⟩, (i : Int), rfl, below_row HB1.out hrw.out _, Nat.zero_le 1000000, Or.inr ⟨i, Nat.le_refl _, hi, rfl, HF.out⟩⟩
/-- An item that is being read. -/
structure It7 (w W : World) (rb qb : Nat) (k : PB) (ps : List PB) (n : Nat) (a : Option Addr) (cap : Nat) : Prop where
  res : Box W rb #[.string ⟨#[]⟩, .int .i64 0, .int .i64 0, .string ⟨#[]⟩, .slice none 0 0] 73
  box : Box W qb #[.string k.key, .int .i64 k.v.k, .int .i64 k.v.n, .string k.v.s, .slice a n cap] 73
  own : Own W (qb + 1) 110 4 a n cap (pbV ps)
  len : ps.length = n
  bel : Below w.heap.size w W
theorem It7.later {w W W' : World} {rb qb n cap : Nat} {k : PB} {ps : List PB} {a : Option Addr} (h : It7 w W rb qb k ps n a cap) (hb : Below W.heap.size W W') : It7 w W' rb qb k ps n a cap :=
  ⟨h.res.later hb, h.box.later hb, h.own.later hb, h.len, h.bel.trans (hb.mono h.bel.size)⟩
theorem It7.cell {w W : World} {rb qb n cap : Nat} {k : PB} {ps : List PB} {a : Option Addr} (h : It7 w W rb qb k ps n a cap) (hq : rb ≠ qb) (hw : w.heap.size ≤ qb) (j : Nat) (u : Value) (cs : Array Value) (hcs : (#[.string k.key, .int .i64 k.v.k, .int .i64 k.v.n, .string k.v.s, .slice a n cap] : Array Value).setIfInBounds j u = cs) :
    Box (W.setCell ⟨qb, j, none⟩ u) rb #[.string ⟨#[]⟩, .int .i64 0, .int .i64 0, .string ⟨#[]⟩, .slice none 0 0] 73 ∧ Box (W.setCell ⟨qb, j, none⟩ u) qb cs 73 ∧ Own (W.setCell ⟨qb, j, none⟩ u) (qb + 1) 110 4 a n cap (pbV ps) ∧ Below w.heap.size w (W.setCell ⟨qb, j, none⟩ u) := by
  subst hcs
  exact ⟨h.res.other (a := ⟨qb, j, none⟩) hq u, h.box.set j u, h.own.other (fun g e => by subst e; have := h.own.lt.1; show g ≠ qb; omega) u, h.bel.setCell (p := ⟨qb, j, none⟩) hw u⟩
theorem It7.key {w W : World} {rb qb n cap : Nat} {k : PB} {ps : List PB} {a : Option Addr} (h : It7 w W rb qb k ps n a cap) (hq : rb ≠ qb) (hw : w.heap.size ≤ qb) (x : ByteArray) : It7 w (W.setCell ⟨qb, 0, none⟩ (.string x)) rb qb ⟨x, k.v⟩ ps n a cap := by
  obtain ⟨h1, h2, h3, h4⟩ := h.cell hq hw 0 (.string x) _ rfl
  exact ⟨h1, h2, h3, h.len, h4⟩
theorem It7.val {w W : World} {rb qb n cap : Nat} {k : PB} {ps : List PB} {a : Option Addr} (h : It7 w W rb qb k ps n a cap) (hq : rb ≠ qb) (hw : w.heap.size ≤ qb) (v : VB) : It7 w (((W.setCell ⟨qb, 1, none⟩ (.int .i64 v.k)).setCell ⟨qb, 2, none⟩ (.int .i64 v.n)).setCell ⟨qb, 3, none⟩ (.string v.s)) rb qb ⟨k.key, v⟩ ps n a cap := by
  obtain ⟨h1, h2, h3, h4⟩ := h.cell hq hw 1 (.int .i64 v.k) _ rfl
  have i1 : It7 w (W.setCell ⟨qb, 1, none⟩ (.int .i64 v.k)) rb qb ⟨k.key, ⟨v.k, k.v.n, k.v.s⟩⟩ ps n a cap := ⟨h1, h2, h3, h.len, h4⟩
  obtain ⟨h1, h2, h3, h4⟩ := i1.cell hq hw 2 (.int .i64 v.n) _ rfl
  have i2 : It7 w _ rb qb ⟨k.key, ⟨v.k, v.n, k.v.s⟩⟩ ps n a cap := ⟨h1, h2, h3, h.len, h4⟩
  obtain ⟨h1, h2, h3, h4⟩ := i2.cell hq hw 3 (.string v.s) _ rfl
  exact ⟨h1, h2, h3, h.len, h4⟩
theorem It7.grown {w W W9 : World} {rb qb n cap g cap9 : Nat} {k p : PB} {ps : List PB} {a : Option Addr} (h : It7 w W rb qb k ps n a cap) (hq : rb < qb) (hw : w.heap.size ≤ qb) (ho : Own W9 (qb + 1) 110 4 (some ⟨g, 0, none⟩) (n + 1) cap9 (pbV (ps ++ [p]))) (hg : Below (qb + 1) W W9) :
    It7 w (W9.setCell ⟨qb, 4, none⟩ (.slice (some ⟨g, 0, none⟩) (n + 1) cap9)) rb qb k (ps ++ [p]) (n + 1) (some ⟨g, 0, none⟩) cap9 := by
  have b1 : Box W9 rb #[.string ⟨#[]⟩, .int .i64 0, .int .i64 0, .string ⟨#[]⟩, .slice none 0 0] 73 := (hg.block rb (by omega)).trans h.res
  have b2 : Box W9 qb #[.string k.key, .int .i64 k.v.k, .int .i64 k.v.n, .string k.v.s, .slice a n cap] 73 := (hg.block qb (by omega)).trans h.box
  exact ⟨b1.other (a := ⟨qb, 4, none⟩) (by show rb ≠ qb; omega) _, b2.set 4 _, ho.other (fun g' e => by injection e with e; injection e with e; subst e; have := ho.lt.1; show g ≠ qb; omega) _, by rw [List.length_append, h.len]; rfl, (h.bel.trans (hg.mono (by omega))).setCell (p := ⟨qb, 4, none⟩) hw _⟩
def ItP (s : ByteArray) (i : Nat) (w : World) (e : Ending) (w' : World) : Prop := ∃ (x : IX) (r : Int), e = .returned (.tuple #[.agg #[.string x.k.key, .int .i64 x.k.v.k, .int .i64 x.k.v.n, .string x.k.v.s, .slice x.a x.n x.cap], .int .i64 r]) ∧ Below w.heap.size w w' ∧
  ((itemF ((btL s).drop i) = none ∧ r = -1) ∨ ∃ k : Nat, i < k ∧ k ≤ s.size ∧ r = (k : Int) ∧ itemF ((btL s).drop i) = some (x.f, (btL s).drop k) ∧ x.ps.length = x.n ∧ Own w' w.heap.size 110 4 x.a x.n x.cap (pbV x.ps))
theorem It7.ret {w W : World} {rb qb n cap : Nat} {k : PB} {ps : List PB} {a : Option Addr} (h : It7 w W rb qb k ps n a cap) (hr : w.heap.size ≤ rb) (hq : rb < qb) (cs : Array Value) : Below w.heap.size w (W.setRow rb cs) ∧ Own (W.setRow rb cs) w.heap.size 110 4 a n cap (pbV ps) :=
  ⟨below_row h.bel hr _, (own_setRowF h.own (by omega)).mono (by omega)⟩
def stP : Option (FPar × List Int) → Option (List FPar × List Int)
  | none => none
  | some (p, r') => (PF r').map fun q => (p :: q.1, q.2)
theorem frz_blk {w w' : World} {b : Nat} (h : w'.heap[b]? = w.heap[b]?) (j : Nat) : w'.frozen? ⟨b, j, none⟩ = w.frozen? ⟨b, j, none⟩ := by
  unfold World.frozen?
  rw [h]
def msr7 (z : Nat) : Value → Nat
  | .int _ j => if j < 0 then 0 else z + 2 - j.toNat
  | _ => 0
theorem msr7_neg (z : Nat) : msr7 z (.int .i64 (-1)) = 0 := rfl
theorem msr7_nat (z j : Nat) : msr7 z (.int .i64 (j : Int)) = z + 2 - j := by
  show (if (j : Int) < 0 then 0 else z + 2 - (j : Int).toNat) = _
  rw [if_neg (by omega)]
  simp
/-- Where the loop over parameters stands. -/
def St7 (s : ByteArray) (i : Nat) (k : PB) (ps : List PB) (n : Nat) (r : Int) : Prop := (r = -1 ∧ itemF ((btL s).drop i) = none) ∨
  ∃ j : Nat, i < j ∧ j ≤ s.size ∧ r = (j : Int) ∧ n < j ∧ itemF ((btL s).drop i) = (PF ((btL s).drop j)).map fun q => (⟨btL k.key, k.v.f, ps.map PB.f ++ q.1⟩, q.2)
set_option maxHeartbeats 8000000 in
theorem ritem_at (s : ByteArray) (hz : s.size ≤ 1000000) (i : Nat) (hi : i ≤ s.size) (w : World) : Calls Tryz.prog 98 #[.string s, .int .i64 (i : Int)] w (ItP s i w) := by
  have AT0 := Lib.hid (fun W : World => rat7_at s hz i (by omega) W)
  obtain ⟨c0, hc0⟩ : ∃ c, hdI ((btL s).drop i) = c := ⟨_, rfl⟩
  obtain ⟨ok0, hok0⟩ : ∃ b, decide (i < s.size) = b := ⟨_, rfl⟩
  rw [hc0, hok0] at AT0
  have HCD0 : Hid (ok0 = true → (btL s).drop i = c0 :: (btL s).drop (i + 1) ∧ i < s.size) := Lib.hid (fun h => by
    rw [h] at hok0
    have hlt := of_decide_eq_true hok0
    rw [← hc0, ln_cons s i hlt]
    exact ⟨rfl, hlt⟩)
  have HCN0 : Hid (ok0 = false → (btL s).drop i = []) := Lib.hid (fun h => by
    rw [h] at hok0
    have hlt := of_decide_eq_false hok0
    exact List.drop_eq_nil_of_le (by rw [btL_length]; omega))
  clear hc0 hok0
  obtain ⟨Q, hQ⟩ : ∃ b : Bool, (ok0 && c0 == 34) = b := ⟨_, rfl⟩
  have HQ := Lib.hid hQ
  clear hQ
  go_enter Tryz.func98, Tryz.ntmps98
  go_upto_region 2 with fail
  refine code_forget (fun W => Hid (It7 w W w.heap.size (w.heap.size + 1) ⟨⟨#[]⟩, ⟨0, 0, ⟨#[]⟩⟩⟩ [] 0 none 0)) (Lib.hid ⟨(Box.new w _ _).alloc _, by
    have h := Box.new (w.alloc (.cells #[.string ⟨#[]⟩, .int .i64 0, .int .i64 0, .string ⟨#[]⟩, .slice none 0 0] 73)) #[.string ⟨#[]⟩, .int .i64 0, .int .i64 0, .string ⟨#[]⟩, .slice none 0 0] 73
    rw [World.size_alloc] at h
    exact h, Own.nil _ _ _ _, rfl, ((Below.refl w.heap.size w).alloc (Nat.le_refl _) _).alloc (by simp) _⟩) ?_
  obtain ⟨rb, hrb⟩ : ∃ x, w.heap.size = x := ⟨_, rfl⟩
  have HRB := Lib.hid hrb
  obtain ⟨qb, hqb⟩ : ∃ x, rb + 1 = x := ⟨_, rfl⟩
  rintro w1 H1
  rw [hrb] at H1 ⊢
  rw [hqb] at H1 ⊢
  have hwr : Hid (w.heap.size ≤ rb) := Lib.hid (by omega)
  have hwq : Hid (w.heap.size ≤ qb) := Lib.hid (by omega)
  have hlq : Hid (rb < qb) := Lib.hid (by omega)
  have hnq : Hid (rb ≠ qb) := Lib.hid (by omega)
  clear hrb hqb
  go_wp2_with fail
  refine (AT0.out _).mono ?_
  rintro e wx ⟨rfl, hw⟩
  subst wx
  clear AT0
  go_upto_region 3 with fail
  go_cut [25] from 14 (fun v wx => v = .bool Q ∧ wx = w1)
  case first =>
    cases ok0 with
    | false =>
      have e : Q = false := by rw [← HQ.out]; rfl
      subst e
      go_wp2
      go_meet
      exact ⟨rfl, rfl⟩
    | true =>
      have e : (c0 == 34) = Q := by rw [← HQ.out]; rfl
      go_wp2
      go_meet
      exact ⟨rfl, rfl⟩
  case rest =>
  obtain ⟨rfl, he⟩ := hcut
  have he := he.symm
  subst he
  go_upto_if 25 with fail
  go_cut [1] from 14 (fun v wx => ∃ (k : PB) (r : Int), v = .int .i64 r ∧ Hid (It7 w wx rb qb k [] 0 none 0) ∧ Hid (St7 s i k [] 0 r))
  case first =>
    cases Q with
    | true =>
      have HL : Hid ((btL s).drop i = 34 :: (btL s).drop (i + 1) ∧ i < s.size) := Lib.hid (by
        have h := HQ.out
        rw [Bool.and_eq_true] at h
        obtain ⟨h1, h2⟩ := HCD0.out h.1
        rw [h1, beq_iff_eq.1 h.2]
        exact ⟨rfl, h2⟩)
      have hlt := HL.out.2
      clear HCD0 HCN0
      have QT := Lib.hid (fun W : World => rquoted_at s hz i hlt W)
      have x1 := H1.out.box.cell 1
      have x2 := H1.out.box.cell 2
      have x3 := H1.out.box.cell 3
      have z1 := H1.out.box.free 1
      have z2 := H1.out.box.free 2
      have z3 := H1.out.box.free 3
      have l1 := H1.out.box.lt
      go_upto_region 5 with fail
      refine code_forget (fun W => Hid (It7 w W rb qb ⟨⟨#[]⟩, ⟨4, 1, ⟨#[]⟩⟩⟩ [] 0 none 0)) (Lib.hid (H1.out.val hnq.out hwq.out ⟨4, 1, ⟨#[]⟩⟩)) ?_
      rintro w2 H2
      clear x1 x2 x3 z1 z2 z3 l1 H1
      go_wp2_with fail
      refine (QT.out _).mono ?_
      rintro e w3 ⟨t, r, rfl, hb, htz, hn, hy⟩
      have H3 := Lib.hid (H2.out.later hb)
      have HN := Lib.hid hn
      have HY := Lib.hid hy
      have x0 := H3.out.box.cell 0
      have z0 := H3.out.box.free 0
      have l0 := H3.out.box.lt
      clear hb hn hy H2 QT
      have H4 := Lib.hid (H3.out.key hnq.out hwq.out t)
      go_wp2
      go_meet
      refine ⟨_, r, rfl, H4, Lib.hid ?_⟩
      have hh : headF ((btL s).drop i) = (textG ((btL s).drop (i + 1))).map fun p => ((p.1, flagV 1), p.2) := by rw [HL.out.1]; rfl
      cases ho : textG ((btL s).drop (i + 1)) with
      | none =>
        rw [ho] at hh
        exact Or.inl ⟨(HN.out ho).1, itemF_none hh⟩
      | some p =>
        obtain ⟨k, k1, k2, k3, k4⟩ := HY.out p ho
        rw [ho] at hh
        have hk : i < k := by
          have h1 := textG_len _ _ _ _ (Nat.le_refl _) ho
          rw [k3, List.length_drop, List.length_drop, btL_length] at h1
          omega
        refine Or.inr ⟨k, hk, k1, k2, by omega, ?_⟩
        rw [itemF_pf hh, ← k3, k4]
        rfl
    | false =>
      have HHF : Hid (headF ((btL s).drop i) = pairF ((btL s).drop i)) := Lib.hid (by
        cases ok0 with
        | false => rw [HCN0.out rfl]; rfl
        | true =>
          rw [(HCD0.out rfl).1]
          refine head_pair (v := c0) rfl (fun e => ?_)
          have h := HQ.out
          rw [e] at h
          cases h)
      clear HCD0 HCN0
      have KY := Lib.hid (rkey_at s hz i hi w1)
      go_wp2_with fail
      refine KY.out.mono ?_
      rintro e wx ⟨r0, rfl, hw, hd⟩
      subst wx
      rcases hd with ⟨hn, rfl⟩ | ⟨k, hik, hks, rfl, hkf⟩
      · have HF : Hid (itemF ((btL s).drop i) = none) := Lib.hid (itemF_none (by rw [HHF.out]; exact pairF_none hn))
        clear hn KY
        go_upto_region 8 with fail
        refine wp_region_lit ?_
        refine fLoadv rfl rfl rfl (ite_row H1.out.box rfl) ?_
        refine fStoreRow rfl rfl rfl rfl H1.out.res rfl (by kernel_rfl) (by simp [Value.oneCell']) ?_
        go_wp2
        refine bodyPost_ret (results_cell_tmpF Tryz.results98 rfl (ite_row (H1.out.res.setRow _) rfl)) rfl ?_
        exact ⟨⟨⟨⟨#[]⟩, ⟨0, 0, ⟨#[]⟩⟩⟩, [], 0, none, 0⟩, -1, rfl, (H1.out.ret hwr.out hlq.out _).1, Or.inl ⟨HF.out, rfl⟩⟩
      · have HKF := Lib.hid hkf
        have kd : decide ((k : Int) < 0) = false := decide_eq_false (by omega)
        have i0 : (0 : Int) ≤ (i : Int) := by omega
        have i1 : (i : Int) ≤ (k : Int) := by omega
        have i2 : (k : Int) ≤ (s.size : Int) := by omega
        have HLT : Hid (i < k) := Lib.hid (by
          have h := keyF_len hkf
          rw [List.length_drop, List.length_drop, btL_length] at h
          omega)
        obtain ⟨x, hx⟩ : ∃ x, s.extract i k = x := ⟨_, rfl⟩
        have HX := Lib.hid hx
        have x0 := H1.out.box.cell 0
        have z0 := H1.out.box.free 0
        have l0 := H1.out.box.lt
        have H2 := Lib.hid (H1.out.key hnq.out hwq.out x)
        clear hkf KY
        go_upto_region 10 with fail
        refine code_forget (fun W => Hid (It7 w W rb qb ⟨x, ⟨0, 0, ⟨#[]⟩⟩⟩ [] 0 none 0)) H2 ?_
        rintro w2 H2
        clear x0 z0 l0 i0 i1 i2 hx H1
        have BH := Lib.hid (rbehind_at s hz k hks w2)
        go_wp2_with fail
        refine BH.out.mono ?_
        rintro e w3 ⟨v, r, rfl, hb, hvz, hd⟩
        have H3 := Lib.hid (H2.out.later hb)
        have HD := Lib.hid hd
        have x1 := H3.out.box.cell 1
        have x2 := H3.out.box.cell 2
        have x3 := H3.out.box.cell 3
        have z1 := H3.out.box.free 1
        have z2 := H3.out.box.free 2
        have z3 := H3.out.box.free 3
        have l1 := H3.out.box.lt
        have H4 := Lib.hid (H3.out.val hnq.out hwq.out v)
        clear hb hd H2 BH
        go_wp2
        go_meet
        refine ⟨_, r, rfl, H4, Lib.hid ?_⟩
        have hp : headF ((btL s).drop i) = (behF ((btL s).drop k)).map fun p => ((btL x, p.1), p.2) := by rw [HHF.out, pairF_beh HKF.out, HX.out]
        rcases HD.out with ⟨h1, h2⟩ | ⟨j, j1, j2, j3, j4⟩
        · rw [h1] at hp
          exact Or.inl ⟨h2, itemF_none hp⟩
        · rw [j4] at hp
          refine Or.inr ⟨j, by have := HLT.out; omega, j2, j3, by have := HLT.out; omega, ?_⟩
          rw [itemF_pf hp]
          rfl
  case rest =>
  obtain ⟨k0, r0, rfl, H5, HS⟩ := hcut
  clear HQ HCD0 HCN0 H1
  go_wp2_with fail
  go_loopw [1] (fun v wr => ∃ (ps : List PB) (n : Nat) (a : Option Addr) (cap : Nat) (r : Int), v = .int .i64 r ∧ n ≤ 1000000 ∧ Hid (It7 w wr rb qb k0 ps n a cap) ∧ Hid (St7 s i k0 ps n r)) (fun v _ => msr7 s.size v)
  case atStart => exact ⟨[], 0, none, 0, r0, rfl, by omega, H5, HS⟩
  case round =>
    obtain ⟨ps, n, a, cap, r, rfl, hn6, H6, HST⟩ := hrel
    clear H5 HS
    rcases HST.out with ⟨rfl, hnone⟩ | ⟨j, hij, hjs, rfl, hnj, hpf⟩
    · have HF := Lib.hid hnone
      clear hnone HST
      go_upto_region 24 with fail
      refine wp_region_lit ?_
      refine fLoadv rfl rfl rfl (ite_row H6.out.box rfl) ?_
      refine fStoreRow rfl rfl rfl rfl H6.out.res rfl (by kernel_rfl) (by simp [Value.oneCell']) ?_
      go_wp2
      refine bodyPost_ret (results_cell_tmpF Tryz.results98 rfl (ite_row (H6.out.res.setRow _) rfl)) rfl ?_
      exact ⟨⟨k0, ps, n, a, cap⟩, -1, rfl, (H6.out.ret hwr.out hlq.out _).1, Or.inl ⟨HF.out, rfl⟩⟩
    · have HPF := Lib.hid hpf
      clear hpf HST
      have jd : decide ((0 : Int) ≤ (j : Int)) = true := decide_eq_true (by omega)
      have AT1 := Lib.hid (fun W : World => rat7_at s hz j (by omega) W)
      obtain ⟨c1, hc1⟩ : ∃ c, hdI ((btL s).drop j) = c := ⟨_, rfl⟩
      obtain ⟨ok1, hok1⟩ : ∃ b, decide (j < s.size) = b := ⟨_, rfl⟩
      rw [hc1, hok1] at AT1
      have HCD1 : Hid (ok1 = true → (btL s).drop j = c1 :: (btL s).drop (j + 1) ∧ j < s.size) := Lib.hid (fun h => by
        rw [h] at hok1
        have hlt := of_decide_eq_true hok1
        rw [← hc1, ln_cons s j hlt]
        exact ⟨rfl, hlt⟩)
      have HCN1 : Hid (ok1 = false → (btL s).drop j = []) := Lib.hid (fun h => by
        rw [h] at hok1
        have hlt := of_decide_eq_false hok1
        exact List.drop_eq_nil_of_le (by rw [btL_length]; omega))
      clear hc1 hok1
      obtain ⟨Q, hQ⟩ : ∃ b : Bool, (!ok1 || c1 != 59) = b := ⟨_, rfl⟩
      have HQ := Lib.hid hQ
      clear hQ
      go_wp2_with fail
      refine (AT1.out _).mono ?_
      rintro e wx ⟨rfl, hw⟩
      subst wx
      clear AT1
      go_upto_region 13 with fail
      go_cut [66] from 53 to 106 (fun v wx => v = .bool Q ∧ wx = wr)
      case first =>
        cases ok1 with
        | false =>
          have e : Q = true := by rw [← HQ.out]; rfl
          subst e
          go_wp2
          go_meet
          exact ⟨rfl, rfl⟩
        | true =>
          have e : (c1 != 59) = Q := by rw [← HQ.out]; rfl
          go_wp2
          go_meet
          exact ⟨rfl, rfl⟩
      case rest =>
      obtain ⟨rfl, he⟩ := hcut
      have he := he.symm
      subst he
      cases Q with
      | true =>
        have HF : Hid (itemF ((btL s).drop i) = some (⟨btL k0.key, k0.v.f, ps.map PB.f⟩, (btL s).drop j)) := Lib.hid (by
          have hc : cutS [59] ((btL s).drop j) = none := by
            cases ok1 with
            | false => rw [HCN1.out rfl]; rfl
            | true =>
              rw [(HCD1.out rfl).1]
              have h := HQ.out
              cases hh : cutS [59] (c1 :: (btL s).drop (j + 1)) with
              | none => rfl
              | some q =>
                have e := cutS59 hh
                injection e with e _
                rw [e] at h
                cases h
          rw [HPF.out, PF_end hc]
          simp)
        clear HCD1 HCN1 HPF HQ
        go_upto_region 14 with fail
        refine wp_region_lit ?_
        refine fLoadv rfl rfl rfl (ite_row H6.out.box rfl) ?_
        go_wp2_with (refine fStoreRow rfl rfl rfl rfl H6.out.res rfl (by kernel_rfl) (by simp [Value.oneCell']) ?_)
        refine bodyPost_ret (results_cell_tmpF Tryz.results98 rfl (ite_row (H6.out.res.setRow _) rfl)) rfl ?_
        exact ⟨⟨k0, ps, n, a, cap⟩, (j : Int), rfl, (H6.out.ret hwr.out hlq.out _).1, Or.inr ⟨j, hij, hjs, rfl, HF.out, H6.out.len, (H6.out.ret hwr.out hlq.out _).2⟩⟩
      | false =>
        have HL : Hid ((btL s).drop j = 59 :: (btL s).drop (j + 1) ∧ j < s.size) := Lib.hid (by
          have h := HQ.out
          rw [Bool.or_eq_false_iff] at h
          obtain ⟨h1, h2⟩ := HCD1.out (by simpa using h.1)
          have h3 : c1 = 59 := by simpa using h.2
          rw [h1, h3]
          exact ⟨rfl, h2⟩)
        have hjlt := HL.out.2
        clear HCD1 HCN1 HQ
        go_wp2_with fail
        go_loop [1] (fun v => ∃ k : Nat, v = .int .i64 (k : Int) ∧ j + 1 ≤ k ∧ k ≤ s.size ∧ Hid (((btL s).drop (j + 1)).dropWhile sp1 = ((btL s).drop k).dropWhile sp1)) (fun v => s.size - (intOf v).toNat)
        case atStart => exact ⟨j + 1, by go_num, by omega, by omega, Lib.hid rfl⟩
        case round =>
          obtain ⟨k, rfl, hjk, hks, HD⟩ := hrel
          obtain ⟨Q2, hQ2⟩ : ∃ b : Bool, (decide (k < s.size) && hdI ((btL s).drop k) == 32) = b := ⟨_, rfl⟩
          have HQ2 := Lib.hid hQ2
          clear hQ2
          go_upto_region 16 with fail
          go_cut [80] from 71 to 82 (fun v wx => v = .bool Q2 ∧ wx = wr)
          case first =>
            by_cases hlt : k < s.size
            · have kd : decide ((k : Int) < (s.size : Int)) = true := decide_eq_true (by omega)
              have kd2 : decide (k < s.size) = true := decide_eq_true hlt
              obtain ⟨c, hc⟩ : ∃ d : Int, (s[k].toNat : Int) = d := ⟨_, rfl⟩
              have e : (c == 32) = Q2 := by
                rw [← HQ2.out, kd2, ln_cons s k hlt, hc]
                rfl
              have kx0 : (0 : Int) ≤ (k : Int) := by omega
              have kx1 : (k : Int) < (s.size : Int) := by omega
              go_wp2
              go_meet
              exact ⟨rfl, rfl⟩
            · have kd : decide ((k : Int) < (s.size : Int)) = false := decide_eq_false (by omega)
              have kd2 : decide (k < s.size) = false := decide_eq_false hlt
              have e : Q2 = false := by rw [← HQ2.out, kd2]; rfl
              subst e
              go_wp2
              go_meet
              exact ⟨rfl, rfl⟩
          case rest =>
          obtain ⟨rfl, he⟩ := hcut
          have he := he.symm
          subst he
          cases Q2 with
          | true =>
            have h := HQ2.out
            rw [Bool.and_eq_true, decide_eq_true_eq, beq_iff_eq] at h
            have hlt := h.1
            have HD2 : Hid (((btL s).drop (j + 1)).dropWhile sp1 = ((btL s).drop (k + 1)).dropWhile sp1) := Lib.hid (by
              have hc : (s[k].toNat : Int) = 32 := by
                have := h.2
                rw [ln_cons s k hlt] at this
                exact this
              rw [HD.out, ln_cons s k hlt, List.dropWhile_cons, if_pos (by rw [hc]; rfl)])
            clear h HQ2
            go_wp2
            go_round
            case rel => exact ⟨k + 1, by go_num, by omega, by omega, HD2⟩
            case measure => simp [intOf]; omega
          | false =>
            have HE : Hid (((btL s).drop (j + 1)).dropWhile sp1 = (btL s).drop k) := Lib.hid (by
              rw [HD.out]
              by_cases hlt : k < s.size
              · rw [ln_cons s k hlt, List.dropWhile_cons, if_neg]
                intro hh
                have h3 : (s[k].toNat : Int) = 32 := by
                  unfold sp1 at hh
                  exact beq_iff_eq.1 hh
                have h := HQ2.out
                rw [ln_cons s k hlt, h3] at h
                simp [hdI, hlt] at h
              · rw [List.drop_eq_nil_of_le (by rw [btL_length]; omega)]
                rfl)
            have HPS : Hid (PF ((btL s).drop j) = stP (pairF ((btL s).drop k))) := Lib.hid (by
              have hc : cutS [59] ((btL s).drop j) = some ((btL s).drop (j + 1)) := by rw [HL.out.1, cut_one]; dsimp only; rw [if_pos rfl]
              rw [PF_step hc, HE.out]
              unfold stP
              rfl)
            have HPI : Hid (itemF ((btL s).drop i) = (stP (pairF ((btL s).drop k))).map fun q => (⟨btL k0.key, k0.v.f, ps.map PB.f ++ q.1⟩, q.2)) := Lib.hid (by rw [HPF.out, HPS.out])
            clear HQ2 HD HE HPS HPF HL
            have KY := Lib.hid (rkey_at s hz k hks wr)
            go_wp2_with fail
            refine KY.out.mono ?_
            rintro e wx ⟨r1, rfl, hw, hd⟩
            subst wx
            clear KY
            rcases hd with ⟨hn, rfl⟩ | ⟨e1, hke, hes, rfl, hkf⟩
            · have HF : Hid (itemF ((btL s).drop i) = none) := Lib.hid (by rw [HPI.out, pairF_none hn]; rfl)
              clear hn HPI
              go_upto_region 20 with fail
              refine wp_region_lit ?_
              refine fLoadv rfl rfl rfl (ite_row H6.out.box rfl) ?_
              refine fStoreRow rfl rfl rfl rfl H6.out.res rfl (by kernel_rfl) (by simp [Value.oneCell']) ?_
              go_wp2
              refine bodyPost_ret (results_cell_tmpF Tryz.results98 rfl (ite_row (H6.out.res.setRow _) rfl)) rfl ?_
              exact ⟨⟨k0, ps, n, a, cap⟩, -1, rfl, (H6.out.ret hwr.out hlq.out _).1, Or.inl ⟨HF.out, rfl⟩⟩
            · have HKF := Lib.hid hkf
              have kd : decide ((e1 : Int) < 0) = false := decide_eq_false (by omega)
              have i0 : (0 : Int) ≤ (k : Int) := by omega
              have i1 : (k : Int) ≤ (e1 : Int) := by omega
              have i2 : (e1 : Int) ≤ (s.size : Int) := by omega
              have HLT : Hid (k < e1) := Lib.hid (by
                have h := keyF_len hkf
                rw [List.length_drop, List.length_drop, btL_length] at h
                omega)
              obtain ⟨x, hx⟩ : ∃ x, s.extract k e1 = x := ⟨_, rfl⟩
              have HX := Lib.hid hx
              clear hkf
              go_upto_region 22 with fail
              refine code_forget (fun W => Hid (Box W wr.heap.size #[.string x, .int .i64 0, .int .i64 0, .string ⟨#[]⟩] 110) ∧ Hid (Below wr.heap.size wr W)) ⟨Lib.hid (Box.new wr _ _), Lib.hid ((Below.refl wr.heap.size wr).alloc (Nat.le_refl _) _)⟩ ?_
              obtain ⟨pb, hpb⟩ : ∃ z, wr.heap.size = z := ⟨_, rfl⟩
              have HPB := Lib.hid hpb
              rintro w2 ⟨PX, BL⟩
              rw [hpb] at PX ⊢
              clear hpb i0 i1 i2 hx
              have BH := Lib.hid (rbehind_at s hz e1 hes w2)
              go_wp2_with fail
              refine BH.out.mono ?_
              rintro e w3 ⟨v, r2, rfl, hb, hvz, hd⟩
              have PX3 := Lib.hid (PX.out.later hb)
              have BL3 := Lib.hid (BL.out.trans (hb.mono BL.out.size))
              have HD := Lib.hid hd
              have x1 := PX3.out.cell 1
              have x2 := PX3.out.cell 2
              have x3 := PX3.out.cell 3
              have z1 := PX3.out.free 1
              have z2 := PX3.out.free 2
              have z3 := PX3.out.free 3
              have l1 := PX3.out.lt
              clear hb hd PX BL BH
              go_upto_region 23 with fail
              refine code_forget (fun W => Hid (Box W pb #[.string x, .int .i64 v.k, .int .i64 v.n, .string v.s] 110) ∧ Hid (Below wr.heap.size wr W)) ⟨Lib.hid (((PX3.out.set 1 (.int .i64 v.k)).set 2 (.int .i64 v.n)).set 3 (.string v.s)), Lib.hid (((BL3.out.setCell (p := ⟨pb, 1, none⟩) (Nat.le_of_eq HPB.out) _).setCell (p := ⟨pb, 2, none⟩) (Nat.le_of_eq HPB.out) _).setCell (p := ⟨pb, 3, none⟩) (Nat.le_of_eq HPB.out) _)⟩ ?_
              clear x1 x2 x3 z1 z2 z3 l1 PX3 BL3
              rintro w4 ⟨PX4, BL4⟩
              have H7 := Lib.hid (H6.out.later BL4.out)
              have y4 := H7.out.box.cell 4
              have u4 := H7.out.box.free 4
              have ly := H7.out.box.lt
              have x0 := PX4.out.cell 0
              have x1 := PX4.out.cell 1
              have x2 := PX4.out.cell 2
              have x3 := PX4.out.cell 3
              have HST2 : Hid (St7 s i k0 (ps ++ [⟨x, v⟩]) (n + 1) r2) := Lib.hid (by
                have hp : pairF ((btL s).drop k) = (behF ((btL s).drop e1)).map fun p => ((btL x, p.1), p.2) := by rw [pairF_beh HKF.out, HX.out]
                rcases HD.out with ⟨h1, h2⟩ | ⟨j2, g1, g2, g3, g4⟩
                · refine Or.inl ⟨h2, ?_⟩
                  rw [HPI.out, hp, h1]
                  rfl
                · refine Or.inr ⟨j2, by have := HLT.out; omega, g2, g3, by have := HLT.out; omega, ?_⟩
                  rw [HPI.out, hp, g4]
                  show ((PF ((btL s).drop j2)).map _).map _ = _
                  rw [Option.map_map]
                  congr 1
                  funext q
                  simp [PB.f])
              have HMS : Hid (msr7 s.size (.int .i64 r2) < msr7 s.size (.int .i64 (j : Int))) := Lib.hid (by
                rcases HD.out with ⟨_, h2⟩ | ⟨j2, g1, g2, g3, _⟩
                · rw [h2, msr7_neg, msr7_nat]
                  omega
                · rw [g3, msr7_nat, msr7_nat]
                  have := HLT.out
                  omega)
              clear HD HPI HKF HX HLT
              go_wp2_with (at_builtin; refine wpList_app1 rowPar rfl _ _ rfl (qb + 1) a n cap (pbV ps) rfl H7.out.own #[.string x, .int .i64 v.k, .int .i64 v.n, .string v.s] rfl rfl (pbone x v) (by omega) (by decide) (by omega) (n + 1) rfl (pbV (ps ++ [(⟨x, v⟩ : PB)])) (pbV_snoc ps (⟨x, v⟩ : PB)) ?_; rintro g9 cap9 w9 own9 _ bel9 _; have NX := Lib.hid (H7.out.grown (p := ⟨x, v⟩) hlq.out hwq.out own9 bel9); have y9 : w9.cell? ⟨qb, 4, none⟩ = some (.slice a n cap) := (bel9.cell (show qb < qb + 1 by omega)).trans y4; have u9 : w9.frozen? ⟨qb, 4, none⟩ = false := (frz_blk (bel9.block qb (by omega)) 4).trans u4; have ly9 : qb < w9.heap.size := Nat.lt_of_lt_of_le ly bel9.size; clear own9 bel9 x0 x1 x2 x3 y4 u4 ly)
              go_roundw
              case rel => exact ⟨ps ++ [⟨x, v⟩], n + 1, some ⟨g9, 0, none⟩, cap9, r2, rfl, by omega, NX, HST2⟩
              case measure => exact HMS.out
end Go.Proofs.YtodibjpojfipoaaGreatDoor
/- The document's fields: Parse. -/
namespace Go.Proofs.YtodibjpojfipoaaGreatDoor
open Go Go.RowKit
set_option linter.unusedVariables false
set_option linter.unusedSimpArgs false
set_option maxRecDepth 10000

theorem parseF_dw {l x : List Int} (h : l.dropWhile sp1 = x) (hx : x = [] ∨ ∃ c r, x = c :: r ∧ sp1 c = false) : parseF l = parseF x := by
  have e : x.dropWhile sp1 = x := by
    rcases hx with rfl | ⟨c, r, rfl, hc⟩
    · rfl
    · rw [List.dropWhile_cons, if_neg (by rw [hc]; decide)]
  unfold parseF
  rw [h, e]
theorem parseF_trim {l x y : List Int} {k : Nat} (h : l.dropWhile sp1 = x) (hx : x = [] ∨ ∃ c r, x = c :: r ∧ sp1 c = false) (hy : x = y ++ spN k) (hyh : y = [] ∨ ∃ c r, y = c :: r ∧ sp1 c = false) :
    (y = [] → parseF l = some []) ∧ (y ≠ [] → parseF l = CG 0 y) := by
  have h1 := parseF_sp k y hyh
  rw [← hy, ← parseF_dw h hx] at h1
  refine ⟨fun e => by subst e; exact h1, fun e => ?_⟩
  cases y with
  | nil => exact absurd rfl e
  | cons c r => exact h1
theorem spN_snoc (k : Nat) : (32 : Int) :: spN k = spN (k + 1) := rfl
set_option maxHeartbeats 8000000 in
theorem rparse7_at (s : ByteArray) (hz : s.size ≤ 1000000) (w : World) : Calls Tryz.prog 61 #[.string s] w (FParP (parseF (btL s)) w) := by
  obtain ⟨o, ho⟩ : ∃ o, parseF (btL s) = o := ⟨_, rfl⟩
  have HO := Lib.hid ho
  rw [ho]
  clear ho
  go_enter Tryz.func61, Tryz.ntmps61
  go_wp2_with fail
  go_loop [0] (fun v => ∃ x, v = .string x ∧ x.size ≤ 1000000 ∧ Hid ((btL s).dropWhile sp1 = (btL x).dropWhile sp1)) (fun v => strN v)
  case atStart => exact ⟨s, rfl, hz, Lib.hid rfl⟩
  case round =>
    obtain ⟨x, rfl, hx, HX⟩ := hrel
    obtain ⟨Q, hQ⟩ : ∃ b : Bool, (decide (0 < x.size) && hdI (btL x) == 32) = b := ⟨_, rfl⟩
    have HQ := Lib.hid hQ
    clear hQ
    go_upto_region 1 with fail
    go_cut [15] from 8 to 17 (fun v wx => v = .bool Q ∧ wx = w)
    case first =>
      by_cases h0 : 0 < x.size
      · have d0 : decide ((0 : Int) < (x.size : Int)) = true := decide_eq_true (by omega)
        have d0' : decide (0 < x.size) = true := decide_eq_true h0
        obtain ⟨c, hc⟩ : ∃ c : Int, (x[0].toNat : Int) = c := ⟨_, rfl⟩
        have e : (c == 32) = Q := by rw [← HQ.out, d0', hd_at x h0, hc]; rfl
        go_wp2
        go_meet
        exact ⟨rfl, rfl⟩
      · have d0 : decide ((0 : Int) < (x.size : Int)) = false := decide_eq_false (by omega)
        have d0' : decide (0 < x.size) = false := decide_eq_false h0
        have e : Q = false := by rw [← HQ.out, d0']; rfl
        subst e
        go_wp2
        go_meet
        exact ⟨rfl, rfl⟩
    case rest =>
    obtain ⟨rfl, he⟩ := hcut
    have he := he.symm
    subst he
    cases Q with
    | true =>
      have h := HQ.out
      rw [Bool.and_eq_true, decide_eq_true_eq, beq_iff_eq] at h
      obtain ⟨h0, hc⟩ := h
      rw [hd_at x h0] at hc
      have HF : Hid (btL x = 32 :: btL (x.extract 1 x.size)) := Lib.hid (by rw [← hc]; exact ln_first x h0)
      have hsz : (x.extract 1 x.size).size = x.size - 1 := by simp
      have HX2 : Hid ((btL s).dropWhile sp1 = (btL (x.extract 1 x.size)).dropWhile sp1) := Lib.hid (by rw [HX.out, HF.out, List.dropWhile_cons]; rfl)
      have d1 : (1 : Int) ≤ (x.size : Int) := by omega
      clear hc HQ
      go_wp2
      go_round
      case rel => exact ⟨_, rfl, by omega, HX2⟩
      case measure => show (x.extract 1 x.size).size < x.size; omega
    | false =>
      have HXH : Hid (btL x = [] ∨ ∃ c r, btL x = c :: r ∧ sp1 c = false) := Lib.hid (by
        by_cases h0 : 0 < x.size
        · right
          refine ⟨_, _, ln_first x h0, ?_⟩
          have h := HQ.out
          rw [decide_eq_true h0, hd_at x h0, Bool.true_and] at h
          exact h
        · left
          exact List.eq_nil_of_length_eq_zero (by rw [btL_length]; omega))
      have HXE : Hid ((btL s).dropWhile sp1 = btL x) := Lib.hid (by
        rw [HX.out]
        rcases HXH.out with h | ⟨c, r, h, hc⟩
        · rw [h]; rfl
        · rw [h, List.dropWhile_cons, if_neg (by rw [hc]; decide)])
      clear HQ HX
      go_wp2_with fail
      go_loop [0] (fun v => ∃ y k, v = .string y ∧ y.size ≤ 1000000 ∧ Hid (btL x = btL y ++ spN k) ∧ Hid (btL y = [] ∨ ∃ c r, btL y = c :: r ∧ sp1 c = false)) (fun v => strN v)
      case atStart => exact ⟨x, 0, rfl, hx, Lib.hid (by simp [spN]), HXH⟩
      case round =>
        obtain ⟨y, k, rfl, hy, HY, HYH⟩ := hrel
        obtain ⟨Q, hQ⟩ : ∃ b : Bool, (decide (0 < y.size) && hdI ((btL y).drop (y.size - 1)) == 32) = b := ⟨_, rfl⟩
        have HQ := Lib.hid hQ
        clear hQ
        go_upto_region 3 with fail
        go_cut [28] from 18 to 33 (fun v wx => v = .bool Q ∧ wx = w)
        case first =>
          by_cases h0 : 0 < y.size
          · have d0 : decide ((0 : Int) < (y.size : Int)) = true := decide_eq_true (by omega)
            have d0' : decide (0 < y.size) = true := decide_eq_true h0
            obtain ⟨m, hm⟩ : ∃ m, y.size = m + 1 := ⟨y.size - 1, by omega⟩
            obtain ⟨c, hc⟩ : ∃ c : Int, ((y[m]'(by omega)).toNat : Int) = c := ⟨_, rfl⟩
            have e : (c == 32) = Q := by
              have h2 := ln_cons y m (by omega)
              rw [← HQ.out, d0', show y.size - 1 = m from by omega, h2, hc]
              rfl
            have em : (y.size : Int) - 1 = (m : Int) := by omega
            have wm : IntKind.i64.wrap ((y.size : Int) - 1) = (m : Int) := by rw [em]; exact IntWalk.i64_in _ (by omega)
            have m0 : (0 : Int) ≤ (m : Int) := by omega
            have m1 : (m : Int) < (y.size : Int) := by omega
            go_wp2
            go_meet
            exact ⟨rfl, rfl⟩
          · have d0 : decide ((0 : Int) < (y.size : Int)) = false := decide_eq_false (by omega)
            have d0' : decide (0 < y.size) = false := decide_eq_false h0
            have e : Q = false := by rw [← HQ.out, d0']; rfl
            subst e
            go_wp2
            go_meet
            exact ⟨rfl, rfl⟩
        case rest =>
        obtain ⟨rfl, he⟩ := hcut
        have he := he.symm
        subst he
        cases Q with
        | true =>
          have h := HQ.out
          rw [Bool.and_eq_true, decide_eq_true_eq, beq_iff_eq] at h
          obtain ⟨h0, hc⟩ := h
          obtain ⟨m, hm⟩ : ∃ m, y.size = m + 1 := ⟨y.size - 1, by omega⟩
          have hl := ln_last y m hm
          have hcm : ((y[m]'(by omega)).toNat : Int) = 32 := by
            rw [show y.size - 1 = m from by omega, ln_cons y m (by omega)] at hc
            exact hc
          rw [hcm] at hl
          have HY2 : Hid (btL x = btL (y.extract 0 m) ++ spN (k + 1)) := Lib.hid (by rw [HY.out, hl, List.append_assoc]; rfl)
          have HYH2 : Hid (btL (y.extract 0 m) = [] ∨ ∃ c r, btL (y.extract 0 m) = c :: r ∧ sp1 c = false) := Lib.hid (by
            rcases HYH.out with h | ⟨c, r, h, hc⟩
            · rw [h] at hl
              have := congrArg List.length hl
              simp at this
            · cases hq : btL (y.extract 0 m) with
              | nil => exact Or.inl rfl
              | cons d q =>
                rw [hq, h, List.cons_append] at hl
                injection hl with e1 e2
                exact Or.inr ⟨d, q, rfl, by rw [← e1]; exact hc⟩)
          have hsz : (y.extract 0 m).size = m := by simp; omega
          have em : (y.size : Int) - 1 = (m : Int) := by omega
          have wm : IntKind.i64.wrap ((y.size : Int) - 1) = (m : Int) := by rw [em]; exact IntWalk.i64_in _ (by omega)
          have m0 : (0 : Int) ≤ (m : Int) := by omega
          have m1 : (m : Int) ≤ (y.size : Int) := by omega
          clear hc hl hcm HQ
          go_wp2
          go_round
          case rel => exact ⟨_, k + 1, rfl, by omega, HY2, HYH2⟩
          case measure => show (y.extract 0 m).size < y.size; omega
        | false =>
          have HPT := Lib.hid (parseF_trim HXE.out HXH.out HY.out HYH.out)
          rw [HO.out] at HPT
          clear HQ HY HYH HXE HXH
          go_upto_region 6 with fail
          refine code_forget (fun W => Hid (ItsM W w.heap.size (some ⟨w.heap.size, 0, none⟩) 0 0 []) ∧ Hid (Below w.heap.size w W)) ⟨Lib.hid ⟨Own.lit (w := w) (B := w.heap.size) (n := 0) (size := 5) (cs := #[]) (E := 73) (Nat.le_refl _) (by decide) rfl, rfl, fun x hx => (by cases hx)⟩, Lib.hid ((Below.refl w.heap.size w).alloc (Nat.le_refl _) _)⟩ ?_
          obtain ⟨g0, hg0⟩ : ∃ z, w.heap.size = z := ⟨_, rfl⟩
          have HG0 := Lib.hid hg0
          rintro w1 ⟨I1, B1⟩
          rw [hg0] at I1 ⊢
          clear hg0
          by_cases h0 : btL y = []
          · have he : y.toList.isEmpty = true := by
              rw [emp_size]
              have : y.size = 0 := by rw [← btL_length, h0]; rfl
              simp [this]
            have HF : Hid (o = some []) := Lib.hid (HPT.out.1 h0)
            clear h0
            go_wp2
            go_ret2
            exact ⟨true, [], 0, some ⟨g0, 0, none⟩, 0, rfl, HF.out, by omega, by rw [HG0.out]; exact I1.out, fun _ => rfl, B1.out⟩
          · have he : y.toList.isEmpty = false := by
              rw [emp_size]
              have : y.size ≠ 0 := fun h => h0 (by rw [← List.length_eq_zero_iff, btL_length, h])
              simp [this]
            have HF : Hid (o = CG 0 (btL y)) := Lib.hid (HPT.out.2 h0)
            clear h0 HPT
            go_wp2_with fail
            go_loopw [4, 5] (fun ov iv wr => ∃ (L : List IX) (n : Nat) (a : Option Addr) (cap i : Nat), ov = .slice a n cap ∧ iv = .int .i64 (i : Int) ∧ i ≤ y.size ∧ n ≤ 16 ∧ Hid (ItsM wr w.heap.size a n cap L) ∧ Hid (o = (CG n ((btL y).drop i)).map fun is => L.map IX.f ++ is) ∧ Hid (Below w.heap.size w wr)) (fun _ iv _ => y.size - (intOf iv).toNat)
            case atStart => exact ⟨[], 0, some ⟨g0, 0, none⟩, 0, 0, rfl, rfl, by omega, by omega, Lib.hid (by rw [HG0.out]; exact I1.out), Lib.hid (by rw [HF.out, List.drop_zero]; simp), B1⟩
            case round =>
              clear I1 B1 HF
              obtain ⟨L, n, a, cap, i, rfl, rfl, hi, hn, HI, HP, HB⟩ := hrel
              have IT := Lib.hid (ritem_at y hy i hi wr)
              go_wp2_with fail
              refine IT.out.mono ?_
              rintro e w2 ⟨x7, r, rfl, hb, hd⟩
              have HD := Lib.hid hd
              have HI2 := Lib.hid (HI.out.later hb)
              have HB2 := Lib.hid (HB.out.trans (hb.mono HB.out.size))
              have HLA : Hid (∀ k, a = some ⟨k, 0, none⟩ → k < wr.heap.size) := Lib.hid (fun k e => (own_ltF HI.out.own e).2)
              have HBM := Lib.hid HB.out.size
              clear hd hb IT
              obtain ⟨⟨xk, ⟨vk, vn, vs⟩⟩, xps, xn, xa, xc⟩ := x7
              go_upto_region 10 with fail
              refine code_forget (fun W => Hid (Box W w2.heap.size #[.string xk, .int .i64 vk, .int .i64 vn, .string vs, .slice xa xn xc] 73) ∧ Hid (Below w2.heap.size w2 W)) ⟨Lib.hid (Box.new w2 _ _), Lib.hid ((Below.refl w2.heap.size w2).alloc (Nat.le_refl _) _)⟩ ?_
              obtain ⟨xb, hxb⟩ : ∃ z, w2.heap.size = z := ⟨_, rfl⟩
              rintro w3 ⟨BX, hb⟩
              have HI3 := Lib.hid (HI2.out.later hb.out)
              have HB3 := Lib.hid (HB2.out.trans (hb.out.mono HB2.out.size))
              have HSZ3 : Hid (w2.heap.size ≤ w3.heap.size) := Lib.hid hb.out.size
              have HD3 : Hid ((itemF ((btL y).drop i) = none ∧ r = -1) ∨ ∃ k : Nat, i < k ∧ k ≤ y.size ∧ r = (k : Int) ∧ itemF ((btL y).drop i) = some (IX.f ⟨⟨xk, ⟨vk, vn, vs⟩⟩, xps, xn, xa, xc⟩, (btL y).drop k) ∧ xps.length = xn ∧ Own w3 wr.heap.size 110 4 xa xn xc (pbV xps)) := Lib.hid (by
                rcases HD.out with h | ⟨k, h1, h2, h3, h4, h5, h6⟩
                · exact Or.inl h
                · exact Or.inr ⟨k, h1, h2, h3, h4, h5, h6.later hb.out⟩)
              rw [hxb] at BX ⊢
              clear hxb hb HD HI2 HB2 HI HB
              rcases HD3.out with ⟨hnone, rfl⟩ | ⟨k, hik, hks, rfl, hsome, hxl, hown⟩
              · have HE : Hid (o = none) := Lib.hid (by rw [HP.out, CG_none hnone]; rfl)
                clear hnone HD3 HP
                go_wp2
                go_ret2
                exact ⟨false, [], 0, none, 0, rfl, HE.out, by omega, ItsM.nil _ _, fun _ => rfl, HB3.out⟩
              · have HSM := Lib.hid hsome
                have HXL := Lib.hid hxl
                have HOW := Lib.hid hown
                clear hsome hxl hown HD3
                have kd : decide ((k : Int) < 0) = false := decide_eq_false (by omega)
                have x0 := BX.out.cell 0
                have x1 := BX.out.cell 1
                have x2 := BX.out.cell 2
                have x3 := BX.out.cell 3
                have x4 := BX.out.cell 4
                by_cases h16 : n = 16
                · have HE : Hid (o = none) := Lib.hid (by rw [HP.out, CG_full HSM.out h16]; rfl)
                  have d1 : decide ((16 : Int) < (n : Int) + 1) = true := decide_eq_true (by omega)
                  have d2 : decide (16 < n + 1) = true := decide_eq_true (by omega)
                  clear HP h16
                  go_wp2_with (at_builtin; refine wpList_app1 rowItm rfl _ _ rfl w.heap.size a n cap (ixV L) rfl HI3.out.own #[.string xk, .int .i64 vk, .int .i64 vn, .string vs, .slice xa xn xc] rfl rfl (ixone ⟨⟨xk, ⟨vk, vn, vs⟩⟩, xps, xn, xa, xc⟩) (by omega) (by decide) (by have := HB3.out.size; omega) (n + 1) rfl (ixV (L ++ [(⟨⟨xk, ⟨vk, vn, vs⟩⟩, xps, xn, xa, xc⟩ : IX)])) (ixV_snoc L (⟨⟨xk, ⟨vk, vn, vs⟩⟩, xps, xn, xa, xc⟩ : IX)) ?_; rintro g9 cap9 w9 own9 gr9 bel9 or9; have HI9 : Hid (ItsM w9 w.heap.size (some ⟨g9, 0, none⟩) (n + 1) cap9 (L ++ [(⟨⟨xk, ⟨vk, vn, vs⟩⟩, xps, xn, xa, xc⟩ : IX)])) := Lib.hid (HI3.out.add (x := ⟨⟨xk, ⟨vk, vn, vs⟩⟩, xps, xn, xa, xc⟩) HOW.out HXL.out HBM.out HLA.out own9 gr9 (or9.imp id (fun e => by rw [e]; omega))); have HB9 : Hid (Below w.heap.size w w9) := Lib.hid (HB3.out.trans bel9); clear own9 gr9 bel9 or9 x0 x1 x2 x3 x4)
                  go_ret2
                  exact ⟨false, [], 0, none, 0, rfl, HE.out, by omega, ItsM.nil _ _, fun _ => rfl, HB9.out⟩
                · have d1 : decide ((16 : Int) < (n : Int) + 1) = false := decide_eq_false (by omega)
                  have d2 : decide (16 < n + 1) = false := decide_eq_false (by omega)
                  have H16 := Lib.hid h16
                  have hn2 : n + 1 ≤ 16 := by omega
                  clear h16
                  obtain ⟨X, hX⟩ : ∃ X : IX, (⟨⟨xk, ⟨vk, vn, vs⟩⟩, xps, xn, xa, xc⟩ : IX) = X := ⟨_, rfl⟩
                  have HXX := Lib.hid hX
                  clear hX
                  have BL := Lib.hid (fun W : World => rblanks_at y hy k hks W)
                  go_wp2_with (at_builtin; refine wpList_app1 rowItm rfl _ _ rfl w.heap.size a n cap (ixV L) rfl HI3.out.own #[.string xk, .int .i64 vk, .int .i64 vn, .string vs, .slice xa xn xc] rfl rfl (ixone ⟨⟨xk, ⟨vk, vn, vs⟩⟩, xps, xn, xa, xc⟩) (by omega) (by decide) (by have := HB3.out.size; omega) (n + 1) rfl (ixV (L ++ [(⟨⟨xk, ⟨vk, vn, vs⟩⟩, xps, xn, xa, xc⟩ : IX)])) (ixV_snoc L (⟨⟨xk, ⟨vk, vn, vs⟩⟩, xps, xn, xa, xc⟩ : IX)) ?_; rintro g9 cap9 w9 own9 gr9 bel9 or9; have HI9 : Hid (ItsM w9 w.heap.size (some ⟨g9, 0, none⟩) (n + 1) cap9 (L ++ [(⟨⟨xk, ⟨vk, vn, vs⟩⟩, xps, xn, xa, xc⟩ : IX)])) := Lib.hid (HI3.out.add (x := ⟨⟨xk, ⟨vk, vn, vs⟩⟩, xps, xn, xa, xc⟩) HOW.out HXL.out HBM.out HLA.out own9 gr9 (or9.imp id (fun e => by rw [e]; omega))); have HB9 : Hid (Below w.heap.size w w9) := Lib.hid (HB3.out.trans bel9); clear own9 gr9 bel9 or9 x0 x1 x2 x3 x4)
                  rw [HXX.out] at HI9 HSM
                  refine (BL.out _).mono ?_
                  rintro e wx ⟨k2, rfl, hw, hk2, hk2s, hdw⟩
                  subst wx
                  have HDW := Lib.hid hdw
                  clear hdw BL d1 d2 kd
                  by_cases he2 : k2 < y.size
                  · have l1 : decide ((y.size : Int) ≤ (k2 : Int)) = false := decide_eq_false (by omega)
                    have l2 : decide (y.size ≤ k2) = false := decide_eq_false (by omega)
                    have l3 : decide (k2 < y.size) = true := decide_eq_true he2
                    obtain ⟨c, hc⟩ : ∃ c : Int, (y[k2].toNat : Int) = c := ⟨_, rfl⟩
                    have HDR : Hid ((btL y).drop k2 = c :: (btL y).drop (k2 + 1)) := Lib.hid (by rw [← hc]; exact ln_cons y k2 he2)
                    have kx0 : (0 : Int) ≤ (k2 : Int) := by omega
                    have kx1 : (k2 : Int) < (y.size : Int) := by omega
                    by_cases hc44 : c = 44
                    · have x1 : (c != 44) = false := by rw [hc44]; rfl
                      have B2 := Lib.hid (fun W : World => rblanks_at y hy (k2 + 1) (by omega) W)
                      have e1 : ((k2 + 1 : Nat) : Int) = (k2 : Int) + 1 := by omega
                      rw [e1] at B2
                      have w1 : IntKind.i64.wrap ((k2 : Int) + 1) = (k2 : Int) + 1 := IntWalk.i64_in _ (by omega)
                      have HNX : Hid (((btL y).drop k).dropWhile blI = 44 :: (btL y).drop (k2 + 1)) := Lib.hid (by rw [HDW.out, HDR.out, hc44])
                      clear hc44 e1
                      go_wp2_with fail
                      refine (B2.out _).mono ?_
                      rintro e wx ⟨k3, rfl, hw, hk3, hk3s, hdw⟩
                      subst wx
                      have HP2 : Hid (o = (CG (n + 1) ((btL y).drop k3)).map fun is => (L ++ [X]).map IX.f ++ is) := Lib.hid (by
                        rw [HP.out, CG_next HSM.out H16.out HNX.out, hdw, Option.map_map]
                        congr 1
                        funext is
                        simp)
                      clear hdw HP HSM HNX HDR HDW B2
                      go_wp2
                      go_roundw
                      case rel => exact ⟨L ++ [X], n + 1, some ⟨g9, 0, none⟩, cap9, k3, rfl, rfl, hk3s, hn2, HI9, HP2, HB9⟩
                      case measure => simp [intOf]; omega
                    · have x1 : (c != 44) = true := by simpa using hc44
                      have HE : Hid (o = none) := Lib.hid (by
                        rw [HP.out, CG_stop HSM.out H16.out (by rw [HDW.out, HDR.out]; simp) (by
                          rw [HDW.out, HDR.out]
                          cases hh : cutS [44] (c :: (btL y).drop (k2 + 1)) with
                          | none => rfl
                          | some q =>
                            have e := cutS_some hh
                            injection e with e _
                            exact absurd e hc44)]
                        rfl)
                      clear hc44 HP HSM HDR HDW
                      go_wp2
                      go_ret2
                      exact ⟨false, [], 0, none, 0, rfl, HE.out, by omega, ItsM.nil _ _, fun _ => rfl, HB9.out⟩
                  · have l1 : decide ((y.size : Int) ≤ (k2 : Int)) = true := decide_eq_true (by omega)
                    have l2 : decide (y.size ≤ k2) = true := decide_eq_true (by omega)
                    have HE : Hid (o = some ((L ++ [X]).map IX.f)) := Lib.hid (by
                      rw [HP.out, CG_end HSM.out H16.out (by rw [HDW.out, List.drop_eq_nil_of_le (by rw [btL_length]; omega)])]
                      simp)
                    clear HP HSM HDW
                    go_wp2
                    go_ret2
                    exact ⟨true, L ++ [X], n + 1, some ⟨g9, 0, none⟩, cap9, rfl, HE.out, hn2, HI9.out, (fun h => by cases h), HB9.out⟩
end Go.Proofs.YtodibjpojfipoaaGreatDoor
namespace Go.Proofs.YtodibjpojfipoaaGreatDoor
open Go Go.RowKit
set_option linter.unusedVariables false
set_option linter.unusedSimpArgs false
set_option maxRecDepth 10000

theorem lastF_snoc (k : List Int) (l : List FPar) (p : FPar) : lastF k (l ++ [p]) = if p.1 = k then numV p.2 else lastF k l := by
  unfold lastF
  rw [List.reverse_append]
  rfl
theorem lastF_no (k : List Int) : ∀ l : List FPar, (lastF k l).2 = false → (lastF k l).1 = 0 := by
  intro l
  unfold lastF
  generalize l.reverse = r
  induction r with
  | nil => intro _; rfl
  | cons p r ih =>
    unfold revF
    split
    · intro h
      unfold numV at h ⊢
      rw [if_neg (of_decide_eq_false h)]
    · exact ih
theorem rdC_ownG {w : World} {B g size n cap : Nat} {E : TypeId} {ys : List Value} (h : Own w B E size (some ⟨g, 0, none⟩) n cap ys) : RdC w (some ⟨g, 0, none⟩) ys := fun j u hj => ⟨g, 0, rfl, by rw [Nat.zero_add]; exact h.cell hj⟩
theorem one_pb (a : ByteArray) (b c : Int) (d : ByteArray) : ∀ u ∈ [Value.string a, .int .i64 b, .int .i64 c, .string d], u.oneCell' = true := by
  intro u hu
  simp at hu
  rcases hu with rfl | rfl | rfl | rfl <;> rfl
set_option maxHeartbeats 4000000 in
theorem rnumber7_at (sa : Option Addr) (g off c : Nat) (hs : List PB) (hl : hs.length ≤ 1000000) (k : ByteArray) (w : World) (hA : hs ≠ [] → PbAt w g off hs) (hSa : hs ≠ [] → sa = some ⟨g, off, none⟩) :
    Calls Tryz.prog 100 #[.slice sa hs.length c, .string k] w fun e w' => e = .returned (.tuple #[.int .i64 (lastF (btL k) (hs.map PB.f)).1, .bool (lastF (btL k) (hs.map PB.f)).2]) ∧ Below w.heap.size w w' := by
  obtain ⟨Z, hZ⟩ : ∃ Z, lastF (btL k) (hs.map PB.f) = Z := ⟨_, rfl⟩
  have HZ := Lib.hid hZ
  have HNO : Hid (Z.2 = false → Z.1 = 0) := Lib.hid (by rw [← hZ]; exact lastF_no _ _)
  obtain ⟨m, hm⟩ : ∃ m, hs.length = m := ⟨_, rfl⟩
  have HM := Lib.hid hm
  have HA := Lib.hid hA
  have HSA := Lib.hid hSa
  rw [hZ, hm]
  rw [hm] at hl
  clear hZ hm hA hSa
  go_enter Tryz.func100, Tryz.ntmps100
  go_wp2_with fail
  go_loopw [6, 7, 8] (fun nv b j wr => ∃ (i : Nat) (v : Int) (q : Bool), i ≤ m ∧ nv = .int .i64 v ∧ b = .bool q ∧ j = .int .i64 (i : Int) ∧ Hid (q = (lastF (btL k) ((hs.take i).map PB.f)).2) ∧ Hid (q = true → v = (lastF (btL k) ((hs.take i).map PB.f)).1) ∧ Hid (Below w.heap.size w wr)) (fun _ _ j _ => m - (intOf j).toNat)
  case atStart => exact ⟨0, 0, false, by omega, rfl, rfl, rfl, Lib.hid rfl, Lib.hid (fun h => by cases h), Lib.hid (Below.refl _ _)⟩
  case round =>
    obtain ⟨i, v, q, hi, rfl, rfl, rfl, HQ, HV, HW⟩ := hrel
    by_cases hlt : i < m
    · have kd : decide ((i : Int) < (m : Int)) = true := decide_eq_true (by omega)
      obtain ⟨z, hzz⟩ : ∃ z, hs[i]? = some z := ⟨_, List.getElem?_eq_getElem (by rw [HM.out]; exact hlt)⟩
      have hne : hs ≠ [] := fun h => by rw [h] at hzz; simp at hzz
      obtain rfl := HSA.out hne
      have hA1 := HA.out hne
      have c0 := (HW.out.cell hA1.lt).trans (hA1.at_ i z hzz 0 _ rfl)
      have c1 := (HW.out.cell hA1.lt).trans (hA1.at_ i z hzz 1 _ rfl)
      have c2 := (HW.out.cell hA1.lt).trans (hA1.at_ i z hzz 2 _ rfl)
      simp only [Nat.add_zero] at c0
      have c2' : wr.cell? ⟨g, off + i * 4 + 1 + 1, none⟩ = some (.int .i64 z.v.n) := c2
      have e : hs.take (i + 1) = hs.take i ++ [z] := by rw [List.take_add_one, hzz]; rfl
      have HS : Hid (lastF (btL k) ((hs.take (i + 1)).map PB.f) = if btL z.key = btL k then numV z.v.f else lastF (btL k) ((hs.take i).map PB.f)) := Lib.hid (by
        rw [e, List.map_append]
        exact lastF_snoc _ _ _)
      obtain ⟨zk, ⟨zvk, zvn, zvs⟩⟩ := z
      dsimp only at c0 c1 c2 c2' HS
      obtain ⟨E, hE⟩ : ∃ b, (zk.toList == k.toList) = b := ⟨_, rfl⟩
      have HE : Hid (E = decide (btL zk = btL k)) := Lib.hid (by
        rw [← hE, lowB_eqs]
        by_cases h : zk = k
        · rw [decide_eq_true h, decide_eq_true (by rw [h])]
        · rw [decide_eq_false h, decide_eq_false (fun h2 => h (btL_inj h2))])
      have ix0 : (0 : Int) ≤ (i : Int) := by omega
      have ix1 : (i : Int) < (m : Int) := by omega
      clear e hne hA1 hzz HSA
      cases E with
      | false =>
        have HS2 : Hid (lastF (btL k) ((hs.take (i + 1)).map PB.f) = lastF (btL k) ((hs.take i).map PB.f)) := Lib.hid (by rw [HS.out, if_neg (of_decide_eq_false HE.out.symm)])
        have HQ2 : Hid (q = (lastF (btL k) ((hs.take (i + 1)).map PB.f)).2) := Lib.hid (by rw [HS2.out]; exact HQ.out)
        have HV2 : Hid (q = true → v = (lastF (btL k) ((hs.take (i + 1)).map PB.f)).1) := Lib.hid (by rw [HS2.out]; exact HV.out)
        clear HS HS2 HQ HV HE
        go_wp2
        go_roundw
        case rel => exact ⟨i + 1, v, q, by omega, rfl, rfl, by go_num, HQ2, HV2, HW⟩
        case measure => simp [intOf]; omega
      | true =>
        have HS2 : Hid (lastF (btL k) ((hs.take (i + 1)).map PB.f) = (if zvk = 1 then zvn else 0, decide (zvk = 1))) := Lib.hid (by rw [HS.out, if_pos (of_decide_eq_true HE.out.symm)]; rfl)
        obtain ⟨b1, hb1⟩ : ∃ b, (zvk == 1) = b := ⟨_, rfl⟩
        have HQ2 : Hid (b1 = (lastF (btL k) ((hs.take (i + 1)).map PB.f)).2) := Lib.hid (by rw [HS2.out, ← hb1]; by_cases h : zvk = 1 <;> simp [h])
        have HV2 : Hid (b1 = true → zvn = (lastF (btL k) ((hs.take (i + 1)).map PB.f)).1) := Lib.hid (fun h => by rw [h] at hb1; rw [HS2.out, if_pos (beq_iff_eq.1 hb1)])
        clear HS HS2 HQ HV HE
        go_upto_region 6 with fail
        go_quiet (fail)
        obtain ⟨w1, hw1'⟩ : ∃ W, wr.drewN nq = W := ⟨_, rfl⟩
        have B1 : Hid (Below w.heap.size w w1) := Lib.hid (by rw [← hw1']; exact below_dn HW.out nq)
        rw [hw1']
        clear hw1' c0 c1 c2 c2' HW
        go_wp2
        go_roundw
        case rel => exact ⟨i + 1, zvn, b1, by omega, rfl, rfl, by go_num, HQ2, HV2, B1⟩
        case measure => simp [intOf]; omega
    · have kd : decide ((i : Int) < (m : Int)) = false := decide_eq_false (by omega)
      have e : hs.take i = hs := List.take_of_length_le (by rw [HM.out]; omega)
      have HQ2 : Hid (q = Z.2) := Lib.hid (by rw [HQ.out, e, HZ.out])
      have HV2 : Hid (q = true → v = Z.1) := Lib.hid (fun h => by rw [HV.out h, e, HZ.out])
      clear e HQ HV
      cases q with
      | false =>
        go_wp2
        go_ret2
        exact ⟨by rw [← HQ2.out, HNO.out HQ2.out.symm]; rfl, HW.out⟩
      | true =>
        have hv := HV2.out rfl
        subst hv
        go_wp2
        go_ret2
        exact ⟨by rw [← HQ2.out]; rfl, HW.out⟩
set_option maxHeartbeats 4000000 in
theorem rparam7_at (ik i3 : ByteArray) (i1 i2 : Int) (sa : Option Addr) (g off c : Nat) (hs : List PB) (hl : hs.length ≤ 1000000) (k : ByteArray) (w : World) (hA : hs ≠ [] → PbAt w g off hs) (hSa : hs ≠ [] → sa = some ⟨g, off, none⟩) :
    Calls Tryz.prog 63 #[.agg #[.string ik, .int .i64 i1, .int .i64 i2, .string i3, .slice sa hs.length c], .string k] w fun e w' => e = .returned (.tuple #[.int .i64 (lastF (btL k) (hs.map PB.f)).1, .bool (lastF (btL k) (hs.map PB.f)).2]) ∧ Below w.heap.size w w' := by
  have NM := Lib.hid (fun (W : World) (hW : Below w.heap.size w W) => rnumber7_at sa g off c hs hl k W (fun h => ⟨Nat.lt_of_lt_of_le (hA h).lt hW.size, fun i x hx j v hv => (hW.cell (hA h).lt).trans ((hA h).at_ i x hx j v hv)⟩) hSa)
  obtain ⟨⟨z0, z1⟩, hZ⟩ : ∃ Z, lastF (btL k) (hs.map PB.f) = Z := ⟨_, rfl⟩
  rw [hZ] at NM ⊢
  obtain ⟨m, hm⟩ : ∃ m, hs.length = m := ⟨_, rfl⟩
  rw [hm] at NM ⊢
  dsimp only at NM ⊢
  clear hZ hm hA hSa hl
  go_enter Tryz.func63, Tryz.ntmps63
  go_upto_region 1 with fail
  refine code_forget (fun W => Hid (Box W w.heap.size #[.string ik, .int .i64 i1, .int .i64 i2, .string i3, .slice sa m c] 73) ∧ Hid (Below w.heap.size w W)) ⟨Lib.hid (Box.new w _ _), Lib.hid ((Below.refl w.heap.size w).alloc (Nat.le_refl _) _)⟩ ?_
  obtain ⟨xb, hxb⟩ : ∃ x, w.heap.size = x := ⟨_, rfl⟩
  rintro w1 ⟨BX, HB⟩
  rw [hxb] at BX ⊢
  have x4 := BX.out.cell 4
  clear hxb
  go_wp2_with fail
  refine (NM.out _ HB.out).mono ?_
  rintro e w2 ⟨rfl, hb⟩
  have HB2 := Lib.hid (HB.out.trans (hb.mono HB.out.size))
  clear hb
  go_wp2
  go_ret2
  exact ⟨rfl, HB2.out⟩
theorem pbV_k (L : List IX) : ∀ i, i < L.length → ∀ z, L[i]? = some z → pbV ((L.take i).map IX.k) ++ [.string z.k.key, .int .i64 z.k.v.k, .int .i64 z.k.v.n, .string z.k.v.s] = pbV ((L.take (i + 1)).map IX.k) := by
  intro i _ z hz
  rw [List.take_add_one, hz]
  unfold pbV
  rw [List.map_append, List.flatMap_append]
  simp [pbL]
set_option maxHeartbeats 4000000 in
theorem rNumber7_at (sa : Option Addr) (g off c : Nat) (L : List IX) (hl : L.length ≤ 1000) (k : ByteArray) (w : World) (hA : L ≠ [] → IxAt w g off L) (hSa : L ≠ [] → sa = some ⟨g, off, none⟩) :
    Calls Tryz.prog 62 #[.slice sa L.length c, .string k] w fun e w' => e = .returned (.tuple #[.int .i64 (lastF (btL k) ((L.map IX.f).map kvF)).1, .bool (lastF (btL k) ((L.map IX.f).map kvF)).2]) ∧ Below w.heap.size w w' := by
  have ek : (L.map IX.f).map kvF = (L.map IX.k).map PB.f := by rw [List.map_map, List.map_map]; rfl
  rw [ek]
  clear ek
  obtain ⟨m, hm⟩ : ∃ m, L.length = m := ⟨_, rfl⟩
  have HM := Lib.hid hm
  have HA := Lib.hid hA
  have HSA := Lib.hid hSa
  have mixed : Tryz.prog.follows .mixedOrders = true := by kernel_rfl
  rw [hm] at hl ⊢
  obtain ⟨z0, hz0⟩ : ∃ z, (lastF (btL k) ((L.map IX.k).map PB.f)).1 = z := ⟨_, rfl⟩
  obtain ⟨z1, hz1⟩ : ∃ z, (lastF (btL k) ((L.map IX.k).map PB.f)).2 = z := ⟨_, rfl⟩
  have HZ := Lib.hid (And.intro hz0 hz1)
  rw [hz0, hz1]
  clear hm hA hSa hz0 hz1
  go_enter Tryz.func62, Tryz.ntmps62
  go_upto_region 2 with fail
  refine code_forget (fun W => Hid (Own W w.heap.size 110 4 (some ⟨w.heap.size, 0, none⟩) 0 0 []) ∧ Hid (Below w.heap.size w W)) ⟨Lib.hid (Own.lit (w := w) (B := w.heap.size) (n := 0) (size := 4) (cs := #[]) (E := 110) (Nat.le_refl _) (by decide) rfl), Lib.hid ((Below.refl w.heap.size w).alloc (Nat.le_refl _) _)⟩ ?_
  obtain ⟨g0, hg0⟩ : ∃ z, w.heap.size = z := ⟨_, rfl⟩
  have HG0 := Lib.hid hg0
  rintro w1 ⟨I1, B1⟩
  rw [hg0] at I1 ⊢
  clear hg0
  go_wp2_with fail
  go_loopw [6, 7] (fun l j wr => ∃ (i : Nat) (a : Option Addr) (cap : Nat), i ≤ m ∧ l = .slice a i cap ∧ j = .int .i64 (i : Int) ∧ Hid (Own wr w.heap.size 110 4 a i cap (pbV ((L.take i).map IX.k))) ∧ Hid (Below w.heap.size w wr)) (fun _ j _ => m - (intOf j).toNat)
  case atStart => exact ⟨0, some ⟨g0, 0, none⟩, 0, by omega, rfl, rfl, Lib.hid (by rw [HG0.out]; exact I1.out), B1⟩
  case round =>
    clear I1 B1
    obtain ⟨i, a, cap, hi, rfl, rfl, HOW, HB⟩ := hrel
    by_cases hlt : i < m
    · have kd : decide ((i : Int) < (m : Int)) = true := decide_eq_true (by omega)
      obtain ⟨z, hzz⟩ : ∃ z, L[i]? = some z := ⟨_, List.getElem?_eq_getElem (by rw [HM.out]; exact hlt)⟩
      have hne : L ≠ [] := fun h => by rw [h] at hzz; simp at hzz
      obtain rfl := HSA.out hne
      have hA1 := HA.out hne
      have hlA : g < w.heap.size := hA1.lt
      have k0 := (HB.out.cell hA1.lt).trans (hA1.at_ i z hzz 0 _ rfl)
      have k1 := (HB.out.cell hA1.lt).trans (hA1.at_ i z hzz 1 _ rfl)
      have k2 := (HB.out.cell hA1.lt).trans (hA1.at_ i z hzz 2 _ rfl)
      have k3 := (HB.out.cell hA1.lt).trans (hA1.at_ i z hzz 3 _ rfl)
      simp only [Nat.add_zero] at k0
      have HZZ := Lib.hid (pbV_k L i (by rw [HM.out]; exact hlt) z hzz)
      obtain ⟨⟨xk, ⟨vk, vn, vs⟩⟩, xps, xn, xa, xc⟩ := z
      dsimp only at k0 k1 k2 k3 HZZ
      have k2 : wr.cell? ⟨g, off + i * 5 + 1 + 1, none⟩ = some (.int .i64 vn) := k2
      have k3 : wr.cell? ⟨g, off + i * 5 + 1 + 2, none⟩ = some (.string vs) := k3
      have ix0 : (0 : Int) ≤ (i : Int) := by omega
      have ix1 : (i : Int) < (m : Int) := by omega
      have OWD : Hid (Own wr.drew w.heap.size 110 4 a i cap (pbV ((L.take i).map IX.k))) := Lib.hid HOW.out.drew
      have HB12 : Hid (w.heap.size ≤ wr.drew.heap.size) := Lib.hid HB.out.size
      clear hne hA1 hzz HSA HOW
      go_upto_region 5 with fail
      refine wp_region_last 14 (fun w' => Below w.heap.size wr w') (by kernel_rfl) ((Below.refl _ _).drew) (fun hHeld hClosed => ?_)
      refine wpAnyL_take (i := 0) (v := ?_) rfl (by kernel_rfl) (by kernel_rfl) (by kernel_rfl) (by kernel_rfl) (fun _ _ _ h => h) (by kernel_rfl) hClosed (Or.inl ⟨by rfl, ?_⟩) hHeld (fun hClosed => ?_)
      rotate_left
      · intro wv hSw; go_simp; all_goals (with_reducible rfl)
      (try simp only [List.getElem_toArray, List.getElem_cons_zero, put_at, List.set])
      refine wpAnyL_take (i := 1) (v := ?_) rfl (by kernel_rfl) (by kernel_rfl) (by kernel_rfl) (by kernel_rfl) (fun _ _ _ h => h) (by kernel_rfl) hClosed (Or.inl ⟨by rfl, ?_⟩) hHeld (fun hClosed => ?_)
      rotate_left
      · intro wv hSw; go_simp; all_goals (with_reducible rfl)
      (try simp only [List.getElem_toArray, List.getElem_cons_succ, List.getElem_cons_zero, put_at, List.set])
      refine wpAnyL_take (i := 2) (v := ?_) rfl (by kernel_rfl) (by kernel_rfl) (by kernel_rfl) (by kernel_rfl) (fun _ _ _ h => h) (by kernel_rfl) hClosed (Or.inl ⟨by rfl, ?_⟩) hHeld (fun hClosed => ?_)
      rotate_left
      · intro wv hSw; go_simp; all_goals (with_reducible rfl)
      (try simp only [List.getElem_toArray, List.getElem_cons_succ, List.getElem_cons_zero, put_at, List.set])
      refine wpAnyL_take (i := 3) (v := ?_) rfl (by kernel_rfl) (by kernel_rfl) (by kernel_rfl) (by kernel_rfl) (fun _ _ _ h => h) (by kernel_rfl) hClosed (Or.inl ⟨by rfl, ?_⟩) hHeld (fun hClosed => ?_)
      rotate_left
      · intro wv hSw; go_simp; all_goals (with_reducible rfl)
      (try simp only [List.getElem_toArray, List.getElem_cons_succ, List.getElem_cons_zero, put_at, List.set])
      refine wpAnyL_take (i := 4) (v := ?_) rfl (by kernel_rfl) (by kernel_rfl) (by kernel_rfl) (by kernel_rfl) (fun _ _ _ h => h) (by kernel_rfl) hClosed (Or.inl ⟨by rfl, ?_⟩) hHeld (fun hClosed => ?_)
      rotate_left
      · intro wv hSw; go_simp; all_goals (with_reducible rfl)
      (try simp only [List.getElem_toArray, List.getElem_cons_succ, List.getElem_cons_zero, put_at, List.set])
      refine wpAnyL_take (i := 5) (v := ?_) rfl (by kernel_rfl) (by kernel_rfl) (by kernel_rfl) (by kernel_rfl) (fun _ _ _ h => h) (by kernel_rfl) hClosed (Or.inl ⟨by rfl, ?_⟩) hHeld (fun hClosed => ?_)
      rotate_left
      · intro wv hSw; have q0 := (hSw.cell hlA).trans k0; have q1 := (hSw.cell hlA).trans k1; have q2 := (hSw.cell hlA).trans k2; have q3 := (hSw.cell hlA).trans k3; go_simp; all_goals (with_reducible rfl)
      (try simp only [List.getElem_toArray, List.getElem_cons_succ, List.getElem_cons_zero, put_at, List.set])
      refine wpAnyL_take (i := 6) (v := ?_) rfl (by kernel_rfl) (by kernel_rfl) (by kernel_rfl) (by kernel_rfl) (fun _ _ _ h => h) (by kernel_rfl) hClosed (Or.inl ⟨by rfl, ?_⟩) hHeld (fun hClosed => ?_)
      rotate_left
      · intro wv hSw; go_simp; all_goals (with_reducible rfl)
      (try simp only [List.getElem_toArray, List.getElem_cons_succ, List.getElem_cons_zero, put_at, List.set])
      refine wpAnyL_take (i := 7) (v := ?_) rfl (by kernel_rfl) (by kernel_rfl) (by kernel_rfl) (by kernel_rfl) (fun _ _ _ h => h) (by kernel_rfl) hClosed (Or.inl ⟨by rfl, ?_⟩) hHeld (fun hClosed => ?_)
      rotate_left
      · intro wv hSw; go_simp; all_goals (with_reducible rfl)
      (try simp only [List.getElem_toArray, List.getElem_cons_succ, List.getElem_cons_zero, put_at, List.set])
      refine wpAnyL_take (i := 8) (v := ?_) rfl (by kernel_rfl) (by kernel_rfl) (by kernel_rfl) (by kernel_rfl) (fun _ _ _ h => h) (by kernel_rfl) hClosed (Or.inl ⟨by rfl, ?_⟩) hHeld (fun hClosed => ?_)
      rotate_left
      · intro wv hSw; go_simp; all_goals (with_reducible rfl)
      (try simp only [List.getElem_toArray, List.getElem_cons_succ, List.getElem_cons_zero, put_at, List.set])
      refine wpAnyL_take (i := 9) (v := ?_) rfl (by kernel_rfl) (by kernel_rfl) (by kernel_rfl) (by kernel_rfl) (fun _ _ _ h => h) (by kernel_rfl) hClosed (Or.inl ⟨by rfl, ?_⟩) hHeld (fun hClosed => ?_)
      rotate_left
      · intro wv hSw; go_simp; all_goals (with_reducible rfl)
      (try simp only [List.getElem_toArray, List.getElem_cons_succ, List.getElem_cons_zero, put_at, List.set])
      refine wpAnyL_take (i := 10) (v := ?_) rfl (by kernel_rfl) (by kernel_rfl) (by kernel_rfl) (by kernel_rfl) (fun _ _ _ h => h) (by kernel_rfl) hClosed (Or.inl ⟨by rfl, ?_⟩) hHeld (fun hClosed => ?_)
      rotate_left
      · intro wv hSw; have q0 := (hSw.cell hlA).trans k0; have q1 := (hSw.cell hlA).trans k1; have q2 := (hSw.cell hlA).trans k2; have q3 := (hSw.cell hlA).trans k3; go_simp; all_goals (with_reducible rfl)
      (try simp only [List.getElem_toArray, List.getElem_cons_succ, List.getElem_cons_zero, put_at, List.set])
      refine wpAnyL_take (i := 11) (v := ?_) rfl (by kernel_rfl) (by kernel_rfl) (by kernel_rfl) (by kernel_rfl) (fun _ _ _ h => h) (by kernel_rfl) hClosed (Or.inl ⟨by rfl, ?_⟩) hHeld (fun hClosed => ?_)
      rotate_left
      · intro wv hSw; go_simp; all_goals (with_reducible rfl)
      (try simp only [List.getElem_toArray, List.getElem_cons_succ, List.getElem_cons_zero, put_at, List.set])
      refine wpAnyL_one (i := 12) rfl (by kernel_rfl) (by kernel_rfl) hClosed (fun KK hK => ?_)
      go_simp
      refine hK.out _ _ ?_ (fun hClosed hHeld => ?_)
      · exact hHeld.alloc HB12.out _
      clear hK KK
      (first | simp only [List.getElem_toArray, List.getElem_cons_succ, List.getElem_cons_zero, put_at, List.set] | (try simp only [put_at, List.set]))
      refine wpAnyL_one (i := 13) rfl (by kernel_rfl) (by kernel_rfl) hClosed (fun KK hK => ?_)
      refine step_appE rowPar rfl _ _ rfl w.heap.size a i cap (pbV ((L.take i).map IX.k)) rfl (OWD.out.alloc _) (some ⟨wr.drew.heap.size, 0, none⟩) 1 1 [.string xk, .int .i64 vk, .int .i64 vn, .string vs] rfl rfl (rdC_ownG (Own.lit (w := wr.drew) (B := wr.drew.heap.size) (n := 1) (size := 4) (cs := #[.string xk, .int .i64 vk, .int .i64 vn, .string vs]) (E := 110) (Nat.le_refl _) (by decide) rfl)) (one_pb _ _ _ _) (by omega) (by decide) (by have := HB.out.size; simp; omega) (i + 1) rfl (pbV ((L.take (i + 1)).map IX.k)) HZZ.out ?_
      rintro a9 cap9 w9 own9 _ bel9 _
      refine hK.out _ _ ?_ (fun hClosed hHeld => ?_)
      · exact hHeld.trans bel9
      clear hK KK
      (first | simp only [List.getElem_toArray, List.getElem_cons_succ, List.getElem_cons_zero, put_at, List.set] | (try simp only [put_at, List.set]))
      refine wpAnyL_last rfl (by kernel_rfl) (by kernel_rfl) (fun KK hK => ?_)
      go_simp
      refine hK.out _ _ ?_
      (try simp only [put_at, List.set])
      have HB9 := Lib.hid (HB.out.drew.alloc HB.out.size _ |>.trans bel9)
      have HO9 := Lib.hid own9
      clear hHeld own9 bel9
      go_wp2
      go_roundw
      case rel => exact ⟨i + 1, a9, cap9, by omega, rfl, by go_num, HO9, HB9⟩
      case measure => simp [intOf]; omega
    · have kd : decide ((i : Int) < (m : Int)) = false := decide_eq_false (by omega)
      have e : i = m := by omega
      subst e
      have e2 : L.take i = L := List.take_of_length_le (by rw [HM.out]; omega)
      have HOW2 : Hid (Own wr w.heap.size 110 4 a i cap (pbV (L.map IX.k))) := Lib.hid (by have := HOW.out; rw [e2] at this; exact this)
      have hkl : (L.map IX.k).length = i := by rw [List.length_map, HM.out]
      have HSP : Hid (∃ g, (L.map IX.k ≠ [] → a = some ⟨g, 0, none⟩) ∧ (L.map IX.k ≠ [] → PbAt wr g 0 (L.map IX.k))) := Lib.hid (by
        by_cases h0 : L.map IX.k = []
        · exact ⟨0, fun h => absurd h0 h, fun h => absurd h0 h⟩
        · have : 0 < i := by rw [← hkl]; cases hh : L.map IX.k with | nil => exact absurd hh h0 | cons => simp
          obtain ⟨g, ha, _⟩ := HOW2.out.some_ this
          exact ⟨g, fun _ => ha, fun _ => pbAt_of HOW2.out ha⟩)
      obtain ⟨gp, hsp, hpt⟩ := HSP.out
      have NM := Lib.hid (rnumber7_at a gp 0 cap (L.map IX.k) (by rw [hkl]; omega) k wr hpt hsp)
      rw [hkl, HZ.out.1, HZ.out.2] at NM
      clear e2 hkl HSP hsp hpt HOW
      go_wp2_with fail
      refine NM.out.mono ?_
      rintro e w2 ⟨rfl, hb⟩
      have HB2 := Lib.hid (HB.out.trans (hb.mono HB.out.size))
      clear hb
      go_wp2
      go_ret2
      exact ⟨rfl, HB2.out⟩
end Go.Proofs.YtodibjpojfipoaaGreatDoor
