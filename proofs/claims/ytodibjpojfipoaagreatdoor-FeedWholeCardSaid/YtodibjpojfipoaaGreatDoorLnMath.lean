/- Package lines: the mathematics of lines, over the numbers of the bytes. No program here. -/
import Derived.Test.YtodibjpojfipoaaGreatDoorFrMath
import Derived.Test.YtodibjpojfipoaaGreatDoorUrMath
import Derived.Lib.FieldsP
import Derived.Lib.SlTrimSet
import Derived.Lib.Strings
import Derived.Lib.Index
import Derived.Lib.IndexMore
import Derived.Lib.DecodeN
import Derived.Laws.RangeAny
import Derived.WalkKit
namespace Go.Proofs.YtodibjpojfipoaaGreatDoor
open Go.RowKit
set_option linter.unusedVariables false
set_option linter.unusedSimpArgs false

theorem ln_extract (s : ByteArray) (a b : Nat) : btL (s.extract a b) = ((btL s).drop a).take (b - a) := by
  unfold btL
  rw [← List.map_drop, ← List.map_take]
  rw [Lib.extract_data]
theorem ln_cons (s : ByteArray) (i : Nat) (h : i < s.size) : (btL s).drop i = (s[i].toNat : Int) :: (btL s).drop (i + 1) := by
  have hk : i < (btL s).length := by simpa using h
  rw [List.drop_eq_getElem_cons hk]
  congr 1
  simp [btL]
  rfl
theorem ln_at (s : ByteArray) (k : Nat) (h : k < s.size) : (btL s)[k]? = some ((s[k].toNat : Nat) : Int) := by
  have := congrArg List.head? (ln_cons s k h)
  rw [List.head?_drop] at this
  exact this
theorem ln_take (s : ByteArray) (k : Nat) (h : k < s.size) : (btL s).take (k + 1) = (btL s).take k ++ [((s[k].toNat : Nat) : Int)] := by
  rw [List.take_add_one, ln_at s k h]
  rfl
/-- The bytes of a rune. -/
theorem pieceL_N (n b0 b1 b2 b3 : Nat) (hn : 1 ≤ n) : 1 ≤ (Lib.decodeN n b0 b1 b2 b3).2 ∧ (Lib.decodeN n b0 b1 b2 b3).2 ≤ n ∧ (Lib.decodeN n b0 b1 b2 b3).2 ≤ 4 ∧ (1 < (Lib.decodeN n b0 b1 b2 b3).2 → 128 ≤ b1) ∧ (2 < (Lib.decodeN n b0 b1 b2 b3).2 → 128 ≤ b2) ∧ (3 < (Lib.decodeN n b0 b1 b2 b3).2 → 128 ≤ b3) := by
  unfold Lib.decodeN
  repeat' split
  all_goals (dsimp only; refine ⟨by omega, by omega, by omega, fun _ => by omega, fun _ => by omega, fun _ => by omega⟩)
theorem getL_of (s : ByteArray) (i : Nat) (h : i < s.size) : s.get! i = s[i]'h := by simp [ByteArray.get!, getElem!_pos, h]; rfl
theorem runeL (s : ByteArray) (pos : Nat) (h : pos < s.size) : ∃ (rn wd : Nat), (Utf8.decode s pos).1 = rn ∧ (Utf8.decode s pos).2 = wd ∧ rn ≤ 2147483647 ∧ 1 ≤ wd ∧ pos + wd ≤ s.size ∧
    ((rn = s[pos].toNat ∧ rn < 128 ∧ wd = 1) ∨ (128 ≤ rn ∧ ∀ j (hj : pos + j < s.size), j < wd → 128 ≤ (s[pos + j]'hj).toNat)) := by
  obtain ⟨p1, p2, p3, p5, p6, p7⟩ := pieceL_N (s.size - pos) (s.get! pos).toNat (s.get! (pos + 1)).toNat (s.get! (pos + 2)).toNat (s.get! (pos + 3)).toNat (by omega)
  rw [← Lib.decode_at] at p1 p2 p3 p5 p6 p7
  have hl := decode_le s pos
  refine ⟨_, _, rfl, rfl, hl, p1, by omega, ?_⟩
  by_cases h1 : s[pos].toNat < 128
  · have := decode_ascii s pos h h1
    left
    rw [this]
    exact ⟨rfl, by simpa using h1, rfl⟩
  · right
    have := decode_high s pos h (by omega)
    refine ⟨this.1, fun j hj hjw => ?_⟩
    match j, hj, hjw with
    | 0, hj, _ => show 128 ≤ s[pos].toNat; omega
    | 1, hj, hw => have := p5 hw; rwa [getL_of s _ hj] at this
    | 2, hj, hw => have := p6 hw; rwa [getL_of s _ hj] at this
    | 3, hj, hw => have := p7 hw; rwa [getL_of s _ hj] at this
    | j + 4, hj, hw => omega
/-- What ends a line. -/
def endI (c : Int) : Bool := decide (c = 10) || decide (c = 13)
def pcs : List Int → List Int → List (List Int)
  | cur, [] => [cur]
  | cur, c :: t => if endI c = true then cur :: pcs [] t else pcs (cur ++ [c]) t
theorem pcs_run (xs t : List Int) : ∀ cur : List Int, (∀ c ∈ xs, endI c = false) → pcs cur (xs ++ t) = pcs (cur ++ xs) t := by
  induction xs with
  | nil => intro cur _; simp
  | cons c xs ih =>
    intro cur h
    rw [List.cons_append]
    conv => lhs; unfold pcs
    rw [h c (by simp), if_neg Bool.false_ne_true, ih _ (fun x hx => h x (by simp [hx]))]
    simp
def endR (n : Nat) : Bool := decide (n = 13) || decide (n = 10)
def full (p : List Int) : Bool := !p.isEmpty
def curL (s : ByteArray) (pos : Nat) : Option Nat → List Int
  | some a => ((btL s).drop a).take (pos - a)
  | none => []
theorem curL_full {s : ByteArray} {pos a : Nat} (h : a < pos) (h2 : pos ≤ s.size) : full (curL s pos (some a)) = true := by
  have := btL_length s
  have hl : (((btL s).drop a).take (pos - a)).length = pos - a := by rw [List.length_take, List.length_drop]; omega
  show (!(((btL s).drop a).take (pos - a)).isEmpty) = true
  cases hx : ((btL s).drop a).take (pos - a) with
  | nil => rw [hx] at hl; simp at hl; omega
  | cons x t => rfl
theorem spans_pcs (s : ByteArray) : ∀ (f pos : Nat) (st : Option Nat) (acc : List (Nat × Nat)), s.size ≤ pos + f → pos ≤ s.size → (∀ a, st = some a → a < pos) →
    ((Lib.closeSpans s (Lib.spansFromP endR s f pos st acc)).map fun x => btL (s.extract x.1 x.2)) = (acc.map fun x => btL (s.extract x.1 x.2)) ++ (pcs (curL s pos st) ((btL s).drop pos)).filter full
  | f, pos, st, acc, hf, hp, hst => by
    have hbl := btL_length s
    by_cases hlt : pos < s.size
    · obtain ⟨f, rfl⟩ : ∃ g, f = g + 1 := ⟨f - 1, by omega⟩
      obtain ⟨rn, wd, h1, h2, _, h4, h5, h6⟩ := runeL s pos hlt
      unfold Lib.spansFromP
      rw [if_pos hlt, h1, h2]
      have hdec : (btL s).drop pos = ((btL s).drop pos).take wd ++ (btL s).drop (pos + wd) := by
        rw [← List.drop_drop, List.take_append_drop]
      by_cases he : endR rn = true
      · rw [if_pos he]
        have hw : wd = 1 ∧ endI (s[pos].toNat : Int) = true := by
          unfold endR at he
          simp only [Bool.or_eq_true, decide_eq_true_eq] at he
          rcases h6 with ⟨e1, e2, e3⟩ | ⟨e1, _⟩
          · refine ⟨e3, ?_⟩
            unfold endI
            simp only [Bool.or_eq_true, decide_eq_true_eq]
            omega
          · omega
        obtain ⟨rfl, hw⟩ := hw
        have hpc : pcs (curL s pos st) ((btL s).drop pos) = curL s pos st :: pcs [] ((btL s).drop (pos + 1)) := by
          rw [ln_cons s pos hlt]
          conv => lhs; unfold pcs
          rw [if_pos hw]
        rw [hpc]
        cases st with
        | some a =>
          dsimp only
          rw [spans_pcs s f (pos + 1) none _ (by omega) (by omega) (fun a h => by cases h), List.filter_cons, curL_full (hst a rfl) hp, if_pos rfl]
          simp only [List.map_append, List.map_cons, List.map_nil, List.append_assoc, List.cons_append, List.nil_append]
          rw [ln_extract]
          rfl
        | none =>
          dsimp only
          rw [spans_pcs s f (pos + 1) none _ (by omega) (by omega) (fun a h => by cases h), List.filter_cons]
          rfl
      · rw [if_neg he]
        have hno : ∀ c ∈ ((btL s).drop pos).take wd, endI c = false := by
          intro c hc
          obtain ⟨j, hj, rfl⟩ := List.mem_iff_getElem.1 hc
          have hjl : j < wd := by rw [List.length_take] at hj; omega
          have hjs : pos + j < s.size := by omega
          have hv : (((btL s).drop pos).take wd)[j] = ((s[pos + j]'hjs).toNat : Int) := by
            have := ln_at s (pos + j) hjs
            rw [List.getElem_take, List.getElem_drop]
            exact (List.getElem_eq_iff _).2 this
          rw [hv]
          unfold endI
          unfold endR at he
          simp only [Bool.or_eq_true, decide_eq_true_eq] at he
          rw [Bool.or_eq_false_iff, decide_eq_false_iff_not, decide_eq_false_iff_not]
          rcases h6 with ⟨e1, e2, e3⟩ | ⟨e1, e2⟩
          · obtain rfl : j = 0 := by omega
            subst e1
            simp only [Nat.add_zero]
            omega
          · have := e2 j hjs hjl
            omega
        have hpc : pcs (curL s pos st) ((btL s).drop pos) = pcs (curL s pos st ++ ((btL s).drop pos).take wd) ((btL s).drop (pos + wd)) := by
          rw [hdec, pcs_run _ _ _ hno]
          simp only [← hdec]
        rw [hpc]
        cases st with
        | some a =>
          dsimp only
          have ha := hst a rfl
          rw [spans_pcs s f (pos + wd) (some a) acc (by omega) (by omega) (fun b h => by injection h with h; omega)]
          congr 3
          show ((btL s).drop a).take (pos + wd - a) = ((btL s).drop a).take (pos - a) ++ ((btL s).drop pos).take wd
          rw [show pos + wd - a = (pos - a) + wd by omega, List.take_add, List.drop_drop, show a + (pos - a) = pos by omega]
        | none =>
          dsimp only
          rw [spans_pcs s f (pos + wd) (some pos) acc (by omega) (by omega) (fun b h => by injection h with h; omega)]
          congr 3
          show ((btL s).drop pos).take (pos + wd - pos) = [] ++ ((btL s).drop pos).take wd
          rw [show pos + wd - pos = wd by omega, List.nil_append]
    · have hps : pos = s.size := by omega
      rw [Lib.spansFromP_end _ _ _ _ _ _ hlt, List.drop_eq_nil_of_le (by omega)]
      cases st with
      | some a =>
        show ((acc ++ [(a, s.size)]).map _) = _ ++ ([curL s pos (some a)].filter full)
        rw [List.filter_cons, curL_full (hst a rfl) hp, if_pos rfl, List.map_append, hps]
        show _ ++ [btL (s.extract a s.size)] = _
        rw [ln_extract]
        rfl
      | none =>
        show acc.map _ = _ ++ ([[]].filter full)
        simp [full]
theorem fields_pcs (s : ByteArray) : (Lib.goFieldsP endR s).map btL = (pcs [] (btL s)).filter full := by
  have := spans_pcs s s.size 0 none [] (by omega) (by omega) (fun a h => by cases h)
  unfold Lib.goFieldsP Lib.spansOfP
  rw [List.map_map]
  exact this
/-- Blanks taken off both ends. -/
def blI (c : Int) : Bool := decide (c = 32) || decide (c = 9)
def rdw : List Int → List Int
  | [] => []
  | c :: t => if rdw t = [] ∧ blI c = true then [] else c :: rdw t
theorem rdw_snoc (l : List Int) (c : Int) : rdw (l ++ [c]) = if blI c = true then rdw l else l ++ [c] := by
  induction l with
  | nil =>
    show rdw [c] = _
    unfold rdw
    by_cases h : blI c = true
    · rw [if_pos ⟨rfl, h⟩, if_pos h]; first | done | rfl
    · rw [if_neg (fun x => h x.2), if_neg h]; first | done | rfl
  | cons x l ih =>
    rw [List.cons_append]
    conv => lhs; unfold rdw
    rw [ih]
    by_cases h : blI c = true
    · rw [if_pos h, if_pos h]
      conv => rhs; unfold rdw
    · rw [if_neg h, if_neg h, if_neg (fun hh => by simp at hh)]
theorem rdw_rev (l : List Int) : rdw l = (l.reverse.dropWhile blI).reverse := by
  obtain ⟨r, hr⟩ : ∃ r, l.reverse = r := ⟨_, rfl⟩
  have hl : l = r.reverse := by rw [← hr, List.reverse_reverse]
  subst hl
  clear hr
  rw [List.reverse_reverse]
  induction r with
  | nil => rfl
  | cons c r ih =>
    rw [List.reverse_cons, rdw_snoc, List.dropWhile_cons, ih]
    cases blI c <;> simp
def trL (l : List Int) : List Int := (rdw l).dropWhile blI
theorem trL_comm (l : List Int) : trL l = rdw (l.dropWhile blI) := by
  unfold trL
  induction l with
  | nil => rfl
  | cons c t ih =>
    conv => lhs; unfold rdw
    by_cases h : blI c = true
    · rw [List.dropWhile_cons, if_pos h, ← ih]
      by_cases he : rdw t = []
      · rw [if_pos ⟨he, h⟩, he]
      · rw [if_neg (fun x => he x.1), List.dropWhile_cons, if_pos h]
    · rw [if_neg (fun x => h x.2), List.dropWhile_cons, if_neg h, List.dropWhile_cons, if_neg h]
      conv => rhs; unfold rdw
      rw [if_neg (fun x => h x.2)]
theorem dw_map (p : UInt8 → Bool) (q : Int → Bool) (h : ∀ u : UInt8, q (u.toNat : Int) = p u) : ∀ l : List UInt8, ((l.dropWhile p).map fun c => (c.toNat : Int)) = (l.map fun c => (c.toNat : Int)).dropWhile q
  | [] => rfl
  | u :: t => by
    rw [List.map_cons, List.dropWhile_cons, List.dropWhile_cons, h u]
    cases p u
    · rfl
    · exact dw_map p q h t
theorem trimS_L (s : ByteArray) : btL ⟨(Lib.trimS s.data.toList [32, 9]).toArray⟩ = trL (btL s) := by
  have hb : ∀ u : UInt8, blI (u.toNat : Int) = ([32, 9] : List UInt8).contains u := by
    intro u
    unfold blI
    rw [Bool.eq_iff_iff]
    simp only [Bool.or_eq_true, decide_eq_true_eq, List.contains_cons, List.contains_nil, Bool.or_false, beq_iff_eq]
    constructor
    · rintro (h | h)
      · exact Or.inl (UInt8.toNat_inj.1 (by show u.toNat = 32; omega))
      · exact Or.inr (UInt8.toNat_inj.1 (by show u.toNat = 9; omega))
    · rintro (h | h)
      · left; rw [h]; rfl
      · right; rw [h]; rfl
  unfold Lib.trimS Lib.trimLeftS Lib.trimRightS btL trL
  show List.map _ (List.dropWhile _ _) = _
  rw [dw_map _ blI hb, rdw_rev, List.map_reverse, dw_map _ blI hb, List.map_reverse]
/-- What a line says. -/
def fi (c : Int) : List Int → Nat
  | [] => 0
  | x :: t => if x = c then 0 else fi c t + 1
theorem fi_le (c : Int) : ∀ l : List Int, fi c l ≤ l.length
  | [] => Nat.le_refl _
  | x :: t => by
    unfold fi
    have := fi_le c t
    split
    · omega
    · rw [List.length_cons]; omega
theorem fi_drop {c x : Int} {l : List Int} {k : Nat} (h : l[k]? = some x) : fi c (l.drop k) = if x = c then 0 else fi c (l.drop (k + 1)) + 1 := by
  obtain ⟨hk, he⟩ := List.getElem?_eq_some_iff.1 h
  rw [List.drop_eq_getElem_cons hk, he]
  rfl
theorem fi_index (c : UInt8) : ∀ s : List UInt8, Lib.index s [c] = if fi (c.toNat : Int) (s.map fun u => (u.toNat : Int)) < s.length then (fi (c.toNat : Int) (s.map fun u => (u.toNat : Int)) : Int) else -1
  | [] => rfl
  | b :: l => by
    have ih := fi_index c l
    unfold Lib.index
    show _ = if fi (c.toNat : Int) ((b.toNat : Int) :: (l.map fun u => (u.toNat : Int))) < (b :: l).length then (fi (c.toNat : Int) ((b.toNat : Int) :: (l.map fun u => (u.toNat : Int))) : Int) else -1
    unfold fi
    by_cases h : c = b
    · subst h
      rw [if_pos (by simp [List.isPrefixOf]), if_pos rfl, if_pos (by simp)]
      rfl
    · have hb : ¬ ((b.toNat : Nat) : Int) = ((c.toNat : Nat) : Int) := fun e => h (UInt8.toNat_inj.1 (by omega))
      rw [if_neg (by simp [List.isPrefixOf]; exact h), if_neg hb, ih, List.length_cons]
      by_cases hk : fi (c.toNat : Int) (l.map fun u => (u.toNat : Int)) < l.length
      · rw [if_pos hk, if_neg (by simp), if_pos (by omega)]
        push_cast
        rfl
      · rw [if_neg hk, if_pos (by decide), if_neg (by omega)]
theorem cut_fi (s : List UInt8) (c : UInt8) : Lib.cut s [c] = (s.take (fi (c.toNat : Int) (s.map fun u => (u.toNat : Int))), s.drop (fi (c.toNat : Int) (s.map fun u => (u.toNat : Int)) + 1), decide (fi (c.toNat : Int) (s.map fun u => (u.toNat : Int)) < s.length)) := by
  unfold Lib.cut
  rw [fi_index]
  by_cases h : fi (c.toNat : Int) (s.map fun u => (u.toNat : Int)) < s.length
  · rw [if_pos h, if_pos (by omega), decide_eq_true h, Int.toNat_natCast]
    rfl
  · rw [if_neg h, if_neg (by omega), decide_eq_false h, List.take_of_length_le (by omega), List.drop_eq_nil_of_le (by omega)]
def sayL (p : List Int) : Option (List Int × List Int) :=
  if fi 58 (p.take (fi 35 p)) < (p.take (fi 35 p)).length then (if trL ((p.take (fi 35 p)).take (fi 58 (p.take (fi 35 p)))) = [] then none else some ((trL ((p.take (fi 35 p)).take (fi 58 (p.take (fi 35 p))))).map lwI, trL ((p.take (fi 35 p)).drop (fi 58 (p.take (fi 35 p)) + 1)))) else none
theorem sayL_nil : sayL [] = none := rfl
def limL (l : List Int) : List Int := if ([239, 187, 191] : List Int).isPrefixOf (l.take 4096) = true then (l.take 4096).drop 3 else l.take 4096
def linesL (l : List Int) : List (List Int × List Int) := (pcs [] (limL l)).filterMap sayL
theorem full_say (ps : List (List Int)) : (ps.filter full).filterMap sayL = ps.filterMap sayL := by
  induction ps with
  | nil => rfl
  | cons p ps ih =>
    rw [List.filter_cons, List.filterMap_cons]
    cases p with
    | nil => exact ih
    | cons x t =>
      show List.filterMap sayL ((x :: t) :: ps.filter full) = _
      rw [List.filterMap_cons, ih]
end Go.Proofs.YtodibjpojfipoaaGreatDoor
