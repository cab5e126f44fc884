/- Package field: the items of a text, over lists of bytes. No program here. -/
import Derived.Test.YtodibjpojfipoaaGreatDoorLnMath
namespace Go.Proofs.YtodibjpojfipoaaGreatDoor
open Go

def fLow (c : Int) : Bool := decide (97 ≤ c) && decide (c ≤ 122)
def fUp (c : Int) : Bool := decide (65 ≤ c) && decide (c ≤ 90)
def fNum (c : Int) : Bool := decide (48 ≤ c) && decide (c ≤ 57)
def keyC (c : Int) : Bool := fLow c || fNum c || [95, 45, 46, 42].contains c
def wordC (c : Int) : Bool := fLow c || fUp c || fNum c || [95, 45, 46, 42, 33, 35, 36, 37, 38, 39, 43, 94, 124, 126, 58, 47].contains c
structure FVal where
  kind : Int
  n : Int
  s : List Int
  deriving DecidableEq
abbrev FPar := List Int × FVal
structure FItem where
  key : List Int
  v : FVal
  ps : List FPar
def flagV (n : Int) : FVal := ⟨4, n, []⟩
def keyF (l : List Int) : Option (List Int × List Int) := match l with
  | [] => none
  | c :: _ => if fLow c || c == 42 then some (l.takeWhile keyC, l.dropWhile keyC) else none
def textG : List Int → Option (List Int × List Int)
  | [] => none
  | c :: r =>
    if c = 34 then some ([], r)
    else if c = 92 then
      match r with
      | [] => none
      | d :: r' => if d = 34 ∨ d = 92 then (textG r').map fun p => (d :: p.1, p.2) else none
    else if c < 32 ∨ 126 < c then none
    else (textG r).map fun p => (c :: p.1, p.2)
def fval : Int → List Int → Int
  | n, [] => n
  | n, c :: t => fval (10 * n + (c - 48)) t
def digF (neg : Bool) (l : List Int) : Option (Int × List Int) :=
  if (l.takeWhile fNum).length = 0 ∨ 15 < (l.takeWhile fNum).length then none else some (if neg then -(fval 0 (l.takeWhile fNum)) else fval 0 (l.takeWhile fNum), l.dropWhile fNum)
def numF (l : List Int) : Option (Int × List Int) := match l with
  | 45 :: r => digF true r
  | _ => digF false l
def flagF (l : List Int) : Option (Int × List Int) := match l with
  | 63 :: 49 :: r => some (1, r)
  | 63 :: 48 :: r => some (0, r)
  | _ => none
def wordF (l : List Int) : Option (List Int × List Int) := match l with
  | [] => none
  | c :: _ => if (fLow c || fUp c) || c == 42 then some (l.takeWhile wordC, l.dropWhile wordC) else none
def valF (l : List Int) : Option (FVal × List Int) := match l with
  | 34 :: r => (textG r).map fun p => (⟨2, 0, p.1⟩, p.2)
  | 63 :: r => (flagF (63 :: r)).map fun p => (flagV p.1, p.2)
  | l => if (match l with | c :: _ => c == 45 || fNum c | [] => false) = true then (numF l).map fun p => (⟨1, p.1, []⟩, p.2) else (wordF l).map fun p => (⟨3, 0, p.1⟩, p.2)
def pairF (l : List Int) : Option (FPar × List Int) := match keyF l with
  | none => none
  | some (k, r) => match r with
    | 61 :: r' => (valF r').map fun p => ((k, p.1), p.2)
    | r => some ((k, flagV 1), r)
def sp1 (c : Int) : Bool := c == 32
def parsF : Nat → List Int → Option (List FPar × List Int)
  | 0, _ => none
  | f + 1, 59 :: r => match pairF (r.dropWhile sp1) with
    | none => none
    | some (p, r') => (parsF f r').map fun q => (p :: q.1, q.2)
  | _ + 1, l => some ([], l)
def headF (l : List Int) : Option (FPar × List Int) := match l with
  | 34 :: r => (textG r).map fun p => ((p.1, flagV 1), p.2)
  | l => pairF l
def itemF (l : List Int) : Option (FItem × List Int) := match headF l with
  | none => none
  | some (kv, r) => (parsF (r.length + 1) r).map fun q => (⟨kv.1, kv.2, q.1⟩, q.2)
def collF : Nat → Nat → List Int → Option (List FItem)
  | 0, _, _ => none
  | f + 1, n, l => match itemF l with
    | none => none
    | some (i, r) => if n = 16 then none else match r.dropWhile blI with
      | [] => some [i]
      | 44 :: r' => (collF f (n + 1) (r'.dropWhile blI)).map fun is => i :: is
      | _ => none
def parseF (l : List Int) : Option (List FItem) := match l.dropWhile sp1 with
  | [] => some []
  | r => collF (r.length + 1) 0 r
theorem dw_len (p : Int → Bool) : ∀ l : List Int, (l.dropWhile p).length ≤ l.length
  | [] => Nat.le_refl _
  | c :: r => by
    rw [List.dropWhile_cons]
    split
    · exact Nat.le_succ_of_le (dw_len p r)
    · exact Nat.le_refl _
theorem tw_drop (p : Int → Bool) : ∀ l : List Int, l.drop (l.takeWhile p).length = l.dropWhile p
  | [] => rfl
  | c :: r => by
    rw [List.takeWhile_cons, List.dropWhile_cons]
    split
    · rw [List.length_cons, List.drop_succ_cons]; exact tw_drop p r
    · rfl
theorem tw_take (p : Int → Bool) : ∀ l : List Int, l.take (l.takeWhile p).length = l.takeWhile p
  | [] => rfl
  | c :: r => by
    rw [List.takeWhile_cons]
    split
    · rw [List.length_cons, List.take_succ_cons, tw_take p r]
    · rfl
theorem tw_len (p : Int → Bool) (l : List Int) : (l.takeWhile p).length ≤ l.length := by
  rw [← tw_take]
  rw [List.length_take]
  exact Nat.min_le_right _ _
/-- What is left is no longer. -/
theorem textG_len : ∀ (n : Nat) (l : List Int) (t r : List Int), l.length ≤ n → textG l = some (t, r) → r.length + t.length < l.length := by
  intro n
  induction n with
  | zero =>
    intro l t r hl h
    have : l = [] := List.eq_nil_of_length_eq_zero (by omega)
    subst this
    cases h
  | succ n ih =>
    intro l t r hl h
    match l, h with
    | c :: r0, h =>
      unfold textG at h
      split at h
      · injection h with h
        injection h with h1 h2
        subst h1 h2
        simp
      · split at h
        · match r0, h with
          | d :: r1, h =>
            simp only at h
            split at h
            · cases hg : textG r1 with
              | none => rw [hg] at h; cases h
              | some p =>
                rw [hg, Option.map_some] at h
                injection h with h
                injection h with h1 h2
                have := ih r1 p.1 p.2 (by simp at hl; omega) hg
                subst h1 h2
                simp
                omega
            · cases h
        · split at h
          · cases h
          · cases hg : textG r0 with
            | none => rw [hg] at h; cases h
            | some p =>
              rw [hg, Option.map_some] at h
              injection h with h
              injection h with h1 h2
              have := ih r0 p.1 p.2 (by simp at hl; omega) hg
              subst h1 h2
              simp
              omega
theorem trimLS_L (s : ByteArray) : btL ⟨(Lib.trimLeftS s.data.toList [32, 9]).toArray⟩ = (btL s).dropWhile blI := by
  have hb : ∀ u : UInt8, blI (u.toNat : Int) = ([32, 9] : List UInt8).contains u := by
    intro u
    unfold blI
    rw [Bool.eq_iff_iff]
    simp only [Bool.or_eq_true, decide_eq_true_eq, List.contains_cons, List.contains_nil, Bool.or_false, beq_iff_eq]
    constructor
    · rintro (h | h)
      · exact Or.inl (UInt8.toNat_inj.1 (by show u.toNat = 32; omega))
      · exact Or.inr (UInt8.toNat_inj.1 (by show u.toNat = 9; omega))
    · rintro (h | h)
      · left; rw [h]; rfl
      · right; rw [h]; rfl
  unfold Lib.trimLeftS btL
  exact dw_map _ blI hb _
theorem trimLB_L (s : ByteArray) : btL ⟨(Lib.trimLeftB s.data.toList 32).toArray⟩ = (btL s).dropWhile sp1 := by
  have hb : ∀ u : UInt8, sp1 (u.toNat : Int) = (u == 32) := by
    intro u
    unfold sp1
    rw [Bool.eq_iff_iff, beq_iff_eq, beq_iff_eq]
    constructor
    · intro h
      exact UInt8.toNat_inj.1 (by show u.toNat = 32; omega)
    · intro h
      rw [h]
      rfl
  unfold Lib.trimLeftB btL
  exact dw_map _ sp1 hb _
end Go.Proofs.YtodibjpojfipoaaGreatDoor
