/- Package pct: the mathematics of percent-encoding. No program here. -/
import Derived.Test.YtodlecjbpmggiaaGreatDoorFrMath
namespace Go.Proofs.YtodlecjbpmggiaaGreatDoor
open Go.RowKit

def hexI (c : Int) : Int := if 48 ≤ c ∧ c ≤ 57 then c - 48 else if 97 ≤ c ∧ c ≤ 102 then c - 87 else if 65 ≤ c ∧ c ≤ 70 then c - 55 else -1
def freeP (c : Int) : Prop := (97 ≤ c ∧ c ≤ 122) ∨ (65 ≤ c ∧ c ≤ 90) ∨ (48 ≤ c ∧ c ≤ 57) ∨ c = 45 ∨ c = 46 ∨ c = 95 ∨ c = 126
def freeI (c : Int) : Bool := decide ((97 ≤ c ∧ c ≤ 122) ∨ (65 ≤ c ∧ c ≤ 90) ∨ (48 ≤ c ∧ c ≤ 57) ∨ c = 45 ∨ c = 46 ∨ c = 95 ∨ c = 126)
def resI (c : Int) : Bool := decide (c = 33 ∨ c = 36 ∨ (38 ≤ c ∧ c ≤ 44) ∨ c = 47 ∨ c = 58 ∨ c = 59 ∨ c = 61 ∨ c = 63 ∨ c = 64 ∨ c = 91 ∨ c = 93)
theorem freeI_iff (c : Int) : freeI c = true ↔ freeP c := by simp [freeI, freeP]
def resP (c : Int) : Prop := c = 33 ∨ c = 36 ∨ (38 ≤ c ∧ c ≤ 44) ∨ c = 47 ∨ c = 58 ∨ c = 59 ∨ c = 61 ∨ c = 63 ∨ c = 64 ∨ c = 91 ∨ c = 93
theorem resI_iff (c : Int) : resI c = true ↔ resP c := by simp [resI, resP]
def digI (n : Int) : Int := if n < 10 then 48 + n else 55 + n
def codeI (c : Int) : List Int := [37, digI (c / 16), digI (c % 16)]
theorem hexI_dig (n : Int) (h0 : 0 ≤ n) (h1 : n < 16) : hexI (digI n) = n := by
  unfold hexI digI
  split <;> split <;> omega
theorem hexI_bd (c : Int) : hexI c < 16 ∧ -1 ≤ hexI c := by
  unfold hexI
  split
  · omega
  · split
    · omega
    · split <;> omega
theorem hexI_ascii {c : Int} (h : 0 ≤ hexI c) : 48 ≤ c ∧ c < 128 := by
  unfold hexI at h
  split at h
  · omega
  · split at h
    · omega
    · split at h <;> omega

/-- What is written for a text, by what is written for a triple and for a byte. -/
def rwI (T P : Int → List Int) : List Int → Option (List Int)
  | [] => some []
  | [c] => if c = 37 then none else some (P c)
  | [c, d] => if c = 37 then none else (rwI T P [d]).map (P c ++ ·)
  | c :: h :: l :: t => if c = 37 then (if 0 ≤ hexI h ∧ 0 ≤ hexI l then (rwI T P t).map (T (16 * hexI h + hexI l) ++ ·) else none) else (rwI T P (h :: l :: t)).map (P c ++ ·)
theorem rwI_nil (T P : Int → List Int) : rwI T P [] = some [] := by simp [rwI]
theorem rwI_plain {T P : Int → List Int} {c : Int} (t : List Int) (h : c ≠ 37) : rwI T P (c :: t) = (rwI T P t).map (P c ++ ·) := by
  match t with
  | [] => simp [rwI, h]
  | [d] => simp only [rwI, if_neg h]
  | d :: e :: t => rw [rwI, if_neg h]
theorem rwI_trip {T P : Int → List Int} {h l : Int} (t : List Int) (hh : 0 ≤ hexI h) (hl : 0 ≤ hexI l) : rwI T P (37 :: h :: l :: t) = (rwI T P t).map (T (16 * hexI h + hexI l) ++ ·) := by
  rw [rwI, if_pos rfl, if_pos ⟨hh, hl⟩]
theorem rwI_bad {T P : Int → List Int} {h l : Int} (t : List Int) (hh : ¬ (0 ≤ hexI h ∧ 0 ≤ hexI l)) : rwI T P (37 :: h :: l :: t) = none := by
  rw [rwI, if_pos rfl, if_neg hh]
theorem rwI_short {T P : Int → List Int} {t : List Int} (h : t.length < 2) : rwI T P (37 :: t) = none := by
  match t, h with
  | [], _ => simp [rwI]
  | [d], _ => simp [rwI]

theorem rwI_none {T P T' P' : Int → List Int} : ∀ (n : Nat) (l : List Int), l.length ≤ n → rwI T P l = none → rwI T' P' l = none
  | 0, l, hn, h => by
    have : l = [] := List.eq_nil_of_length_eq_zero (by omega)
    subst this
    simp [rwI] at h
  | n + 1, l, hn, h => by
    match l, hn, h with
    | [], _, h => simp [rwI] at h
    | c :: t, hn, h =>
      simp at hn
      by_cases hc : c = 37
      · subst hc
        match t, hn, h with
        | [], _, _ => exact rwI_short (by simp)
        | [d], _, _ => exact rwI_short (by simp)
        | a :: b :: t, hn, h =>
          by_cases hh : 0 ≤ hexI a ∧ 0 ≤ hexI b
          · rw [rwI_trip _ hh.1 hh.2] at h ⊢
            rw [Option.map_eq_none_iff] at h ⊢
            exact rwI_none n t (by simp at hn; omega) h
          · exact rwI_bad _ hh
      · rw [rwI_plain _ hc] at h ⊢
        rw [Option.map_eq_none_iff] at h ⊢
        exact rwI_none n t hn h

/-- What holds of each part and of two parts together holds of the whole. -/
theorem rwI_ind {T P : Int → List Int} (R : List Int → List Int → Prop) (h0 : R [] []) (hP : ∀ c t x, 0 ≤ c → c < 256 → c ≠ 37 → R t x → R (c :: t) (P c ++ x)) (hT : ∀ a b t x, 0 ≤ hexI a → 0 ≤ hexI b → R t x → R (37 :: a :: b :: t) (T (16 * hexI a + hexI b) ++ x)) :
    ∀ (n : Nat) (l x : List Int), l.length ≤ n → Byts l → rwI T P l = some x → R l x
  | 0, l, x, hn, hb, h => by
    have : l = [] := List.eq_nil_of_length_eq_zero (by omega)
    subst this
    simp [rwI] at h
    subst h
    exact h0
  | n + 1, l, x, hn, hb, h => by
    match l, hn, h, hb with
    | [], _, h, _ =>
      simp [rwI] at h
      subst h
      exact h0
    | c :: t, hn, h, hb =>
      simp at hn
      by_cases hc : c = 37
      · subst hc
        match t, hn, h, hb with
        | [], _, h, _ => rw [rwI_short (by simp)] at h; cases h
        | [d], _, h, _ => rw [rwI_short (by simp)] at h; cases h
        | a :: b :: t, hn, h, hb =>
          by_cases hh : 0 ≤ hexI a ∧ 0 ≤ hexI b
          · rw [rwI_trip _ hh.1 hh.2, Option.map_eq_some_iff] at h
            obtain ⟨y, hy, rfl⟩ := h
            exact hT a b t y hh.1 hh.2 (rwI_ind R h0 hP hT n t y (by simp at hn; omega) hb.cons.2.cons.2.cons.2 hy)
          · rw [rwI_bad _ hh] at h; cases h
      · rw [rwI_plain _ hc, Option.map_eq_some_iff] at h
        obtain ⟨y, hy, rfl⟩ := h
        exact hP c t y hb.cons.1.1 hb.cons.1.2 hc (rwI_ind R h0 hP hT n t y hn hb.cons.2 hy)

theorem rwI_append {T P : Int → List Int} {a b x y : List Int} (hb : Byts a) (ha : rwI T P a = some x) (hy : rwI T P b = some y) : rwI T P (a ++ b) = some (x ++ y) := by
  refine rwI_ind (T := T) (P := P) (fun a x => rwI T P (a ++ b) = some (x ++ y)) hy ?_ ?_ a.length a x (Nat.le_refl _) hb ha
  · intro c t x _ _ hc h
    rw [List.cons_append, rwI_plain _ hc, h]
    simp
  · intro c d t x hc hd h
    rw [List.cons_append, List.cons_append, List.cons_append, rwI_trip _ hc hd, h]
    simp

/-- In one form; what it stands for. -/
def nT (v : Int) : List Int := if freeI v then [v] else codeI v
def nP (c : Int) : List Int := if freeI c || resI c then [c] else codeI c
def nrmI (l : List Int) : Option (List Int) := rwI nT nP l
def decI (l : List Int) : Option (List Int) := rwI (fun v => [v]) (fun c => [c]) l

theorem free_ne {c : Int} (h : freeI c = true) : c ≠ 37 := by rw [freeI_iff] at h; unfold freeP at h; omega
theorem res_ne {c : Int} (h : resI c = true) : c ≠ 37 := by rw [resI_iff] at h; unfold resP at h; omega
theorem rw_code {T P : Int → List Int} {v : Int} (h0 : 0 ≤ v) (h1 : v < 256) : rwI T P (codeI v) = some (T v) := by
  have a1 := hexI_dig (v / 16) (by omega) (by omega)
  have a2 := hexI_dig (v % 16) (by omega) (by omega)
  unfold codeI
  rw [rwI_trip [] (by rw [a1]; omega) (by rw [a2]; omega), a1, a2, rwI_nil, show 16 * (v / 16) + v % 16 = v from by omega]
  simp
theorem rw_one {T P : Int → List Int} {c : Int} (h : c ≠ 37) : rwI T P [c] = some (P c) := by rw [rwI_plain _ h, rwI_nil]; simp
theorem codeI_byts {v : Int} (h0 : 0 ≤ v) (h1 : v < 256) : Byts (codeI v) := by
  unfold codeI digI
  refine Byts.mk (by omega) (Byts.mk ?_ (Byts.mk ?_ Byts.nil)) <;> split <;> omega
theorem nT_byts {v : Int} (h0 : 0 ≤ v) (h1 : v < 256) : Byts (nT v) := by
  unfold nT
  split
  · exact Byts.mk ⟨h0, h1⟩ Byts.nil
  · exact codeI_byts h0 h1
theorem nP_byts {v : Int} (h0 : 0 ≤ v) (h1 : v < 256) : Byts (nP v) := by
  unfold nP
  split
  · exact Byts.mk ⟨h0, h1⟩ Byts.nil
  · exact codeI_byts h0 h1
theorem trip_bd {a b : Int} (ha : 0 ≤ hexI a) (hb : 0 ≤ hexI b) : 0 ≤ 16 * hexI a + hexI b ∧ 16 * hexI a + hexI b < 256 := by
  have := hexI_bd a
  have := hexI_bd b
  omega
theorem nT_nrm {v : Int} (h0 : 0 ≤ v) (h1 : v < 256) : nrmI (nT v) = some (nT v) ∧ decI (nT v) = some [v] := by
  unfold nrmI decI
  cases h : freeI v with
  | true =>
    have e : nT v = [v] := by unfold nT; rw [h]; rfl
    rw [e]
    constructor
    · rw [rw_one (free_ne h)]; unfold nP; rw [h]; rfl
    · rw [rw_one (free_ne h)]
  | false =>
    have e : nT v = codeI v := by unfold nT; rw [h]; rfl
    constructor
    · conv => lhs; rw [e]
      exact rw_code h0 h1
    · rw [e]; exact rw_code h0 h1
theorem nP_nrm {v : Int} (h0 : 0 ≤ v) (h1 : v < 256) (hv : v ≠ 37) : nrmI (nP v) = some (nP v) ∧ decI (nP v) = some [v] := by
  unfold nrmI decI
  cases h : freeI v || resI v with
  | true =>
    have e : nP v = [v] := by unfold nP; rw [h]; rfl
    rw [e]
    constructor
    · rw [rw_one hv, e]
    · rw [rw_one hv]
  | false =>
    have e : nP v = codeI v := by unfold nP; rw [h]; rfl
    have e2 : nT v = codeI v := by unfold nT; rw [Bool.or_eq_false_iff] at h; rw [h.1]; rfl
    rw [e]
    constructor
    · rw [rw_code h0 h1, e2]
    · exact rw_code h0 h1

structure Again (l x : List Int) : Prop where
  byts : Byts x
  nrm : nrmI x = some x
  dec : ∃ d, decI l = some d ∧ decI x = some d
theorem again_of {l x : List Int} (hb : Byts l) (h : nrmI l = some x) : Again l x := by
  refine rwI_ind (T := nT) (P := nP) Again ⟨Byts.nil, rwI_nil _ _, [], rwI_nil _ _, rwI_nil _ _⟩ ?_ ?_ l.length l x (Nat.le_refl _) hb h
  · intro c t x h0 h1 hc ⟨b, n, d, d1, d2⟩
    have e := nP_nrm h0 h1 hc
    refine ⟨(nP_byts h0 h1).append b, rwI_append (nP_byts h0 h1) e.1 n, c :: d, ?_, rwI_append (nP_byts h0 h1) e.2 d2⟩
    unfold decI at d1 ⊢
    rw [rwI_plain _ hc, d1]
    rfl
  · intro a b t x ha hb' ⟨b', n, d, d1, d2⟩
    have hv := trip_bd ha hb'
    have e := nT_nrm hv.1 hv.2
    refine ⟨(nT_byts hv.1 hv.2).append b', rwI_append (nT_byts hv.1 hv.2) e.1 n, (16 * hexI a + hexI b) :: d, ?_, rwI_append (nT_byts hv.1 hv.2) e.2 d2⟩
    unfold decI at d1 ⊢
    rw [rwI_trip _ ha hb', d1]
    rfl

/-- What may not stand in what comes out. -/
def okc (c : Int) : Prop := 32 < c ∧ c < 127 ∧ c ≠ 34 ∧ c ≠ 60 ∧ c ≠ 62 ∧ c ≠ 92 ∧ c ≠ 94 ∧ c ≠ 123 ∧ c ≠ 125 ∧ c ≠ 124 ∧ c ≠ 35 ∧ c ≠ 96
theorem okc_dig {n : Int} (h0 : 0 ≤ n) (h1 : n < 16) : okc (digI n) := by
  unfold digI okc
  split <;> omega
theorem okc_code {v : Int} (h0 : 0 ≤ v) (h1 : v < 256) : ∀ c ∈ codeI v, okc c := by
  intro c hc
  simp only [codeI, List.mem_cons, List.not_mem_nil, or_false] at hc
  rcases hc with rfl | rfl | rfl
  · unfold okc; omega
  · exact okc_dig (by omega) (by omega)
  · exact okc_dig (by omega) (by omega)
theorem okc_free {v : Int} (h : freeI v = true) : okc v := by rw [freeI_iff] at h; unfold freeP at h; unfold okc; omega
theorem okc_res {v : Int} (h : resI v = true) : okc v := by rw [resI_iff] at h; unfold resP at h; unfold okc; omega
theorem okc_nT {v : Int} (h0 : 0 ≤ v) (h1 : v < 256) : (∀ c ∈ nT v, okc c) ∧ (nT v).length ≤ 3 := by
  unfold nT
  cases h : freeI v with
  | true => exact ⟨by intro c hc; simp at hc; subst hc; exact okc_free h, by simp⟩
  | false => exact ⟨by simpa using okc_code h0 h1, by simp [codeI]⟩
theorem okc_nP {v : Int} (h0 : 0 ≤ v) (h1 : v < 256) : (∀ c ∈ nP v, okc c) ∧ (nP v).length ≤ 3 := by
  unfold nP
  cases h : freeI v || resI v with
  | true =>
    refine ⟨?_, by simp⟩
    intro c hc
    simp at hc
    subst hc
    rcases Bool.or_eq_true_iff.1 h with h | h
    · exact okc_free h
    · exact okc_res h
  | false => exact ⟨by simpa using okc_code h0 h1, by simp [codeI]⟩
structure Plain (l x : List Int) : Prop where
  ok : ∀ c ∈ x, okc c
  len : x.length ≤ 3 * l.length
theorem plain_nrm {l x : List Int} (hb : Byts l) (h : nrmI l = some x) : Plain l x := by
  refine rwI_ind (T := nT) (P := nP) Plain ⟨by simp, by simp⟩ ?_ ?_ l.length l x (Nat.le_refl _) hb h
  · intro c t x h0 h1 hc ⟨b, n⟩
    have e := okc_nP h0 h1
    refine ⟨fun c hc => ?_, by simp; omega⟩
    rcases List.mem_append.1 hc with h | h
    · exact e.1 c h
    · exact b c h
  · intro a b t x ha hb' ⟨b', n⟩
    have hv := trip_bd ha hb'
    have e := okc_nT hv.1 hv.2
    refine ⟨fun c hc => ?_, by simp; omega⟩
    rcases List.mem_append.1 hc with h | h
    · exact e.1 c h
    · exact b' c h
theorem dec_byts {l x : List Int} (hb : Byts l) (h : decI l = some x) : Byts x ∧ x.length ≤ l.length := by
  refine rwI_ind (T := fun v => [v]) (P := fun c => [c]) (fun l x => Byts x ∧ x.length ≤ l.length) ⟨Byts.nil, by simp⟩ ?_ ?_ l.length l x (Nat.le_refl _) hb h
  · intro c t x h0 h1 _ h
    exact ⟨Byts.mk ⟨h0, h1⟩ h.1, by simp; omega⟩
  · intro a b t x ha hb' h
    exact ⟨Byts.mk (trip_bd ha hb') h.1, by simp; omega⟩

/-- Each byte with a percent ahead, the first digit small. -/
def lowI (n : Int) : Int := if n < 10 then 48 + n else 87 + n
theorem hexI_low (n : Int) (h0 : 0 ≤ n) (h1 : n < 16) : hexI (lowI n) = n := by
  unfold hexI lowI
  split <;> split <;> first | omega | (split <;> omega)
def cdI : List Int → List Int
  | [] => []
  | c :: t => 37 :: lowI (c / 16) :: digI (c % 16) :: cdI t
theorem cdI_snoc (t : List Int) (c : Int) : cdI (t ++ [c]) = cdI t ++ [37, lowI (c / 16), digI (c % 16)] := by
  induction t with
  | nil => rfl
  | cons a t ih => simp [cdI, ih]
theorem cdI_length (t : List Int) : (cdI t).length = 3 * t.length := by
  induction t with
  | nil => rfl
  | cons a t ih => simp [cdI, ih]; omega
theorem cdI_byts {t : List Int} (h : Byts t) : Byts (cdI t) := by
  induction t with
  | nil => exact Byts.nil
  | cons a t ih =>
    have ha := h.cons.1
    refine Byts.mk (by omega) (Byts.mk ?_ (Byts.mk ?_ (ih h.cons.2)))
    · unfold lowI; split <;> omega
    · unfold digI; split <;> omega
theorem cd_nrm {t : List Int} (h : Byts t) : ∃ x, nrmI (cdI t) = some x ∧ decI x = some t ∧ Byts x := by
  induction t with
  | nil => exact ⟨[], rwI_nil _ _, rwI_nil _ _, Byts.nil⟩
  | cons a t ih =>
    obtain ⟨x, h1, h2, h3⟩ := ih h.cons.2
    have ha := h.cons.1
    have a1 := hexI_low (a / 16) (by omega) (by omega)
    have a2 := hexI_dig (a % 16) (by omega) (by omega)
    have e := nT_nrm ha.1 ha.2
    refine ⟨nT a ++ x, ?_, ?_, (nT_byts ha.1 ha.2).append h3⟩
    · unfold nrmI at h1 ⊢
      rw [cdI, rwI_trip _ (by rw [a1]; omega) (by rw [a2]; omega), a1, a2, h1, show 16 * (a / 16) + a % 16 = a from by omega]
      rfl
    · have := rwI_append (T := fun v => [v]) (P := fun c => [c]) (nT_byts ha.1 ha.2) e.2 h2
      exact this
end Go.Proofs.YtodlecjbpmggiaaGreatDoor
