/- Package match: texts without the sign of a code, in one form byte by byte. -/
import Derived.Test.YtcedckkmdpecmaaDoorMtAwake
namespace Go.Proofs.YtcedckkmdpecmaaDoor
open Go.RowKit
set_option linter.unusedVariables false
set_option linter.unusedSimpArgs false

def nn (c : UInt8) : List UInt8 := (nP c.toNat).map (fun z => UInt8.ofNat z.toNat)
def NN (l : List UInt8) : List UInt8 := l.flatMap nn
theorem NN_nil : NN [] = [] := rfl
theorem NN_append (a b : List UInt8) : NN (a ++ b) = NN a ++ NN b := by simp [NN]
theorem NN_cons (c : UInt8) (l : List UInt8) : NN (c :: l) = nn c ++ NN l := by simp [NN]
theorem dl_append (a b : ByteArray) : dl (a ++ b) = dl a ++ dl b := by simp [dl, ByteArray.data_append]
theorem dl_strL (x : List Int) : dl (strL x) = x.map (fun z => UInt8.ofNat z.toNat) := by simp [dl, strL]
theorem u8_all (p : UInt8 → Bool) (h : ∀ n, n < 256 → p (UInt8.ofNat n) = true) (c : UInt8) : p c = true := by
  have := h c.toNat c.toNat_lt
  rwa [UInt8.ofNat_toNat] at this
theorem nn_42 : nn 42 = [42] := by decide +kernel
theorem nn_36 : nn 36 = [36] := by decide +kernel
theorem nn_fact (c : UInt8) : (nn c).isEmpty = false ∧ (c ≠ 42 → (42 : UInt8) ∉ nn c) ∧ (c ≠ 36 → (36 : UInt8) ∉ nn c) := by
  have := u8_all (fun c => decide ((nn c).isEmpty = false ∧ (c ≠ 42 → (42 : UInt8) ∉ nn c) ∧ (c ≠ 36 → (36 : UInt8) ∉ nn c))) (by decide +kernel) c
  exact of_decide_eq_true this
theorem nrm_plain : ∀ l : List UInt8, (∀ c ∈ l, c ≠ 37) → nrmI (l.map fun c => (c.toNat : Int)) = some (l.flatMap fun c => nP c.toNat)
  | [], _ => by rw [List.map_nil]; exact rwI_nil _ _
  | c :: l, h => by
    have h1 : ((c.toNat : Nat) : Int) ≠ 37 := by
      intro e
      refine h c (by simp) ?_
      apply UInt8.toNat_inj.1
      show c.toNat = 37
      omega
    have ih := nrm_plain l fun x hx => h x (by simp [hx])
    rw [List.map_cons]
    unfold nrmI at ih ⊢
    rw [rwI_plain _ h1, ih]
    simp
theorem nf_dl (s : ByteArray) (h : ∀ c ∈ dl s, c ≠ 37) : dl (nfB s) = NN (dl s) := by
  have e : nrmI (btL s) = some ((dl s).flatMap fun c => nP c.toNat) := nrm_plain (dl s) h
  unfold nfB
  rw [e]
  show dl (strL _) = _
  rw [dl_strL]
  unfold NN nn
  rw [List.map_flatMap]
theorem NN_no {x : UInt8} (hx : ∀ c : UInt8, c ≠ x → x ∉ nn c) {l : List UInt8} (h : x ∉ l) : x ∉ NN l := by
  unfold NN
  rw [List.mem_flatMap]
  rintro ⟨c, hc, h2⟩
  exact hx c (fun e => h (e ▸ hc)) h2
theorem NN_no42 {l : List UInt8} (h : (42 : UInt8) ∉ l) : (42 : UInt8) ∉ NN l := NN_no (fun c => (nn_fact c).2.1) h
theorem NN_no36 {l : List UInt8} (h : (36 : UInt8) ∉ l) : (36 : UInt8) ∉ NN l := NN_no (fun c => (nn_fact c).2.2) h
theorem NN_empty {l : List UInt8} : NN l = [] ↔ l = [] := by
  cases l with
  | nil => simp [NN_nil]
  | cons c l =>
    have := (nn_fact c).1
    rw [NN_cons]
    cases h : nn c with
    | nil => rw [h] at this; cases this
    | cons a b => simp
theorem MM_open {x : List UInt8} (h : (36 : UInt8) ∉ x) (s : List UInt8) : MM x s = mb (x ++ [42]) s := by
  unfold MM
  rw [if_neg]
  intro e
  exact h (List.mem_of_getLast? e)
theorem MM_whole (x s : List UInt8) : MM (x ++ [36]) s = mb x s := by
  unfold MM
  rw [if_pos (by simp)]
  simp
theorem mb_mono (y : List UInt8) : ∀ (x s : List UInt8), mb (x ++ y) s = true → ∃ j, j ≤ s.length ∧ mb x (s.take j) = true
  | [], s, _ => ⟨0, by omega, by simp [mb]⟩
  | c :: x, s, h => by
    by_cases hc : c = 42
    · subst hc
      rw [List.cons_append] at h
      obtain ⟨i, hi, h2⟩ := (mb_star _ _).1 h
      obtain ⟨j, hj, h3⟩ := mb_mono y x _ h2
      rw [List.length_drop] at hj
      refine ⟨i + j, by omega, (mb_star _ _).2 ⟨i, ?_, ?_⟩⟩
      · rw [List.length_take]; omega
      · rw [List.drop_take, show i + j - i = j from by omega]; exact h3
    · rw [List.cons_append] at h
      obtain ⟨t, rfl, h2⟩ := (mb_lit hc _ _).1 h
      obtain ⟨j, hj, h3⟩ := mb_mono y x _ h2
      exact ⟨j + 1, by simp; omega, (mb_lit hc _ _).2 ⟨t.take j, by simp, h3⟩⟩
theorem mb_full {x s : List UInt8} (h : mb x s = true) : mb (x ++ [42]) s = true :=
  (mb_snoc_star x s).2 ⟨s.length, by omega, by rw [List.take_length]; exact h⟩
/-- What is asked of a longer pattern. -/
theorem longer {a b s : ByteArray} (h : ∀ c ∈ dl a ++ dl b, c ≠ 37 ∧ c ≠ 36) :
    (MM (dl (nfB (a ++ b))) (dl s) = true → MM (dl (nfB a)) (dl s) = true) ∧ MM (dl (nfB (a ++ ⟨#[42]⟩))) (dl s) = MM (dl (nfB a)) (dl s) ∧ (MM (dl (nfB (a ++ ⟨#[36]⟩))) (dl s) = true → MM (dl (nfB a)) (dl s) = true) := by
  have ha : ∀ c ∈ dl a, c ≠ 37 := fun c hc => (h c (by simp [hc])).1
  have hb : ∀ c ∈ dl b, c ≠ 37 := fun c hc => (h c (by simp [hc])).1
  have a36 : (36 : UInt8) ∉ dl a := fun hc => (h 36 (by simp [hc])).2 rfl
  have b36 : (36 : UInt8) ∉ dl b := fun hc => (h 36 (by simp [hc])).2 rfl
  have e1 : dl (nfB (a ++ b)) = NN (dl a) ++ NN (dl b) := by
    rw [nf_dl, dl_append, NN_append]
    rw [dl_append]
    exact fun c hc => (h c hc).1
  have e2 : dl (nfB a) = NN (dl a) := nf_dl a ha
  have e3 : dl (nfB (a ++ ⟨#[42]⟩)) = NN (dl a) ++ [42] := by
    rw [nf_dl, dl_append, NN_append]
    · rw [show NN (dl ⟨#[42]⟩) = [42] from by rw [show dl ⟨#[42]⟩ = [42] from rfl, NN_cons, nn_42]; rfl]
    · rw [dl_append]
      intro c hc
      rcases List.mem_append.1 hc with hc | hc
      · exact ha c hc
      · rw [show dl ⟨#[42]⟩ = [42] from rfl, List.mem_singleton] at hc; subst hc; decide
  have e4 : dl (nfB (a ++ ⟨#[36]⟩)) = NN (dl a) ++ [36] := by
    rw [nf_dl, dl_append, NN_append]
    · rw [show NN (dl ⟨#[36]⟩) = [36] from by rw [show dl ⟨#[36]⟩ = [36] from rfl, NN_cons, nn_36]; rfl]
    · rw [dl_append]
      intro c hc
      rcases List.mem_append.1 hc with hc | hc
      · exact ha c hc
      · rw [show dl ⟨#[36]⟩ = [36] from rfl, List.mem_singleton] at hc; subst hc; decide
  have na := NN_no36 a36
  have nb := NN_no36 b36
  rw [e1, e2, e3, e4, MM_open na, MM_open (x := NN (dl a) ++ NN (dl b)) (by simp [na, nb]), MM_open (x := NN (dl a) ++ [42]) (by simp [na]), MM_whole]
  refine ⟨fun h => ?_, ?_, mb_full⟩
  · rw [List.append_assoc] at h
    exact (mb_snoc_star _ _).2 (mb_mono _ _ _ h)
  · rw [Bool.eq_iff_iff]
    refine ⟨fun h => ?_, mb_full⟩
    rw [List.append_assoc] at h
    exact (mb_snoc_star _ _).2 (mb_mono _ _ _ h)
theorem mem_dl {x : ByteArray} {P : UInt8 → Prop} (h : ∀ j (hj : j < x.size), P x[j]) : ∀ c ∈ dl x, P c := by
  intro c hc
  obtain ⟨i, hi, rfl⟩ := List.getElem_of_mem hc
  have hi' : i < x.size := by rw [← dl_len]; exact hi
  have := dl_get x i hi'
  rw [List.getElem?_eq_getElem hi] at this
  injection this with e
  rw [e]
  exact h i hi'
end Go.Proofs.YtcedckkmdpecmaaDoor
