/- Package match: a pattern's parts between the stars. No program here. -/
import Derived.Test.YtodlecjbpmggiaaGreatDoorMtMath
namespace Go.Proofs.YtodlecjbpmggiaaGreatDoor
open Go.RowKit

theorem index_star {s : List UInt8} {i : Nat} (h : Lib.index s [42] = i) : i < s.length ∧ s = s.take i ++ 42 :: s.drop (i + 1) ∧ (42 : UInt8) ∉ s.take i := by
  rcases Lib.index_spec s [42] with ⟨e, _⟩ | ⟨j, e, hj, hocc, hno⟩
  · omega
  · have : j = i := by omega
    subst this
    have hp := List.isPrefixOf_iff_prefix.1 hocc
    obtain ⟨t, ht⟩ := hp
    have hlt : j < s.length := by
      have := congrArg List.length ht
      simp at this
      omega
    have hd : s.drop (j + 1) = t := by rw [← List.drop_drop, ← ht]; rfl
    refine ⟨hlt, ?_, ?_⟩
    · rw [hd]
      conv => lhs; rw [← List.take_append_drop j s, ← ht]
      rfl
    · intro hm
      obtain ⟨k, hk, hk2⟩ := List.mem_iff_getElem.1 hm
      rw [List.length_take] at hk
      rw [List.getElem_take] at hk2
      have h1 := hno k (by omega)
      unfold Lib.occAt at h1
      have h2 : s.drop k = 42 :: s.drop (k + 1) := by
        rw [List.drop_eq_getElem_cons (by omega), hk2]
      rw [h2] at h1
      simp [List.isPrefixOf] at h1
theorem index_no_star {s : List UInt8} (h : Lib.index s [42] = -1) : (42 : UInt8) ∉ s := by
  rcases Lib.index_spec s [42] with ⟨_, hno⟩ | ⟨j, e, _⟩
  · intro hm
    obtain ⟨k, hk, hk2⟩ := List.mem_iff_getElem.1 hm
    have h1 := hno k (by omega)
    unfold Lib.occAt at h1
    rw [List.drop_eq_getElem_cons hk, hk2] at h1
    simp [List.isPrefixOf] at h1
  · omega
/-- The parts. -/
structure Parts (s p0 : List UInt8) (ps : List (List UInt8)) : Prop where
  join : s = p0 ++ joinP ps
  n0 : (42 : UInt8) ∉ p0
  ns : ∀ q ∈ ps, (42 : UInt8) ∉ q
theorem split_parts : ∀ (n : Nat) (s : List UInt8), s.length ≤ n → ∃ p0 ps, Lib.splitK [42] 0 (Lib.count s [42]) s = p0 :: ps ∧ ps.length = Lib.count s [42] ∧ Parts s p0 ps := by
  intro n
  induction n with
  | zero =>
    intro s hs
    have : s = [] := List.eq_nil_of_length_eq_zero (by omega)
    subst this
    have e : Lib.index [] [42] = -1 := rfl
    rw [Lib.count_miss e]
    exact ⟨[], [], rfl, rfl, by simp [joinP], by simp, by simp⟩
  | succ n ih =>
    intro s hs
    rcases Lib.index_spec s [42] with ⟨e, _⟩ | ⟨i, e, _⟩
    · rw [Lib.count_miss e]
      exact ⟨s, [], rfl, rfl, by simp [joinP], index_no_star e, by simp⟩
    · obtain ⟨hlt, hcut, hno⟩ := index_star e
      obtain ⟨p0, ps, h1, h2, h3⟩ := ih (s.drop (i + 1)) (by simp; omega)
      have hc := Lib.count_hit (s := s) (sub := [42]) (by simp) e
      simp only [List.length_cons, List.length_nil, Nat.zero_add] at hc
      rw [hc, Nat.add_comm 1]
      refine ⟨s.take i, p0 :: ps, ?_, by simp [h2], ?_, hno, ?_⟩
      · unfold Lib.splitK
        rw [e, if_neg (by rw [beq_iff_eq]; omega)]
        simp only [Int.toNat_natCast, Nat.add_zero, List.length_cons, List.length_nil, Nat.zero_add]
        rw [h1]
      · rw [joinP_cons, ← h3.join]
        exact hcut
      · intro q hq
        rcases List.mem_cons.1 hq with rfl | hq
        · exact h3.n0
        · exact h3.ns q hq
def dl (b : ByteArray) : List UInt8 := b.data.toList
theorem star_data : (({ data := #[42] } : ByteArray)).data.toList = [42] := rfl
/-- The same of the array that strings.Split makes. -/
theorem splitB_parts (s : ByteArray) : ∃ (P0 : ByteArray) (PS : List ByteArray), Lib.splitB ⟨#[42]⟩ 0 (Lib.countB s ⟨#[42]⟩) s = P0 :: PS ∧ PS.length = Lib.countB s ⟨#[42]⟩ ∧ Parts (dl s) (dl P0) (PS.map dl) := by
  obtain ⟨p0, ps, h1, h2, h3⟩ := split_parts s.data.toList.length s.data.toList (Nat.le_refl _)
  have hd := Lib.splitB_data ⟨#[42]⟩ 0 (Lib.countB s ⟨#[42]⟩) s
  have hc : Lib.countB s ⟨#[42]⟩ = Lib.count s.data.toList [42] := rfl
  rw [hc] at hd ⊢
  rw [show (({ data := #[42] } : ByteArray)).data.toList = [42] from rfl, h1] at hd
  cases hB : Lib.splitB ⟨#[42]⟩ 0 (Lib.count s.data.toList [42]) s with
  | nil => rw [hB] at hd; cases hd
  | cons P0 PS =>
    rw [hB, List.map_cons] at hd
    injection hd with e1 e2
    refine ⟨P0, PS, rfl, ?_, ?_⟩
    · have := congrArg List.length e2
      rw [List.length_map] at this
      omega
    · have e2' : PS.map dl = ps := e2
      rw [e2', show dl P0 = p0 from e1]
      exact h3
end Go.Proofs.YtodlecjbpmggiaaGreatDoor
