/- DiskPlays: what a crash leaves, told by the order of the loose bytes. No program here. -/
import Derived.Test.YtomeipjglnpciaaDkMath
namespace Go.Proofs.Ytomeipjglnpciaa
open Go
set_option linter.unusedVariables false
set_option linter.unusedSimpArgs false

/-- The segments of the loose bytes, in order. -/
def looseL (u : Pcs) : List Int := u.flatMap fun p => List.replicate p.2 p.1
theorem looseL_cons (g : Int) (z : Nat) (t : Pcs) : looseL ((g, z) :: t) = List.replicate z g ++ looseL t := by simp [looseL]
theorem looseL_app (u v : Pcs) : looseL (u ++ v) = looseL u ++ looseL v := by simp [looseL]
theorem looseL_count (u : Pcs) (n : Int) : (looseL u).count n = loose u n := by
  induction u with
  | nil => rfl
  | cons p t ih =>
    obtain ⟨g, z⟩ := p
    rw [looseL_cons, List.count_append, ih, loose, List.count_replicate]
    by_cases h : g = n
    · simp [h]
    · simp [h]
theorem take_count_le (l : List Int) (k : Nat) (n : Int) : (l.take k).count n ≤ l.count n := List.Sublist.count_le n (List.take_sublist k l)
theorem crash_all : ∀ (un : Pcs) (k : Int) (S : Sgs), UN S un → ∀ n, gS (crash k S un) n = (gS S n).map fun A => A.take (A.length - loose un n + ((looseL un).take k.toNat).count n)
  | [], k, S, _, n => by
    rw [crash]
    cases gS S n with
    | none => rfl
    | some A => simp [loose, looseL]
  | (g, z) :: t, k, S, hu, n => by
    have hk : keptN k z = min k.toNat z := by unfold keptN; omega
    have hk2 : (k - (keptN k z : Int)).toNat = k.toNat - min k.toNat z := by rw [hk]; omega
    rw [crash, crash_all t _ _ hu.cut n, hk2, looseL_cons, loose]
    unfold cut1
    rw [gS_put]
    have ht : (List.replicate z g ++ looseL t).take k.toNat = List.replicate (min k.toNat z) g ++ (looseL t).take (k.toNat - min k.toNat z) := by
      rw [List.take_append, List.take_replicate, List.length_replicate]
      congr 2
      omega
    rw [ht, List.count_append, List.count_replicate]
    by_cases h : n = g
    · subst h
      have hs := hu.1 (n, z) List.mem_cons_self
      have hh := hu.2 n
      rw [loose, if_pos rfl] at hh
      obtain ⟨A, hA⟩ := Option.isSome_iff_exists.1 hs
      have hgd : gD S n = A := by unfold gD; rw [hA]; rfl
      rw [if_pos rfl, hA, hgd]
      rw [hgd] at hh
      have hc : ((looseL t).take (k.toNat - min k.toNat z)).count n ≤ loose t n := by rw [← looseL_count]; exact take_count_le _ _ _
      simp only [Option.map_some, if_pos rfl, beq_self_eq_true, if_true]
      rw [List.take_take, List.length_take, hk]
      congr 2
      omega
    · rw [if_neg h]
      have hgn : (g == n) = false := by simpa using fun e : g = n => h e.symm
      simp only [hgn, if_neg (fun e : g = n => h e.symm), Nat.zero_add]
      simp
/-- A mark's rank among the marks is its place. -/
theorem rank_at {T : List (Int × Int)} (h : T.Pairwise fun a b => a.1 < b.1) {i : Nat} {x : Int × Int} (hx : T[i]? = some x) : (T.filter fun y => decide (y.1 < x.1)).length = i := by
  induction T generalizing i with
  | nil => simp at hx
  | cons a t ih =>
    obtain ⟨h1, h2⟩ := List.pairwise_cons.1 h
    cases i with
    | zero =>
      obtain rfl : a = x := by simpa using hx
      rw [List.filter_cons, if_neg (by simp)]
      rw [List.length_eq_zero_iff, List.filter_eq_nil_iff]
      intro y hy
      have := h1 y hy
      simp
      omega
    | succ j =>
      have hj : t[j]? = some x := by simpa using hx
      have := h1 x (List.mem_of_getElem? hj)
      rw [List.filter_cons, if_pos (by simpa using this), List.length_cons, ih h2 hj]
/-- Those of a rank below k are the first k. -/
theorem rank_take {T : List (Int × Int)} (h : T.Pairwise fun a b => a.1 < b.1) (k : Nat) : (T.filter fun x => decide ((T.filter fun y => decide (y.1 < x.1)).length < k)) = T.take k := by
  have key : ∀ (l : List (Int × Int)) (o : Nat), (∀ i x, l[i]? = some x → (T.filter fun y => decide (y.1 < x.1)).length = o + i) → (l.filter fun x => decide ((T.filter fun y => decide (y.1 < x.1)).length < k)) = l.take (k - o) := by
    intro l
    induction l with
    | nil => intro o _; simp
    | cons a t ih =>
      intro o hl
      have h0 := hl 0 a rfl
      have ht := ih (o + 1) (fun i x hx => by have := hl (i + 1) x (by simpa using hx); omega)
      rw [List.filter_cons, h0, ht]
      by_cases hk : o < k
      · rw [if_pos (by simpa using hk), show k - o = (k - (o + 1)) + 1 by omega, List.take_succ_cons]
      · rw [if_neg (by simpa using hk), show k - o = 0 by omega, show k - (o + 1) = 0 by omega]
        simp
  have := key T 0 (fun i x hx => by rw [rank_at h hx]; omega)
  simpa using this
end Go.Proofs.Ytomeipjglnpciaa
