/- Package tale: the lines of steps. No program here. -/
import Derived.Lib.AtoiAllCases
import Derived.Lib.Join
import Derived.Lib.Split
import Derived.Lib.ItoaMem
namespace Go.Proofs.YtbfdklmljcdonaaDoor
open Go

abbrev Bt := List UInt8
def hexD (n : Nat) : UInt8 := UInt8.ofNat (if n < 10 then 48 + n else 87 + n)
def hexL (l : Bt) : Bt := l.flatMap fun c => [hexD (c.toNat / 16), hexD (c.toNat % 16)]
def hexW (l : Bt) : Bt := 120 :: hexL l
def dgs : Bt := [48, 49, 50, 51, 52, 53, 54, 55, 56, 57, 97, 98, 99, 100, 101, 102]
def unD (c : UInt8) : Int := Lib.indexByte dgs c
def unL : Bt → Option Bt
  | [] => some []
  | [_] => none
  | a :: b :: r => if unD a < 0 ∨ unD b < 0 then none else (unL r).map (UInt8.ofNat ((unD a).toNat * 16 + (unD b).toNat) :: ·)
def unW (l : Bt) : Option Bt := match l with
  | 120 :: r => unL r
  | _ => none
theorem hexD_fin : ∀ c : Fin 256, unD (hexD (c.val / 16)) = (c.val / 16 : Nat) ∧ unD (hexD (c.val % 16)) = (c.val % 16 : Nat) := by decide +kernel
theorem hexD_un (c : UInt8) : unD (hexD (c.toNat / 16)) = (c.toNat / 16 : Nat) ∧ unD (hexD (c.toNat % 16)) = (c.toNat % 16 : Nat) := hexD_fin ⟨c.toNat, c.toNat_lt⟩
theorem unD_fin : ∀ c : Fin 256, unD (UInt8.ofNat c.val) < 0 ∨ (hexD (unD (UInt8.ofNat c.val)).toNat = UInt8.ofNat c.val ∧ unD (UInt8.ofNat c.val) < 16) := by decide +kernel
theorem unD_hex (c : UInt8) (h : ¬ unD c < 0) : hexD (unD c).toNat = c ∧ unD c < 16 := by
  have := unD_fin ⟨c.toNat, c.toNat_lt⟩
  simp only [UInt8.ofNat_toNat] at this
  rcases this with h1 | h1
  · exact absurd h1 h
  · exact h1
theorem unL_hex : ∀ l : Bt, unL (hexL l) = some l
  | [] => rfl
  | c :: r => by
    have ih := unL_hex r
    obtain ⟨h1, h2⟩ := hexD_un c
    show unL (hexD (c.toNat / 16) :: hexD (c.toNat % 16) :: hexL r) = _
    unfold unL
    rw [h1, h2, if_neg (by omega), ih, Option.map_some]
    congr 2
    have e : (c.toNat / 16 * 16 + c.toNat % 16) = c.toNat := by omega
    simp only [Int.toNat_natCast]
    rw [e, UInt8.ofNat_toNat]
theorem hex_unL : ∀ (n : Nat) (w l : Bt), w.length ≤ n → unL w = some l → w = hexL l := by
  intro n
  induction n with
  | zero =>
    intro w l hw h
    have : w = [] := List.eq_nil_of_length_eq_zero (by omega)
    subst this
    injection h with h
    subst h
    rfl
  | succ n ih =>
    intro w l hw h
    match w, h with
    | [], h => injection h with h; subst h; rfl
    | [a], h => cases h
    | a :: b :: r, h =>
      unfold unL at h
      split at h
      · cases h
      · rename_i hn
        cases hr : unL r with
        | none => rw [hr] at h; cases h
        | some t =>
          rw [hr, Option.map_some] at h
          injection h with h
          subst h
          have e := ih r t (by simp at hw; omega) hr
          obtain ⟨a1, a2⟩ := unD_hex a (fun h => hn (Or.inl h))
          obtain ⟨b1, b2⟩ := unD_hex b (fun h => hn (Or.inr h))
          have a0 : 0 ≤ unD a := by omega
          have b0 : 0 ≤ unD b := by omega
          obtain ⟨A, hA⟩ := Int.eq_ofNat_of_zero_le a0
          obtain ⟨B, hB⟩ := Int.eq_ofNat_of_zero_le b0
          rw [hA] at a1 a2 ⊢
          rw [hB] at b1 b2 ⊢
          simp only [Int.toNat_natCast] at a1 b1 ⊢
          show _ = hexD ((UInt8.ofNat (A * 16 + B)).toNat / 16) :: hexD ((UInt8.ofNat (A * 16 + B)).toNat % 16) :: hexL t
          have e1 : (UInt8.ofNat (A * 16 + B)).toNat = A * 16 + B := by
            rw [UInt8.toNat_ofNat']
            omega
          rw [e1, show (A * 16 + B) / 16 = A by omega, show (A * 16 + B) % 16 = B by omega, a1, b1, ← e]
theorem unW_hex (l : Bt) : unW (hexW l) = some l := unL_hex l
theorem hex_unW {w l : Bt} (h : unW w = some l) : w = hexW l := by
  unfold unW at h
  split at h
  · unfold hexW; rw [← hex_unL _ _ _ (Nat.le_refl _) h]
  · cases h
theorem hexD_no_fin : ∀ c : Fin 256, hexD (c.val / 16) ≠ 32 ∧ hexD (c.val % 16) ≠ 32 ∧ hexD (c.val / 16) ≠ 10 ∧ hexD (c.val % 16) ≠ 10 := by decide +kernel
theorem hexW_no (l : Bt) : ∀ c ∈ hexW l, c ≠ 32 ∧ c ≠ 10 := by
  intro c hc
  rcases List.mem_cons.1 hc with rfl | hc
  · decide
  · obtain ⟨d, _, hd⟩ := List.mem_flatMap.1 hc
    have := hexD_no_fin ⟨d.toNat, d.toNat_lt⟩
    simp only [List.mem_cons, List.not_mem_nil, or_false] at hd
    rcases hd with rfl | rfl
    · exact ⟨this.1, this.2.2.1⟩
    · exact ⟨this.2.1, this.2.2.2⟩
theorem hexL_length (l : Bt) : (hexL l).length = 2 * l.length := by
  induction l with
  | nil => rfl
  | cons c r ih => unfold hexL at ih ⊢; rw [List.flatMap_cons, List.length_append, ih]; simp; omega
theorem hexW_inj {a b : Bt} (h : hexW a = hexW b) : a = b := by
  have h1 := unW_hex a
  rw [h, unW_hex b] at h1
  exact (Option.some.inj h1).symm
/-! ### Numbers -/
theorem dec_ascii : ∀ (u : Nat), ∀ c ∈ Lib.decDigits u, 48 ≤ c.toNat ∧ c.toNat ≤ 57 := by
  intro u
  induction u using Nat.strongRecOn with
  | ind u ih =>
    intro c hc
    rw [Lib.decDigits] at hc
    split at hc
    · rw [List.mem_singleton] at hc
      subst hc
      rw [UInt8.toNat_ofNat']
      omega
    · rcases List.mem_append.1 hc with h | h
      · exact ih (u / 10) (by omega) c h
      · rw [List.mem_singleton] at h
        subst h
        rw [UInt8.toNat_ofNat']
        omega
theorem dec_ne (u : Nat) : Lib.decDigits u ≠ [] := by
  intro h
  have := Lib.decDigits_length u
  have := Lib.nDigits_pos u
  rw [h] at *
  simp at *
  omega
theorem pu_app : ∀ (a b : Bt) (acc n : Nat), Lib.parseUint10 acc a = .ok n → Lib.parseUint10 acc (a ++ b) = Lib.parseUint10 n b
  | [], b, acc, n, h => by
    simp only [Lib.parseUint10] at h
    injection h with h
    subst h
    rfl
  | c :: r, b, acc, n, h => by
    simp only [Lib.parseUint10, List.cons_append] at h ⊢
    split at h
    · rename_i h1
      rw [if_pos h1]
      split at h
      · cases h
      · rename_i h2
        rw [if_neg h2]
        split at h
        · cases h
        · rename_i h3
          rw [if_neg h3]
          exact pu_app r b _ n h
    · cases h
theorem pu_dec : ∀ (u : Nat), u < 18446744073709551616 → Lib.parseUint10 0 (Lib.decDigits u) = .ok u := by
  intro u
  induction u using Nat.strongRecOn with
  | ind u ih =>
    intro hu
    rw [Lib.decDigits]
    split
    · rename_i h
      have e : (UInt8.ofNat (48 + u)).toNat = 48 + u := by rw [UInt8.toNat_ofNat']; omega
      simp only [Lib.parseUint10, e]
      rw [if_pos (by omega), if_neg (by omega), if_neg (by omega)]
      congr 1
      omega
    · rename_i h
      have e : (UInt8.ofNat (48 + u % 10)).toNat = 48 + u % 10 := by rw [UInt8.toNat_ofNat']; omega
      rw [pu_app _ _ 0 (u / 10) (ih (u / 10) (by omega) (by omega))]
      simp only [Lib.parseUint10, e]
      rw [if_pos (by omega), if_neg (by omega), if_neg (by omega)]
      congr 1
      omega
def Rng (n : Int) : Prop := -9223372036854775808 ≤ n ∧ n ≤ 9223372036854775807
theorem mag_dec (u : Nat) (h : u < 18446744073709551616) : Lib.parseMag (Lib.decDigits u) = .ok u := by
  unfold Lib.parseMag
  rw [if_neg (dec_ne u), pu_dec u h]
theorem atoi_itoa {n : Int} (h : Rng n) : Lib.atoiAll (Lib.itoa n) = .ok n := by
  obtain ⟨h1, h2⟩ := h
  unfold Lib.itoa
  split
  · rename_i hn
    unfold Lib.atoiAll
    simp only
    rw [if_pos (by right; rfl), mag_dec _ (by omega)]
    simp only
    rw [if_neg (by intro h; exact h.1 rfl), if_neg (by omega), if_pos (by rfl)]
    congr 1
    omega
  · rename_i hn
    cases hd : Lib.decDigits n.toNat with
    | nil => exact absurd hd (dec_ne _)
    | cons c r =>
      have hc := dec_ascii n.toNat c (by rw [hd]; exact List.mem_cons_self ..)
      unfold Lib.atoiAll
      simp only
      rw [if_neg (by omega), ← hd, mag_dec _ (by omega)]
      simp only
      rw [if_neg (by omega), if_neg (by omega), if_neg (by omega)]
      congr 1
      omega
def numW (w : Bt) : Option Int := match Lib.atoiAll w with
  | .ok v => if Lib.itoa v = w then some v else none
  | _ => none
theorem numW_itoa {n : Int} (h : Rng n) : numW (Lib.itoa n) = some n := by
  unfold numW
  rw [atoi_itoa h]
  simp
theorem itoa_numW {w : Bt} {n : Int} (h : numW w = some n) : w = Lib.itoa n ∧ Rng n := by
  unfold numW at h
  split at h
  · rename_i v hv
    split at h
    · rename_i he
      injection h with h
      subst h
      exact ⟨he.symm, Lib.atoiAll_bounds hv⟩
    · cases h
  · cases h
theorem itoa_no (n : Int) : ∀ c ∈ Lib.itoa n, c ≠ 32 ∧ c ≠ 10 := by
  intro c hc
  have key : ∀ u, c ∈ Lib.decDigits u → c ≠ 32 ∧ c ≠ 10 := fun u h => by
    have := dec_ascii u c h
    constructor <;> (intro e; subst e; simp at this)
  unfold Lib.itoa at hc
  split at hc
  · rcases List.mem_cons.1 hc with rfl | hc
    · decide
    · exact key _ hc
  · exact key _ hc
theorem itoa_inj {n m : Int} (hn : Rng n) (hm : Rng m) (h : Lib.itoa n = Lib.itoa m) : n = m := by
  have h1 := numW_itoa hn
  rw [h, numW_itoa hm] at h1
  exact (Option.some.inj h1).symm
theorem dec_len (u : Nat) (h : u < 10 ^ 20) : (Lib.decDigits u).length ≤ 20 := by
  rw [Lib.decDigits_length]
  rcases Nat.lt_or_ge 20 (Lib.nDigits u) with hg | hg
  · exfalso
    obtain ⟨k, hk⟩ : ∃ k, Lib.nDigits u = k + 1 := ⟨Lib.nDigits u - 1, by omega⟩
    have : ∀ (k v : Nat), Lib.nDigits v = k + 1 → 10 ^ k ≤ v ∨ k = 0 := by
      intro k
      induction k with
      | zero => intro v _; exact Or.inr rfl
      | succ k ih =>
        intro v hv
        left
        have hb : ¬ v < 10 := fun h => by rw [Lib.nDigits_small h] at hv; omega
        rw [Lib.nDigits_big hb] at hv
        rcases ih (v / 10) (by omega) with h1 | h1
        · rw [Nat.pow_succ]
          have := Nat.div_mul_le_self v 10
          calc 10 ^ k * 10 ≤ v / 10 * 10 := Nat.mul_le_mul_right _ h1
            _ ≤ v := this
        · subst h1
          simpa using Nat.le_of_not_lt hb
    rcases this k u hk with h1 | h1
    · have h20 : 20 ≤ k := by omega
      have := Nat.pow_le_pow_right (show 0 < 10 by omega) h20
      omega
    · omega
  · exact hg
theorem itoa_len {n : Int} (h : Rng n) : (Lib.itoa n).length ≤ 21 := by
  obtain ⟨h1, h2⟩ := h
  unfold Lib.itoa
  split
  · have := dec_len n.natAbs (by omega)
    simp
    omega
  · have := dec_len n.toNat (by omega)
    omega
/-! ### Splitting at blanks -/
def spl : Bt → List Bt
  | [] => [[]]
  | c :: r => if c = 32 then [] :: spl r else match spl r with
    | [] => [[c]]
    | w :: ws => (c :: w) :: ws
theorem spl_ne : ∀ l, spl l ≠ []
  | [] => by simp [spl]
  | c :: r => by
    unfold spl
    split
    · simp
    · split <;> simp
theorem spl_no : ∀ l, ∀ w ∈ spl l, (32 : UInt8) ∉ w
  | [] => by simp [spl]
  | c :: r => by
    have ih := spl_no r
    unfold spl
    split
    · intro w hw
      rcases List.mem_cons.1 hw with rfl | hw
      · simp
      · exact ih w hw
    · rename_i hc
      split
      · intro w hw
        simp at hw
        subst hw
        simp
        exact fun e => hc e.symm
      · rename_i w0 ws e
        rw [e] at ih
        intro w hw
        rcases List.mem_cons.1 hw with rfl | hw
        · intro hm
          rcases List.mem_cons.1 hm with h1 | h1
          · exact hc h1.symm
          · exact ih w0 (List.mem_cons_self ..) h1
        · exact ih w (List.mem_cons_of_mem _ hw)
theorem spl_word : ∀ (w r : Bt), (32 : UInt8) ∉ w → spl (w ++ 32 :: r) = w :: spl r
  | [], r, _ => by simp [spl]
  | c :: w, r, h => by
    have ih := spl_word w r (fun hm => h (List.mem_cons_of_mem _ hm))
    rw [List.cons_append, spl, if_neg (fun e => h (by rw [e]; exact List.mem_cons_self ..)), ih]
theorem spl_last : ∀ (w : Bt), (32 : UInt8) ∉ w → spl w = [w]
  | [], _ => rfl
  | c :: w, h => by
    have ih := spl_last w (fun hm => h (List.mem_cons_of_mem _ hm))
    unfold spl
    rw [if_neg (fun e => h (by rw [e]; exact List.mem_cons_self ..)), ih]
theorem spl_join : ∀ (ws : List Bt) (w : Bt), (∀ v ∈ w :: ws, (32 : UInt8) ∉ v) → spl (Lib.join (w :: ws) [32]) = w :: ws
  | [], w, h => by rw [Lib.join_one]; exact spl_last w (h w (List.mem_cons_self ..))
  | v :: ws, w, h => by
    have e : Lib.join (w :: v :: ws) [32] = w ++ 32 :: Lib.join (v :: ws) [32] := by
      rw [Lib.join_cons, Lib.join_cons]
      simp [Lib.joinTail]
    rw [e, spl_word _ _ (h w (List.mem_cons_self ..)), spl_join ws v (fun x hx => h x (List.mem_cons_of_mem _ hx))]
theorem join_spl : ∀ (l : Bt), Lib.join (spl l) [32] = l
  | [] => rfl
  | c :: r => by
    have ih := join_spl r
    unfold spl
    split
    · rename_i hc
      cases hs : spl r with
      | nil => exact absurd hs (spl_ne r)
      | cons w ws =>
        rw [hs, Lib.join_cons] at ih
        rw [Lib.join_cons]
        subst hc
        simp [Lib.joinTail] at ih ⊢
        exact ih
    · split
      · rename_i hs; exact absurd hs (spl_ne r)
      · rename_i w ws hs
        rw [hs, Lib.join_cons] at ih
        rw [Lib.join_cons, ← ih]
        rfl
theorem index_sp {s : Bt} {i : Nat} (h : Lib.index s [32] = i) : i < s.length ∧ s = s.take i ++ 32 :: s.drop (i + 1) ∧ (32 : UInt8) ∉ s.take i := by
  rcases Lib.index_spec s [32] with ⟨e, _⟩ | ⟨j, e, hj, hocc, hno⟩
  · omega
  · have : j = i := by omega
    subst this
    have hp := List.isPrefixOf_iff_prefix.1 hocc
    obtain ⟨t, ht⟩ := hp
    have hlt : j < s.length := by
      have := congrArg List.length ht
      simp at this
      omega
    have hd : s.drop (j + 1) = t := by rw [← List.drop_drop, ← ht]; rfl
    refine ⟨hlt, ?_, ?_⟩
    · rw [hd]
      conv => lhs; rw [← List.take_append_drop j s, ← ht]
      rfl
    · intro hm
      obtain ⟨k, hk, hk2⟩ := List.mem_iff_getElem.1 hm
      rw [List.length_take] at hk
      rw [List.getElem_take] at hk2
      have h1 := hno k (by omega)
      unfold Lib.occAt at h1
      have h2 : s.drop k = 32 :: s.drop (k + 1) := by
        rw [List.drop_eq_getElem_cons (by omega), hk2]
      rw [h2] at h1
      simp [List.isPrefixOf] at h1
theorem index_no_sp {s : Bt} (h : Lib.index s [32] = -1) : (32 : UInt8) ∉ s := by
  rcases Lib.index_spec s [32] with ⟨_, hno⟩ | ⟨j, e, _⟩
  · intro hm
    obtain ⟨k, hk, hk2⟩ := List.mem_iff_getElem.1 hm
    have h1 := hno k (by omega)
    unfold Lib.occAt at h1
    rw [List.drop_eq_getElem_cons hk, hk2] at h1
    simp [List.isPrefixOf] at h1
  · omega
theorem split_spl : ∀ (n : Nat) (s : Bt), s.length ≤ n → Lib.splitK [32] 0 (Lib.count s [32]) s = spl s := by
  intro n
  induction n with
  | zero =>
    intro s hs
    have : s = [] := List.eq_nil_of_length_eq_zero (by omega)
    subst this
    have e : Lib.index [] [32] = -1 := rfl
    rw [Lib.count_miss e]
    rfl
  | succ n ih =>
    intro s hs
    rcases Lib.index_spec s [32] with ⟨e, _⟩ | ⟨i, e, _⟩
    · rw [Lib.count_miss e, spl_last s (index_no_sp e)]
      rfl
    · obtain ⟨hlt, hcut, hno⟩ := index_sp e
      have h1 := ih (s.drop (i + 1)) (by simp; omega)
      have hc := Lib.count_hit (s := s) (sub := [32]) (by simp) e
      simp only [List.length_cons, List.length_nil, Nat.zero_add] at hc
      rw [hc, Nat.add_comm 1]
      conv => rhs; rw [hcut, spl_word _ _ hno]
      unfold Lib.splitK
      rw [e, if_neg (by rw [beq_iff_eq]; omega)]
      simp only [Int.toNat_natCast, Nat.add_zero, List.length_cons, List.length_nil, Nat.zero_add]
      rw [h1]
end Go.Proofs.YtbfdklmljcdonaaDoor
