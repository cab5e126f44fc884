/- Numbers of so many digits: written. -/
import Derived.Test.YtcbllfbhifimnaaDoorDtPrs
import Derived.Test.YtcbllfbhifimnaaDoorShelfR
import Derived.Lib.AppendIntMem
namespace Go.Proofs.YtcbllfbhifimnaaDoor
open Go.RowKit
set_option linter.unusedVariables false
set_option linter.unusedSimpArgs false
set_option maxRecDepth 10000

/-- So many digits. -/
def padN : Nat → Nat → List Int
  | 0, _ => []
  | k + 1, n => padN k (n / 10) ++ [((48 + n % 10 : Nat) : Int)]
theorem padN_len : ∀ k n, (padN k n).length = k
  | 0, _ => rfl
  | k + 1, n => by unfold padN; simp [padN_len k]
theorem padN_zero : ∀ k, padN k 0 = List.replicate k 48
  | 0 => rfl
  | k + 1 => by
    unfold padN
    rw [Nat.zero_div, padN_zero k, List.replicate_succ']
    rfl
theorem dec_pad : ∀ (k n : Nat), n < 10 ^ (k + 1) → (Lib.decDigits n).length ≤ k + 1 ∧ List.replicate (k + 1 - (Lib.decDigits n).length) 48 ++ ivD (Lib.decDigits n) = padN (k + 1) n
  | 0, n, h => by
    have h10 : n < 10 := by simpa using h
    rw [Lib.decDigits_one h10]
    refine ⟨by simp, ?_⟩
    unfold padN padN
    simp [ivD]
    omega
  | k + 1, n, h => by
    by_cases h10 : n < 10
    · rw [Lib.decDigits_one h10]
      refine ⟨by simp, ?_⟩
      unfold padN
      rw [show n / 10 = 0 from by omega, padN_zero]
      simp [ivD]
      omega
    · have ih := dec_pad k (n / 10) (by rw [Nat.pow_succ] at h; omega)
      rw [Lib.decDigits, dif_neg h10]
      refine ⟨by simp; omega, ?_⟩
      unfold padN
      rw [← ih.2]
      simp [ivD]
      omega
/-- The package's names, and the library's table of powers. -/
structure TabT (w : World) : Prop where
  d : TabD w
  p : Lib.TabIs Tryd.prog w "internal/strconv.uint64pow10" .u64 Lib.pow10Tab
theorem TabT.later {w w' : World} (h : TabT w) (hb : Below w.heap.size w w') : TabT w' := ⟨h.d.later hb, (Lib.tabBelow_of_tabIs h.p) w' hb⟩
theorem d_grow {B : Nat} {a w : World} (h : Below B a w) (hB : B ≤ a.heap.size) (os : Array Obj) : Below B a (Go.Sort.grow w os) :=
  ⟨h.os, h.tape, h.output, by unfold Go.Sort.grow; rw [Array.size_append]; have := h.size; omega, fun k hk => by
    have := h.size
    unfold Go.Sort.grow
    rw [Array.getElem?_append_left (by omega)]
    exact h.block k hk⟩
theorem d_itoa (n : Nat) (t : ByteArray) (ht : ⟨(Lib.decDigits n).toArray⟩ = t) (hn : n ≤ 9223372036854775807) (w : World) (hT : TabT w) :
    Calls Tryd.prog 48 #[.int .i64 (n : Int)] w fun e w' => e = .returned (.string t) ∧ Below w.heap.size w w' := by
  refine (Any.strconv_Itoa Tryd.laysM171 (n : Int) (by omega) (by omega) w hT.p).mono ?_
  rintro e w' ⟨rfl, k, os, rfl⟩
  refine ⟨?_, d_grow (below_drewD (Below.refl _ _) _) (Nat.le_refl _) os⟩
  have e1 : Lib.itoa (n : Int) = Lib.decDigits n := by
    unfold Lib.itoa
    rw [if_neg (by omega), Int.toNat_natCast]
  rw [e1, ht]
theorem rep_list (c : Nat) : ivD (Lib.repeatL [48] c) = List.replicate c 48 := by
  induction c with
  | zero => rfl
  | succ c ih => 
    rw [List.replicate_succ, ← ih]
    rfl
theorem d_repeat (c : Nat) (t : ByteArray) (ht : ⟨(Lib.repeatL [48] c).toArray⟩ = t) (hc : c ≤ 100) (w : World) :
    Calls Tryd.prog 49 #[.string ⟨#[48]⟩, .int .i64 (c : Int)] w fun e w' => e = .returned (.string t) ∧ Below w.heap.size w w' := by
  by_cases h0 : c = 0
  · subst h0
    refine (Any.strings_Repeat_zero Tryd.lays105 ⟨#[48]⟩ w).mono ?_
    rintro e w' ⟨rfl, rfl⟩
    exact ⟨by rw [← ht]; rfl, Below.refl _ _⟩
  · by_cases h1 : c = 1
    · subst h1
      refine (Any.strings_Repeat_one Tryd.lays105 ⟨#[48]⟩ w).mono ?_
      rintro e w' ⟨rfl, rfl⟩
      exact ⟨by rw [← ht]; rfl, Below.refl _ _⟩
    · refine (Any.strings_Repeat_main Tryd.lays105 Tryd.extra105 ⟨#[48]⟩ c w (by omega) (by omega) (by show 1 * c ≤ _; omega) (by decide)).mono ?_
      rintro e w' ⟨rfl, hb⟩
      exact ⟨by rw [← ht], hb⟩
set_option maxHeartbeats 2000000 in
theorem padded_at (k n : Nat) (t : ByteArray) (ht : strL (padN (k + 1) n) = t) (hk : k ≤ 10) (h : n < 10 ^ (k + 1)) (hn : n ≤ 9223372036854775807) (w : World) (hT : TabT w) :
    Calls Tryd.prog 28 #[.int .i64 (n : Int), .int .i64 ((k + 1 : Nat) : Int)] w fun e w' => e = .returned (.string t) ∧ Below w.heap.size w w' := by
  have hp := dec_pad k n h
  obtain ⟨a, ha⟩ : ∃ a : ByteArray, ⟨(Lib.decDigits n).toArray⟩ = a := ⟨_, rfl⟩
  obtain ⟨c, hc⟩ : ∃ c, k + 1 - (Lib.decDigits n).length = c := ⟨_, rfl⟩
  obtain ⟨b, hb⟩ : ∃ b : ByteArray, ⟨(Lib.repeatL [48] c).toArray⟩ = b := ⟨_, rfl⟩
  have za : a.size = (Lib.decDigits n).length := by rw [← ha]; rfl
  have zb : b.size = c := by rw [← hb]; show (Lib.repeatL [48] c).toArray.size = c; simp [Lib.repeatL_length]
  have HS : Hid (b ++ a = t) := Lib.hid (by
    rw [← ht, ← hp.2, hc, ← strL_btL (b ++ a)]
    congr 1
    rw [← hb, ← ha, ← rep_list]
    simp [btL, ivD, ByteArray.data_append])
  have hz : ((k + 1 : Nat) : Int) - (a.size : Int) = (c : Int) := by omega
  have C1 := Lib.hid (fun W hW => d_itoa n a ha hn W hW)
  have C2 := Lib.hid (fun W => d_repeat c b hb (by omega) W)
  have HT := Lib.hid hT
  have s1 : a.size ≤ 100 := by omega
  have s2 : b.size ≤ 100 := by omega
  have A1 : ∀ wx : World, (Op.stringOp .add b a).run Tryd.prog wx = .ok (.string t) wx := fun wx => by rw [run_string_add_sum wx _ _ (by omega), HS.out]
  have HZ := Lib.hid hz
  obtain ⟨K, hK⟩ : ∃ K, ((k + 1 : Nat) : Int) = K := ⟨_, rfl⟩
  rw [hK] at hz ⊢
  have K0 : 0 ≤ K := by omega
  have K1 : K ≤ 11 := by omega
  clear hp ha hb hc ht h hT HS HZ hK za zb
  go_enter Tryd.func28, Tryd.ntmps28
  go_wp2_with fail
  refine (C1.out _ HT.out).mono ?_
  rintro e w1 ⟨rfl, B1⟩
  have B1 := Lib.hid B1
  go_wp2_with fail
  refine (C2.out _).mono ?_
  rintro e w2 ⟨rfl, B2⟩
  have B2 := Lib.hid (B1.out.trans (B2.mono B1.out.size))
  go_wp2
  go_ret
  exact ⟨rfl, B2.out⟩
end Go.Proofs.YtcbllfbhifimnaaDoor
