/- Package pct, its functions on single bytes; the document's own for them. -/
import Derived.Test.YtodlecjbpmggiaaGreatDoorPcMath
import Derived.Test.YtodlecjbpmggiaaGreatDoorRowB
namespace Go.Proofs.YtodlecjbpmggiaaGreatDoor
open Go.RowKit

theorem ret_int {k : IntKind} {a b : Int} (h : a = b) : Ending.returned (.int k a) = .returned (.int k b) := by rw [h]
theorem ret_pair {k : IntKind} {a b : Int} {c d : Bool} (h : a = b) (h2 : c = d) : Ending.returned (.tuple #[.int k a, .bool c]) = .returned (.tuple #[.int k b, .bool d]) := by rw [h, h2]

theorem hexDigit_yes (c v : Int) (hv : hexI c = v) (h : 0 ≤ v) (w : World) :
    Calls Tryz.prog 113 #[.int .i32 c] w fun e w' => e = .returned (.tuple #[.int .u8 v, .bool true]) ∧ w = w' := by
  have h0 : 0 ≤ hexI c := by omega
  have hb := hexI_ascii h0
  by_cases h1 : 48 ≤ c ∧ c ≤ 57
  · obtain ⟨a, b⟩ := h1
    have e : v = c - 48 := by unfold hexI at hv; rw [if_pos ⟨a, b⟩] at hv; omega
    clear hv h0
    have HE := Lib.hid e
    clear e
    go_enter Tryz.func113, Tryz.ntmps113
    go_wp2
    go_ret2
    exact ⟨ret_pair (by rw [HE.out]) rfl, rfl⟩
  · by_cases h2 : 97 ≤ c ∧ c ≤ 102
    · obtain ⟨a, b⟩ := h2
      have e : v = c - 97 + 10 := by unfold hexI at hv; rw [if_neg h1, if_pos ⟨a, b⟩] at hv; omega
      clear hv h0
      have HE := Lib.hid e
      clear e
      have n1 : ¬ c ≤ 57 := by omega
      go_enter Tryz.func113, Tryz.ntmps113
      go_wp2
      go_ret2
      exact ⟨ret_pair (by rw [HE.out]) rfl, rfl⟩
    · have h3 : 65 ≤ c ∧ c ≤ 70 := by
        unfold hexI at hv
        rw [if_neg h1, if_neg h2] at hv
        split at hv
        · assumption
        · omega
      obtain ⟨a, b⟩ := h3
      have e : v = c - 65 + 10 := by unfold hexI at hv; rw [if_neg h1, if_neg h2, if_pos ⟨a, b⟩] at hv; omega
      clear hv h0
      have HE := Lib.hid e
      clear e
      have n1 : ¬ c ≤ 57 := by omega
      have n2 : ¬ 97 ≤ c := by omega
      go_enter Tryz.func113, Tryz.ntmps113
      go_wp2
      go_ret2
      exact ⟨ret_pair (by rw [HE.out]) rfl, rfl⟩
theorem hexDigit_no (c : Int) (h : ¬ 0 ≤ hexI c) (w : World) :
    Calls Tryz.prog 113 #[.int .i32 c] w fun e w' => e = .returned (.tuple #[.int .u8 0, .bool false]) ∧ w = w' := by
  have h1 : ¬ (48 ≤ c ∧ c ≤ 57) := by
    intro h1
    unfold hexI at h
    rw [if_pos h1] at h
    omega
  have h2 : ¬ (97 ≤ c ∧ c ≤ 102) := by
    intro h2
    unfold hexI at h
    rw [if_neg h1, if_pos h2] at h
    omega
  have h3 : ¬ (65 ≤ c ∧ c ≤ 70) := by
    intro h3
    unfold hexI at h
    rw [if_neg h1, if_neg h2, if_pos h3] at h
    omega
  clear h
  by_cases a1 : 48 ≤ c <;> by_cases a2 : 97 ≤ c <;> by_cases a3 : 65 ≤ c
  all_goals first
    | (exfalso; omega)
    | skip
  all_goals
    have b1 : 48 ≤ c → ¬ c ≤ 57 := fun h => by omega
    have b2 : 97 ≤ c → ¬ c ≤ 102 := fun h => by omega
    have b3 : 65 ≤ c → ¬ c ≤ 70 := fun h => by omega
    clear h1 h2 h3
    go_enter Tryz.func113, Tryz.ntmps113
    go_wp2
    go_ret2
    exact ⟨rfl, rfl⟩

theorem ret_bool {a b : Bool} (h : a = b) : Ending.returned (.bool a) = .returned (.bool b) := by rw [h]
theorem unreserved_as (c : Int) (b : Bool) (hb : freeI c = b) (w : World) :
    Calls Tryz.prog 96 #[.int .i32 c] w fun e w' => e = .returned (.bool b) ∧ w = w' := by
  have HB := Lib.hid hb
  clear hb
  go_enter Tryz.func96, Tryz.ntmps96
  go_wp2
  all_goals
    go_ret
    refine ⟨ret_bool ?_, rfl⟩
    rw [← HB.out, Bool.eq_iff_iff, freeI_iff]
    simp only [freeP, Bool.or_eq_true, beq_iff_eq, true_iff]
    omega

/-! The document's own. -/
theorem mem_bt (l : ByteArray) (c : Int) : c ∈ btL l ↔ ∃ (k : Nat) (h : k < l.size), (l[k].toNat : Int) = c := by
  unfold btL
  rw [List.mem_map]
  constructor
  · rintro ⟨x, hx, rfl⟩
    obtain ⟨k, hk, rfl⟩ := List.mem_iff_getElem.1 hx
    exact ⟨k, by rw [Array.length_toList] at hk; exact hk, rfl⟩
  · rintro ⟨k, hk, rfl⟩
    exact ⟨l[k], List.mem_iff_getElem.2 ⟨k, by rw [Array.length_toList]; exact hk, rfl⟩, rfl⟩
set_option maxHeartbeats 2000000 in
theorem rin_as (l : ByteArray) (c : Int) (b : Bool) (hb : decide (c ∈ btL l) = b) (hl : l.size ≤ 1000) (w : World) :
    Calls Tryz.prog 79 #[.string l, .int .u8 c] w fun e w' => e = .returned (.bool b) ∧ w = w' := by
  have HB := Lib.hid hb
  clear hb
  go_enter Tryz.func79, Tryz.ntmps79
  go_wp2
  go_loop [5] (fun i => ∃ k : Nat, k ≤ l.size ∧ i = .int .i64 k ∧ Hid (∀ (j : Nat) (h : j < l.size), j < k → (l[j].toNat : Int) ≠ c)) (fun i => l.size - (intOf i).toNat)
  case atStart => exact ⟨0, Nat.zero_le _, rfl, Lib.hid (fun j _ h => by omega)⟩
  case round =>
    obtain ⟨k, hk, rfl, HJ⟩ := hrel
    by_cases hlt : k < l.size
    · by_cases hc : (l[k].toNat : Int) = c
      · have hcb : ((l[k].toNat : Int) == c) = true := beq_iff_eq.2 hc
        have HC := Lib.hid hc
        clear hc
        go_wp2
        go_ret
        exact ⟨ret_bool (by rw [← HB.out]; exact (decide_eq_true ((mem_bt l c).2 ⟨k, hlt, HC.out⟩)).symm), rfl⟩
      · have hcb : ((l[k].toNat : Int) == c) = false := beq_eq_false_iff_ne.2 hc
        have HC := Lib.hid hc
        clear hc
        go_wp2
        go_round
        case rel => exact ⟨k + 1, by omega, by go_num, Lib.hid (fun j h1 h2 => by
          by_cases e : j = k
          · subst e; exact HC.out
          · exact HJ.out j h1 (by omega))⟩
        case measure => simp [intOf]; omega
    · go_wp2
      go_ret
      refine ⟨ret_bool ?_, rfl⟩
      rw [← HB.out]
      symm
      rw [decide_eq_false_iff_not, mem_bt]
      rintro ⟨j, h1, h2⟩
      exact HJ.out j h1 (by omega) h2
theorem low_get (k : Nat) (h : k < 16) : ((({ data := #[48, 49, 50, 51, 52, 53, 54, 55, 56, 57, 97, 98, 99, 100, 101, 102] } : ByteArray)[k]'h).toNat : Int) = lowI k := by
  have : ∀ i : Fin 16, ((({ data := #[48, 49, 50, 51, 52, 53, 54, 55, 56, 57, 97, 98, 99, 100, 101, 102] } : ByteArray)[i.val]'i.isLt).toNat : Int) = lowI i.val := by decide
  exact this ⟨k, h⟩
theorem dig_get (k : Nat) (h : k < 16) : ((({ data := #[48, 49, 50, 51, 52, 53, 54, 55, 56, 57, 65, 66, 67, 68, 69, 70] } : ByteArray)[k]'h).toNat : Int) = digI k := by
  have : ∀ i : Fin 16, ((({ data := #[48, 49, 50, 51, 52, 53, 54, 55, 56, 57, 65, 66, 67, 68, 69, 70] } : ByteArray)[i.val]'i.isLt).toNat : Int) = digI i.val := by decide
  exact this ⟨k, h⟩
theorem hex_form {c : Int} (h : 0 ≤ hexI c) : c = lowI (hexI c) ∨ c = digI (hexI c) := by
  unfold hexI lowI digI at *
  split at h
  · left; split <;> omega
  · split at h
    · left; rename_i h1 h2; rw [if_neg h1, if_pos h2]; split <;> omega
    · split at h
      · right; rename_i h1 h2 h3; rw [if_neg h1, if_neg h2, if_pos h3]; split <;> omega
      · omega
theorem hex_ne {c : Int} {k : Nat} (h : k < 16) (hn : hexI c ≠ k) : (((({ data := #[48, 49, 50, 51, 52, 53, 54, 55, 56, 57, 97, 98, 99, 100, 101, 102] } : ByteArray)[k]'h).toNat : Int) == c) = false ∧ (((({ data := #[48, 49, 50, 51, 52, 53, 54, 55, 56, 57, 65, 66, 67, 68, 69, 70] } : ByteArray)[k]'h).toNat : Int) == c) = false := by
  rw [low_get k h, dig_get k h, beq_eq_false_iff_ne, beq_eq_false_iff_ne]
  constructor
  · rintro rfl
    exact hn (hexI_low k (by omega) (by omega))
  · rintro rfl
    exact hn (hexI_dig k (by omega) (by omega))
set_option maxHeartbeats 2000000 in
theorem rhex_no (c : Int) (h : ¬ 0 ≤ hexI c) (w : World) :
    Calls Tryz.prog 76 #[.int .u8 c] w fun e w' => e = .returned (.int .i64 (-1)) ∧ w = w' := by
  have H := Lib.hid h
  clear h
  go_enter Tryz.func76, Tryz.ntmps76
  go_wp2
  go_loop [3] (fun i => ∃ k : Nat, k ≤ 16 ∧ i = .int .i64 k) (fun i => 16 - (intOf i).toNat)
  case atStart => exact ⟨0, Nat.zero_le _, rfl⟩
  case round =>
    obtain ⟨k, hk, rfl⟩ := hrel
    by_cases hlt : k < 16
    · obtain ⟨f1, f2⟩ := hex_ne (c := c) hlt (by have := H.out; omega)
      go_wp2
      go_round
      case rel => exact ⟨k + 1, by omega, by go_num⟩
      case measure => simp [intOf]; omega
    · go_wp2
      go_ret
      exact ⟨rfl, rfl⟩
set_option maxHeartbeats 2000000 in
theorem rhex_yes (c v : Int) (hv : hexI c = v) (h : 0 ≤ v) (w : World) :
    Calls Tryz.prog 76 #[.int .u8 c] w fun e w' => e = .returned (.int .i64 v) ∧ w = w' := by
  have hb := hexI_bd c
  obtain ⟨n, hn⟩ : ∃ n : Nat, v = n := ⟨v.toNat, by omega⟩
  have hn16 : n < 16 := by omega
  have hf := hex_form (c := c) (by omega)
  rw [hv, hn] at hf
  have H : Hid (hexI c = n) := Lib.hid (by rw [hv, hn])
  have HF := Lib.hid hf
  have HN := Lib.hid hn
  clear hv h hb hn hf
  go_enter Tryz.func76, Tryz.ntmps76
  go_wp2
  go_loop [3] (fun i => ∃ k : Nat, k ≤ n ∧ i = .int .i64 k) (fun i => 16 - (intOf i).toNat)
  case atStart => exact ⟨0, Nat.zero_le _, rfl⟩
  case round =>
    obtain ⟨k, hk, rfl⟩ := hrel
    have hlt : k < 16 := by omega
    by_cases hkn : k = n
    · have HK := Lib.hid hkn
      clear hkn
      cases f1 : ((({ data := #[48, 49, 50, 51, 52, 53, 54, 55, 56, 57, 97, 98, 99, 100, 101, 102] } : ByteArray)[k]'hlt).toNat : Int) == c with
      | true =>
        go_wp2
        go_ret
        exact ⟨ret_int (by rw [HN.out, HK.out]), rfl⟩
      | false =>
        have f2 : (((({ data := #[48, 49, 50, 51, 52, 53, 54, 55, 56, 57, 65, 66, 67, 68, 69, 70] } : ByteArray)[k]'hlt).toNat : Int) == c) = true := by
          rw [low_get k hlt, beq_eq_false_iff_ne] at f1
          rw [dig_get k hlt, beq_iff_eq]
          have := HK.out
          subst this
          rcases HF.out with e | e
          · exact absurd e.symm f1
          · exact e.symm
        go_wp2
        go_ret
        exact ⟨ret_int (by rw [HN.out, HK.out]), rfl⟩
    · obtain ⟨f1, f2⟩ := hex_ne (c := c) hlt (by have := H.out; omega)
      have hk2 : k < n := by omega
      clear hkn
      go_wp2
      go_round
      case rel => exact ⟨k + 1, by omega, by go_num⟩
      case measure => simp [intOf]; omega
end Go.Proofs.YtodlecjbpmggiaaGreatDoor
