/- Package frame: the checksum of bytes, and the document's. -/
import Derived.Test.YtndgpdpabjaedaaRowB
namespace Go.Proofs.Ytndgpdpabjaedaa
open Go.RowKit

theorem ofInt_nat (n : Nat) (h : n < 4294967296) : (BitVec.ofInt 32 (n : Int)).toNat = n := by
  rw [BitVec.toNat_ofInt]
  omega
theorem bx (s : BitVec 32) (c : Int) (h0 : 0 ≤ c) (h1 : c < 4294967296) : bits .xor .u32 (s.toNat : Int) c = ((s ^^^ BitVec.ofInt 32 c).toNat : Int) := by
  have := s.isLt
  rw [u32_xor _ _ (by omega) (by omega) h0 h1, BitVec.toNat_xor]
  have e : (BitVec.ofInt 32 c).toNat = c.toNat := by
    rw [BitVec.toNat_ofInt]
    omega
  rw [e, Int.toNat_natCast]
theorem bnot (s : BitVec 32) : bits .xor .u32 (s.toNat : Int) 4294967295 = ((~~~ s).toNat : Int) := by
  rw [bx s _ (by decide) (by decide)]
  congr 2
  have : BitVec.ofInt 32 4294967295 = BitVec.allOnes 32 := by decide
  rw [this, BitVec.xor_allOnes]
theorem bnot2 (s : BitVec 32) : bits .xor .u32 IntKind.u32.max (s.toNat : Int) = ((~~~ s).toNat : Int) := by
  rw [← bnot]
  unfold bits
  simp only
  rw [BitVec.xor_comm]
  rfl
theorem ret_int {k : IntKind} {a b : Int} (h : a = b) : Ending.returned (.int k a) = .returned (.int k b) := by rw [h]
theorem low_tmod (s : BitVec 32) : Int.tmod (s.toNat : Int) 2 = if s.getLsbD 0 then 1 else 0 := by
  rw [Int.tmod_eq_emod_of_nonneg (by omega)]
  have h : s.getLsbD 0 = decide (s.toNat % 2 = 1) := by
    rw [BitVec.getLsbD, Nat.testBit_zero]
  rw [h]
  by_cases h2 : s.toNat % 2 = 1 <;> simp [h2] <;> omega
theorem half_tdiv (s : BitVec 32) : Int.tdiv (s.toNat : Int) 2 = ((s >>> 1).toNat : Int) := by
  rw [Int.tdiv_eq_ediv_of_nonneg (by omega), BitVec.toNat_ushiftRight, Nat.shiftRight_eq_div_pow]
  omega
theorem ofInt_half (y : Int) (h0 : 0 ≤ y) (h1 : y < 256) : BitVec.ofInt 32 y >>> 1 = BitVec.ofInt 32 (y / 2) := by
  refine BitVec.eq_of_toNat_eq ?_
  rw [BitVec.toNat_ushiftRight, Nat.shiftRight_eq_div_pow, BitVec.toNat_ofInt, BitVec.toNat_ofInt]
  omega
theorem low_bit (s : BitVec 32) : (s.toNat : Int) % 2 = if s.getLsbD 0 then 1 else 0 := by
  have h : s.getLsbD 0 = decide (s.toNat % 2 = 1) := by
    rw [BitVec.getLsbD, Nat.testBit_zero]
  rw [h]
  by_cases h2 : s.toNat % 2 = 1 <;> simp [h2] <;> omega
theorem and_one (s : BitVec 32) : bits .and .u32 (s.toNat : Int) 1 = if s.getLsbD 0 then 1 else 0 := by
  have := s.isLt
  rw [u32_and _ _ (by omega) (by omega) (by decide) (by decide), ← low_bit]
  simp
theorem half (s : BitVec 32) : (s.toNat : Int) / (2 : Int) = ((s >>> 1).toNat : Int) := by
  rw [BitVec.toNat_ushiftRight, Nat.shiftRight_eq_div_pow]
  omega
theorem runC_take {l : List Int} {k : Nat} {c : Int} (s : BitVec 32) (h : l[k]? = some c) : runC s (l.take (k + 1)) = byteC (runC s (l.take k)) c := by
  rw [List.take_add_one, h, runC_append]
  rfl
theorem stepsC_succ (n : Nat) (s : BitVec 32) : stepsC (n + 1) s = stepC (stepsC n s) := by
  rw [stepsC_add]
  rfl

set_option maxHeartbeats 1000000 in
theorem sum_at (l : List Int) (a : Option Addr) (cap : Nat) (w : World) (hr : RdB w a l) (hb : Byts l) (hl : l.length < 1000000) :
    Calls Try.prog 14 #[.slice a l.length cap] w fun e w' => e = .returned (.int .u32 (sumC l).toNat) ∧ w = w' := by
  have HB := Lib.hid hb
  clear hb
  go_enter Try.func14, Try.ntmps14
  go_wp2_with fail
  go_loop [3, 9] (fun vs vk => ∃ k : Nat, k ≤ l.length ∧ vk = .int .i64 k ∧ vs = .int .u32 (runC (~~~ 0#32) (l.take k)).toNat) (fun _ vk => l.length - (intOf vk).toNat)
  case atStart => exact ⟨0, by omega, rfl, rfl⟩
  case round =>
    obtain ⟨k, hk, rfl, rfl⟩ := hrel
    by_cases hlt : k < l.length
    · have hd1 : decide ((k : Int) < l.length) = true := decide_eq_true (by omega)
      rcases hr with rfl | ⟨b, off, rfl, hc⟩
      · simp at hlt
      have hcell := hc k _ (List.getElem?_eq_getElem hlt)
      have hbd := HB.out _ (List.getElem_mem hlt)
      have HS := Lib.hid (runC_take (~~~ 0#32) (List.getElem?_eq_getElem hlt))
      generalize l[k] = c at *
      have HC := Lib.hid hc
      clear hc
      generalize runC (~~~ 0#32) (l.take k) = s at *
      have hx := bx s c hbd.1 (by omega)
      have hcm : c % 4294967296 = c := by omega
      obtain ⟨t, ht⟩ : ∃ t, s ^^^ BitVec.ofInt 32 c = t := ⟨_, rfl⟩
      rw [ht] at hx
      have HT := Lib.hid ht
      clear ht
      go_wp2_with fail
      clear hx
      go_loop [3, 17] (fun vs vj => ∃ j : Nat, j ≤ 8 ∧ vj = .int .i64 j ∧ vs = .int .u32 (stepsC j t).toNat) (fun _ vj => 8 - (intOf vj).toNat)
      case atStart => exact ⟨0, by omega, rfl, rfl⟩
      case round =>
        obtain ⟨j, hj, rfl, rfl⟩ := hrel
        by_cases hj8 : j < 8
        · have hd2 : decide ((j : Int) < 8) = true := decide_eq_true (by omega)
          have HJ := Lib.hid (stepsC_succ j t)
          generalize stepsC j t = u at *
          have h1 := and_one u
          have h2 := half u
          obtain ⟨u1, hu1⟩ : ∃ x, u >>> 1 = x := ⟨_, rfl⟩
          obtain ⟨u2, hu2⟩ : ∃ x, stepsC (j + 1) t = x := ⟨_, rfl⟩
          cases hlb : u.getLsbD 0 with
          | true =>
            rw [hlb, if_pos rfl] at h1
            have h3 := bx u1 3988292384 (by decide) (by decide)
            rw [show u1 ^^^ BitVec.ofInt 32 3988292384 = u2 by rw [← hu2, HJ.out, stepC, if_pos hlb, hu1]; rfl] at h3
            rw [hu1] at h2
            have HU := Lib.hid hu2
            clear hlb hu1 hu2
            go_wp2_with fail
            go_round
            case rel => exact ⟨j + 1, by omega, by go_num, by rw [HU.out]⟩
            case measure => simp [intOf]; omega
          | false =>
            rw [hlb, if_neg (by decide)] at h1
            have HU : Hid (stepsC (j + 1) t = u1) := Lib.hid (by rw [HJ.out, stepC, if_neg (by rw [hlb]; decide), hu1])
            rw [hu1] at h2
            clear hlb hu1 hu2
            go_wp2_with fail
            go_round
            case rel => exact ⟨j + 1, by omega, by go_num, by rw [HU.out]⟩
            case measure => simp [intOf]; omega
        · have hd2 : decide ((j : Int) < 8) = false := decide_eq_false (by omega)
          obtain rfl : j = 8 := by omega
          go_wp2_with fail
          go_round
          case rel => exact ⟨k + 1, by omega, by go_num, by rw [HS.out, byteC, HT.out]⟩
          case measure => simp [intOf]; omega
    · have hd1 : decide ((k : Int) < l.length) = false := decide_eq_false (by omega)
      have hn := bnot2 (runC (~~~ 0#32) (l.take k))
      have hsg : IntKind.u32.signed = false := rfl
      have HT := Lib.hid (List.take_of_length_le (show l.length ≤ k by omega))
      rw [HT.out] at hn
      obtain ⟨v, hv⟩ : ∃ x, runC (~~~ 0#32) l = x := ⟨_, rfl⟩
      rw [hv] at hn
      obtain ⟨v', hv'⟩ : ∃ x, ~~~ v = x := ⟨_, rfl⟩
      rw [hv'] at hn
      have HV : Hid (sumC l = v') := Lib.hid (by unfold sumC; rw [hv, hv'])
      rw [HT.out, hv]
      clear hv hv' HT
      go_wp2_with fail
      go_ret
      exact ⟨ret_int (by rw [HV.out]), rfl⟩

/-! The document's sum: each bit of a byte is taken in when it is its turn. -/
set_option maxHeartbeats 1000000 in
theorem rsum_at (l : List Int) (a : Option Addr) (cap : Nat) (w : World) (hr : RdB w a l) (hb : Byts l) (hl : l.length < 1000000) :
    Calls Try.prog 15 #[.slice a l.length cap] w fun e w' => e = .returned (.int .u32 (sumC l).toNat) ∧ w = w' := by
  have HB := Lib.hid hb
  clear hb
  go_enter Try.func15, Try.ntmps15
  go_wp2_with fail
  go_loop [3, 4] (fun vs vk => ∃ k : Nat, k ≤ l.length ∧ vk = .int .i64 k ∧ vs = .int .u32 (runC (~~~ 0#32) (l.take k)).toNat) (fun _ vk => l.length - (intOf vk).toNat)
  case atStart => exact ⟨0, by omega, rfl, rfl⟩
  case round =>
    obtain ⟨k, hk, rfl, rfl⟩ := hrel
    by_cases hlt : k < l.length
    · have hd1 : decide ((k : Int) < l.length) = true := decide_eq_true (by omega)
      rcases hr with rfl | ⟨b, off, rfl, hc⟩
      · simp at hlt
      have hcell := hc k _ (List.getElem?_eq_getElem hlt)
      have hbd := HB.out _ (List.getElem_mem hlt)
      have HS := Lib.hid (runC_take (~~~ 0#32) (List.getElem?_eq_getElem hlt))
      generalize l[k] = c at *
      have HC := Lib.hid hc
      clear hc
      generalize runC (~~~ 0#32) (l.take k) = s at *
      go_wp2_with fail
      go_loop [3, 5] (fun vs vj => ∃ (j : Nat) (x : BitVec 32), j ≤ 8 ∧ vj = .int .i64 j ∧ vs = .int .u32 x.toNat ∧ Hid (x ^^^ BitVec.ofInt 32 (c / 2 ^ j) = stepsC j (s ^^^ BitVec.ofInt 32 c))) (fun _ vj => 8 - (intOf vj).toNat)
      case atStart => exact ⟨0, s, by omega, rfl, rfl, Lib.hid (by simp [stepsC])⟩
      case round =>
        obtain ⟨j, x, hj, rfl, rfl, HX⟩ := hrel
        by_cases hj8 : j < 8
        · have hd2 : decide ((j : Int) < 8) = true := decide_eq_true (by omega)
          have hp : (0 : Int) < 2 ^ j := Int.pow_pos (by decide)
          have hy0 : 0 ≤ c / 2 ^ j := Int.ediv_nonneg hbd.1 (by omega)
          have hy1 : c / 2 ^ j < 256 := Int.lt_of_le_of_lt (Int.ediv_le_self _ hbd.1) hbd.2
          have hdd : c / 2 ^ (j + 1) = c / 2 ^ j / 2 := by rw [Int.pow_succ, Int.ediv_ediv_of_nonneg (by omega)]
          obtain ⟨y, hy⟩ : ∃ y, c / 2 ^ j = y := ⟨_, rfl⟩
          rw [hy] at hy0 hy1 hdd HX
          obtain ⟨t, ht⟩ : ∃ t, s ^^^ BitVec.ofInt 32 c = t := ⟨_, rfl⟩
          rw [ht] at HX
          obtain ⟨u, hu⟩ : ∃ x, stepsC j t = x := ⟨_, rfl⟩
          rw [hu] at HX
          have hxy := bx x y hy0 (by omega)
          rw [HX.out] at hxy
          have hym : y % 4294967296 = y := by omega
          have h1 := low_tmod u
          obtain ⟨x1, hx1⟩ : ∃ z, x >>> 1 = z := ⟨_, rfl⟩
          have h2 := half_tdiv x
          have h2' := half x
          rw [hx1] at h2 h2'
          have hz : x1 ^^^ BitVec.ofInt 32 (c / 2 ^ (j + 1)) = u >>> 1 := by rw [hdd, ← ofInt_half y hy0 hy1, ← hx1, ← BitVec.ushiftRight_xor_distrib, HX.out]
          have hst := stepsC_succ j t
          rw [hu] at hst
          have HT := Lib.hid ht
          clear ht hu hdd
          cases hlb : u.getLsbD 0 with
          | true =>
            rw [hlb, if_pos rfl] at h1
            have h3 := bx x1 3988292384 (by decide) (by decide)
            obtain ⟨x2, hx2⟩ : ∃ z, x1 ^^^ BitVec.ofInt 32 3988292384 = z := ⟨_, rfl⟩
            rw [hx2] at h3
            have HN : Hid (x2 ^^^ BitVec.ofInt 32 (c / 2 ^ (j + 1)) = stepsC (j + 1) (s ^^^ BitVec.ofInt 32 c)) := Lib.hid (by
              rw [HT.out, hst, stepC, if_pos hlb, ← hz, ← hx2, BitVec.xor_assoc, BitVec.xor_assoc, BitVec.xor_comm (BitVec.ofInt 32 3988292384)]
              rfl)
            clear hlb hst hz hx1 hx2 HT
            go_wp2_with fail
            go_round
            case rel => exact ⟨j + 1, x2, by omega, by go_num, rfl, HN⟩
            case measure => simp [intOf]; omega
          | false =>
            rw [hlb, if_neg (by decide)] at h1
            have HN : Hid (x1 ^^^ BitVec.ofInt 32 (c / 2 ^ (j + 1)) = stepsC (j + 1) (s ^^^ BitVec.ofInt 32 c)) := Lib.hid (by rw [HT.out, hst, stepC, if_neg (by rw [hlb]; decide), ← hz])
            clear hlb hst hz hx1 HT
            go_wp2_with fail
            go_round
            case rel => exact ⟨j + 1, x1, by omega, by go_num, rfl, HN⟩
            case measure => simp [intOf]; omega
        · have hd2 : decide ((j : Int) < 8) = false := decide_eq_false (by omega)
          obtain rfl : j = 8 := by omega
          have hx8 : x = byteC s c := by
            have := HX.out
            rw [show c / 2 ^ 8 = 0 by omega] at this
            simpa [byteC] using this
          have HS2 : Hid (runC (~~~ 0#32) (l.take (k + 1)) = x) := Lib.hid (by rw [HS.out, hx8])
          clear HX HS hx8
          go_wp2_with fail
          go_round
          case rel => exact ⟨k + 1, by omega, by go_num, by rw [HS2.out]⟩
          case measure => simp [intOf]; omega
    · have hd1 : decide ((k : Int) < l.length) = false := decide_eq_false (by omega)
      have hn := bnot (runC (~~~ 0#32) (l.take k))
      have HT := Lib.hid (List.take_of_length_le (show l.length ≤ k by omega))
      rw [HT.out] at hn
      obtain ⟨v, hv⟩ : ∃ x, runC (~~~ 0#32) l = x := ⟨_, rfl⟩
      rw [hv] at hn
      obtain ⟨v', hv'⟩ : ∃ x, ~~~ v = x := ⟨_, rfl⟩
      rw [hv'] at hn
      have HV : Hid (sumC l = v') := Lib.hid (by unfold sumC; rw [hv, hv'])
      rw [HT.out, hv]
      clear hv hv' HT
      go_wp2_with fail
      go_ret
      exact ⟨ret_int (by rw [HV.out]), rfl⟩
end Go.Proofs.Ytndgpdpabjaedaa
