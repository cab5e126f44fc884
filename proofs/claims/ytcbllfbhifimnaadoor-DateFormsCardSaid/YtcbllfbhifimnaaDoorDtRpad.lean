/- The document's own numbers of so many digits. -/
import Derived.Test.YtcbllfbhifimnaaDoorDtAwk
import Derived.Test.YtcbllfbhifimnaaDoorRowB
namespace Go.Proofs.YtcbllfbhifimnaaDoor
open Go.RowKit
set_option linter.unusedVariables false
set_option linter.unusedSimpArgs false
set_option maxRecDepth 10000

theorem strD_app (a b : List Int) : strL (a ++ b) = strL a ++ strL b := by
  apply ByteArray.ext
  simp [strL, ByteArray.data_append]
theorem padN_cons : ∀ (k n : Nat), padN (k + 1) n = ((48 + n / 10 ^ k % 10 : Nat) : Int) :: padN k n
  | 0, n => by unfold padN padN; simp
  | k + 1, n => by
    have e : padN (k + 1 + 1) n = padN (k + 1) (n / 10) ++ [((48 + n % 10 : Nat) : Int)] := rfl
    have e2 : padN (k + 1) n = padN k (n / 10) ++ [((48 + n % 10 : Nat) : Int)] := rfl
    rw [e, padN_cons k (n / 10), e2, List.cons_append, Nat.div_div_eq_div_mul, Nat.pow_succ, Nat.mul_comm (10 ^ k)]
set_option maxHeartbeats 2000000 in
theorem rpad_at (K N : Nat) (t : ByteArray) (ht : strL (padN K N) = t) (hK : K ≤ 10) (hN : N ≤ 9223372036854775807) (w : World) :
    Calls Tryd.prog 24 #[.int .i64 (N : Int), .int .i64 (K : Int)] w fun e w' => e = .returned (.string t) ∧ Below w.heap.size w w' := by
  have HT := Lib.hid ht
  clear ht
  go_enter Tryd.func24, Tryd.ntmps24
  go_wp2_with fail
  go_loopw [0, 5, 6] (fun n o i wr => ∃ (j k : Nat) (out : ByteArray), n = .int .i64 (k : Int) ∧ o = .string out ∧ i = .int .i64 (j : Int) ∧ j ≤ K ∧ k ≤ 9223372036854775807 ∧ out.size ≤ 10 ∧ Hid (k = N / 10 ^ j) ∧ Hid (out = strL (padN j N)) ∧ Hid (Below w.heap.size w wr)) (fun _ _ i _ => K - (intOf i).toNat)
  case atStart => exact ⟨0, N, _, rfl, rfl, rfl, by omega, hN, by decide, Lib.hid (by simp), Lib.hid rfl, Lib.hid (Below.refl _ _)⟩
  case round =>
    obtain ⟨j, k, os, rfl, rfl, rfl, hj, hk, hzs, HKD, HO, BR⟩ := hrel
    by_cases hlt : j < K
    · have d1 : decide ((j : Int) < (K : Int)) = true := decide_eq_true (by omega)
      have d2 : decide (j < K) = true := decide_eq_true hlt
      obtain ⟨u, hu⟩ : ∃ u : Int, (k : Int) % 10 = u := ⟨_, rfl⟩
      have u0 : 0 ≤ u := by omega
      have u1 : u < 10 := by omega
      have w1 : IntKind.i64.wrap (48 + u) = 48 + u := IntWalk.i64_in _ (by omega)
      have w2 : IntKind.u8.wrap (48 + u) = 48 + u := by rw [IntKind.wrap_u8]; omega
      have hcv := ((RdB.new wr [48 + u] 5 (0, 0)).drew).text (P := Tryd.prog) 37 5 9 Tryd.underlying37 Tryd.underlying5 Tryd.underlying9 (fun _ => Or.inr ⟨_, _, rfl⟩) 1
      have hcv2 := (RdB.new wr [48 + u] 5 (0, 0)).text (P := Tryd.prog) 37 5 9 Tryd.underlying37 Tryd.underlying5 Tryd.underlying9 (fun _ => Or.inr ⟨_, _, rfl⟩) 1
      simp only [List.map_cons, List.map_nil, List.length_cons, List.length_nil, Nat.zero_add] at hcv hcv2
      obtain ⟨pc, hpc⟩ : ∃ x, strL [48 + u] = x := ⟨_, rfl⟩
      obtain ⟨ns, hns⟩ : ∃ x, pc ++ os = x := ⟨_, rfl⟩
      have hzp : pc.size = 1 := by rw [← hpc, strL_size]; rfl
      have HNS : Hid (ns = strL (padN (j + 1) N)) := Lib.hid (by
        rw [← hns, HO.out, ← hpc, ← strD_app, padN_cons, ← HKD.out]
        have : ((48 + k % 10 : Nat) : Int) = 48 + u := by omega
        rw [this]
        rfl)
      have hzn : Hid (ns.size ≤ 10) := Lib.hid (by rw [HNS.out, strL_size, padN_len]; omega)
      have hadd : ∀ wx : World, (Op.stringOp .add pc os).run Tryd.prog wx = .ok (.string ns) wx := fun wx => by
        rw [run_string_add_sum wx pc os (by omega), hns]
      rw [hpc] at hcv hcv2
      have HQ : Hid ((k : Int) / 10 = ((k / 10 : Nat) : Int)) := Lib.hid (by omega)
      have HQ2 : Hid (k / 10 = N / 10 ^ (j + 1)) := Lib.hid (by rw [HKD.out, Nat.div_div_eq_div_mul, Nat.pow_succ])
      clear hpc hns hzp
      go_wp2
      go_roundw
      case rel => exact ⟨j + 1, k / 10, ns, by rw [← HQ.out], rfl, by simp, by omega, by omega, hzn.out, HQ2, HNS, Lib.hid (BR.out.alloc BR.out.size _)⟩
      case measure => simp [intOf]; omega
    · have d1 : decide ((j : Int) < (K : Int)) = false := decide_eq_false (by omega)
      have d2 : decide (j < K) = false := decide_eq_false hlt
      have HE : Hid (os = t) := Lib.hid (by rw [HO.out, ← HT.out, show j = K from by omega])
      go_wp2
      go_ret
      rw [HE.out]
      exact ⟨rfl, BR.out⟩
end Go.Proofs.YtcbllfbhifimnaaDoor
