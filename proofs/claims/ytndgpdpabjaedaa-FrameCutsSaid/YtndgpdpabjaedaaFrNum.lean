/- Package frame: numbers as bytes, there and back. -/
import Derived.Test.YtndgpdpabjaedaaFrSum
namespace Go.Proofs.Ytndgpdpabjaedaa
open Go.RowKit

theorem or_shl (n c : Int) (h0 : 0 ≤ c) (h1 : c < 256) : bits .or .i64 (wrap64 (n * 256)) c = wrap64 (n * 256 + c) := by
  have ha : (BitVec.ofInt 64 (wrap64 (n * 256))).toNat = (n * 256 % 18446744073709551616).toNat := by
    rw [BitVec.toNat_ofInt]
    unfold wrap64
    omega
  have hc : (BitVec.ofInt 64 c).toNat = c.toNat := by
    rw [BitVec.toNat_ofInt]
    omega
  show IntKind.i64.wrap ((BitVec.ofInt 64 (wrap64 (n * 256)) ||| BitVec.ofInt 64 c).toNat : Int) = _
  rw [BitVec.toNat_or, ha, hc]
  have hq : (n * 256 % 18446744073709551616).toNat = 2 ^ 8 * ((n * 256 % 18446744073709551616).toNat / 256) := by omega
  rw [hq, ← Nat.two_pow_add_eq_or_of_lt (by omega), ← hq, IntKind.wrap_i64]
  unfold wrap64
  omega
theorem val_take {l : List Int} {k : Nat} {c : Int} (h : l[k]? = some c) : valI (l.take (k + 1)) = valI (l.take k) * 256 + c := by
  rw [List.take_add_one, h]
  exact valI_snoc _ _
theorem wrap_step (v c : Int) : wrap64 (wrap64 v * 256 + c) = wrap64 (v * 256 + c) := by unfold wrap64; omega

set_option maxHeartbeats 1000000 in
theorem number_at (l : List Int) (a : Option Addr) (cap : Nat) (w : World) (hr : RdB w a l) (hb : Byts l) (hl : l.length < 1000000) :
    Calls Try.prog 20 #[.slice a l.length cap] w fun e w' => e = .returned (.int .i64 (wrap64 (valI l))) ∧ w = w' := by
  have HB := Lib.hid hb
  clear hb
  go_enter Try.func20, Try.ntmps20
  go_wp2_with fail
  go_loop [3, 8] (fun vs vk => ∃ k : Nat, k ≤ l.length ∧ vk = .int .i64 k ∧ vs = .int .i64 (wrap64 (valI (l.take k)))) (fun _ vk => l.length - (intOf vk).toNat)
  case atStart => exact ⟨0, by omega, rfl, by simp [valI, wrap64]⟩
  case round =>
    obtain ⟨k, hk, rfl, rfl⟩ := hrel
    by_cases hlt : k < l.length
    · have hd1 : decide ((k : Int) < l.length) = true := decide_eq_true (by omega)
      rcases hr with rfl | ⟨b, off, rfl, hc⟩
      · simp at hlt
      have hcell := hc k _ (List.getElem?_eq_getElem hlt)
      have hbd := HB.out _ (List.getElem_mem hlt)
      have HS := Lib.hid (val_take (List.getElem?_eq_getElem hlt))
      generalize l[k] = c at *
      have HC := Lib.hid hc
      clear hc
      obtain ⟨v, hv⟩ : ∃ v, valI (l.take k) = v := ⟨_, rfl⟩
      rw [hv] at HS ⊢
      clear hv
      have ho := or_shl (wrap64 v) c hbd.1 hbd.2
      rw [wrap_step, ← HS.out] at ho
      go_wp2_with fail
      go_round
      case rel => exact ⟨k + 1, by omega, by go_num, rfl⟩
      case measure => simp [intOf]; omega
    · have hd1 : decide ((k : Int) < l.length) = false := decide_eq_false (by omega)
      have HT := Lib.hid (List.take_of_length_le (show l.length ≤ k by omega))
      rw [HT.out]
      go_wp2_with fail
      go_ret
      exact ⟨rfl, rfl⟩

set_option maxHeartbeats 1000000 in
theorem appNum_at (B : Nat) (n : Int) (size : Nat) (xs : List Int) (a : Option Addr) (cap : Nat) (w : World) (hs : size ≤ 8) (hown : OwnB w B a cap xs) (hB : B ≤ w.heap.size) (hl : xs.length < 100000) :
    Calls Try.prog 17 #[.slice a xs.length cap, .int .i64 n, .int .i64 size] w fun e w' => ∃ a' cap', e = .returned (.slice a' (xs ++ bigI n size).length cap') ∧ OwnB w' B a' cap' (xs ++ bigI n size) ∧ Below B w w' := by
  have HOW := Lib.hid hown
  clear hown
  go_enter Try.func17, Try.ntmps17
  go_wp2_with fail
  go_loopw [0, 9] (fun vs vk wx => ∃ (k : Nat) (ys : List Int) (a' : Option Addr) (cap' : Nat), k ≤ size ∧ vk = .int .i64 k ∧ vs = .slice a' ys.length cap' ∧ ys.length = xs.length + k ∧ Hid (ys = xs ++ (bigI n size).take k) ∧ Hid (OwnB wx B a' cap' ys) ∧ Hid (Below B w wx)) (fun _ vk _ => size - (intOf vk).toNat)
  case atStart => exact ⟨0, xs, a, cap, by omega, rfl, rfl, by omega, Lib.hid (by simp), HOW, Lib.hid (Below.refl _ _)⟩
  case round =>
    obtain ⟨k, ys, a', cap', hk, rfl, rfl, hyl, HY, HR, HB⟩ := hrel
    have hyb : ys.length < 100008 := by omega
    have HYL := Lib.hid hyl
    clear hyl
    by_cases hlt : k < size
    · have hd1 : decide ((k : Int) < size) = true := decide_eq_true (by omega)
      have HN : Hid ((bigI n size)[k]? = some (n / 2 ^ (8 * (size - 1 - k)) % 256)) := Lib.hid (by
        rw [bigI_get n size k hlt, Int.pow_mul]
        rfl)
      have hbs := HB.out.size
      go_wp2_with (at_builtin; refine wpList_app rfl _ _ rfl B a' cap' ys rfl (HR.out.alloc _) wr.heap.size 0 1 [n / 2 ^ (8 * (size - 1 - k)) % 256] rfl (OwnB.lit (B := B) [n / 2 ^ (8 * (size - 1 - k)) % 256] (by omega) (by simp)).rd (by simp; omega) (by simp; omega) ?_; intro a2 cap2 w2 hown2 hb2)
      have HY2 : Hid (ys ++ [n / 2 ^ (8 * (size - 1 - k)) % 256] = xs ++ (bigI n size).take (k + 1)) := Lib.hid (by rw [HY.out, List.append_assoc, List.take_add_one, HN.out]; rfl)
      have HL2 : (ys ++ [n / 2 ^ (8 * (size - 1 - k)) % 256]).length = xs.length + (k + 1) := by rw [List.length_append, HYL.out]; simp; omega
      have HZ : Hid (ys.length + 1 = (ys ++ [n / 2 ^ (8 * (size - 1 - k)) % 256]).length) := Lib.hid (by simp)
      generalize ys ++ [n / 2 ^ (8 * (size - 1 - k)) % 256] = zs at *
      have HB2 := Lib.hid ((HB.out.alloc (by omega) _).trans hb2)
      go_roundw
      case rel => exact ⟨k + 1, zs, a2, cap2, by omega, by go_num, by rw [HZ.out], HL2, HY2, Lib.hid hown2, HB2⟩
      case measure => simp [intOf]; omega
    · have hd1 : decide ((k : Int) < size) = false := decide_eq_false (by omega)
      have HT := Lib.hid (HY.out.trans (by rw [List.take_of_length_le (by simp; omega)]))
      go_wp2_with fail
      have e := HT.out
      subst e
      exact bodyPost_ret (by simp [results, Try.results17, go_sem]) rfl ⟨a', cap', rfl, HR.out, HB.out⟩

/-! The document's numbers. -/
set_option maxHeartbeats 1000000 in
theorem big_at (n : Int) (size : Nat) (w : World) (hs : size ≤ 8) :
    Calls Try.prog 19 #[.int .i64 n, .int .i64 size] w fun e w' => ∃ a' cap', e = .returned (.slice a' (bigI n size).length cap') ∧ OwnB w' w.heap.size a' cap' (bigI n size) ∧ Below w.heap.size w w' := by
  go_enter Try.func19, Try.ntmps19
  go_wp2_with fail
  go_loopw [5, 6] (fun vs vk wx => ∃ (k : Nat) (ys : List Int) (a' : Option Addr) (cap' : Nat), k ≤ size ∧ vk = .int .i64 ((size : Int) - 1 - k) ∧ vs = .slice a' ys.length cap' ∧ Hid (ys = (bigI n size).take k) ∧ Hid (OwnB wx w.heap.size a' cap' ys) ∧ Hid (Below w.heap.size w wx)) (fun _ vk _ => (intOf vk + 1).toNat)
  case atStart => exact ⟨0, [], some ⟨w.heap.size, 0, none⟩, 0, by omega, by simp, rfl, Lib.hid (by simp), Lib.hid (OwnB.lit (B := w.heap.size) [] (Nat.le_refl _) (by simp)), Lib.hid ((Below.refl _ _).alloc (Nat.le_refl _) _)⟩
  case round =>
    obtain ⟨k, ys, a', cap', hk, rfl, rfl, HY, HR, HB⟩ := hrel
    have hyb : ys.length ≤ 8 := by rw [HY.out, List.length_take]; simp; omega
    by_cases hlt : k < size
    · have hd1 : decide ((k : Int) ≤ (size : Int) - 1) = true := decide_eq_true (by omega)
      have HN : Hid ((bigI n size)[k]? = some (n / 2 ^ (8 * (size - 1 - k)) % 256)) := Lib.hid (by
        rw [bigI_get n size k hlt, Int.pow_mul]
        rfl)
      have hbs := HB.out.size
      go_wp2_with (at_builtin; refine wpList_app rfl _ _ rfl w.heap.size a' cap' ys rfl (HR.out.alloc _) wr.heap.size 0 1 [n / 2 ^ (8 * (size - 1 - k)) % 256] rfl (OwnB.lit (B := w.heap.size) [n / 2 ^ (8 * (size - 1 - k)) % 256] hbs (by simp)).rd (by simp; omega) (by simp; omega) ?_; intro a2 cap2 w2 hown2 hb2)
      have HY2 : Hid (ys ++ [n / 2 ^ (8 * (size - 1 - k)) % 256] = (bigI n size).take (k + 1)) := Lib.hid (by rw [HY.out, List.take_add_one, HN.out]; rfl)
      have HZ : Hid (ys.length + 1 = (ys ++ [n / 2 ^ (8 * (size - 1 - k)) % 256]).length) := Lib.hid (by simp)
      generalize ys ++ [n / 2 ^ (8 * (size - 1 - k)) % 256] = zs at *
      have HB2 := Lib.hid ((HB.out.alloc hbs _).trans hb2)
      go_roundw
      case rel => exact ⟨k + 1, zs, a2, cap2, by omega, by first | go_num | (congr 1; omega), by rw [HZ.out], HY2, Lib.hid hown2, HB2⟩
      case measure => simp [intOf]; omega
    · have hd1 : decide ((k : Int) ≤ (size : Int) - 1) = false := decide_eq_false (by omega)
      have HT := Lib.hid (HY.out.trans (List.take_of_length_le (by simp; omega)))
      go_wp2_with fail
      have e := HT.out
      subst e
      exact bodyPost_ret (by simp [results, Try.results19, go_sem]) rfl ⟨a', cap', rfl, HR.out, HB.out⟩
end Go.Proofs.Ytndgpdpabjaedaa
