/- The law's numbers as words. -/
import Derived.Test.YtmdaggcfnkacjaaDoorTlRd
namespace Go.Proofs.YtmdaggcfnkacjaaDoor
open Go Go.RowKit
set_option linter.unusedVariables false
set_option linter.unusedSimpArgs false
set_option maxRecDepth 10000

theorem one_text (w : World) (c : UInt8) : (convert 61 9 (.slice (some ⟨w.heap.size, 0, none⟩) 1 1)).run Tryd.prog (w.alloc (.cells #[.int .u8 (c.toNat : Int)] 5)) = .ok (.string (stB [c])) (w.alloc (.cells #[.int .u8 (c.toNat : Int)] 5)) := by
  have h9 := Own.lit (w := w) (B := w.heap.size) (n := 1) (size := 1) (cs := #[.int .u8 (c.toNat : Int)]) (E := 5) (Nat.le_refl _) (by omega) rfl
  exact own_text (l := [c]) h9 rfl
theorem stB_app (a b : Bt) : stB a ++ stB b = stB (a ++ b) := by
  apply ByteArray.ext
  simp [stB]
theorem dec_step (U r : Nat) (out : Bt) (h : Lib.decDigits U = Lib.decDigits r ++ out) : (r / 10 = 0 → Lib.decDigits U = UInt8.ofNat (48 + r % 10) :: out) ∧ (r / 10 ≠ 0 → Lib.decDigits U = Lib.decDigits (r / 10) ++ (UInt8.ofNat (48 + r % 10) :: out)) := by
  constructor
  · intro h0
    rw [h, Lib.decDigits, dif_pos (by omega), show r % 10 = r by omega]
    rfl
  · intro h0
    rw [h]
    conv => lhs; rw [Lib.decDigits, dif_neg (by omega)]
    rw [List.append_assoc]
    rfl
set_option maxHeartbeats 2000000 in
theorem digits_at (n : Int) (hn : Rng n) (t : ByteArray) (ht : stB (Lib.itoa n) = t) (w : World) :
    Calls Tryd.prog 18 #[.int .i64 n] w fun e w' => e = .returned (.string t) ∧ Below w.heap.size w w' := by
  obtain ⟨hn1, hn2⟩ := hn
  have HT := Lib.hid ht
  clear ht
  by_cases hneg : n < 0
  · have d0 : decide (n < 0) = true := decide_eq_true hneg
    obtain ⟨U, hU⟩ : ∃ U : Nat, -n = (U : Int) := ⟨(-n).toNat, by omega⟩
    have w1 : IntKind.u64.wrap n = 18446744073709551616 - (U : Int) := by rw [IntKind.wrap_u64]; omega
    have w2 : IntKind.u64.wrap (-(18446744073709551616 - (U : Int))) = (U : Int) := by rw [IntKind.wrap_u64]; omega
    have HI : Hid (Lib.itoa n = 45 :: Lib.decDigits U) := Lib.hid (by unfold Lib.itoa; rw [if_pos hneg, show n.natAbs = U by omega])
    have hU64 : U < 18446744073709551616 := by omega
    have hdl := dec_len U (by omega)
    go_enter Tryd.func18, Tryd.ntmps18
    go_wp2_with fail
    go_loopw [3, 5] (fun vr vo wr => ∃ (r : Nat) (out : ByteArray), r ≤ U ∧ vr = .int .u64 (r : Int) ∧ vo = .string out ∧ Hid (Lib.decDigits U = Lib.decDigits r ++ bl out) ∧ Hid (Below w.heap.size w wr)) (fun vr _ _ => intOf vr |>.toNat)
    case atStart => exact ⟨U, ByteArray.empty, by omega, by first | rfl | (congr 1), rfl, Lib.hid (by simp [bl]), Lib.hid (Below.refl _ _)⟩
    case round =>
      obtain ⟨r, out, hr, rfl, rfl, HX, HB⟩ := hrel
      obtain ⟨hs1, hs2⟩ := dec_step U r (bl out) HX.out
      obtain ⟨c, hc⟩ : ∃ c, UInt8.ofNat (48 + r % 10) = c := ⟨_, rfl⟩
      rw [hc] at hs1 hs2
      have hcv : (c.toNat : Int) = 48 + (r : Int) % 10 := by rw [← hc, UInt8.toNat_ofNat']; omega
      obtain ⟨o2, ho2⟩ : ∃ o, stB [c] ++ out = o := ⟨_, rfl⟩
      have hob : bl o2 = c :: bl out := by rw [← ho2, ← stB_bl out, stB_app, bl_stB]; rfl
      have hos : out.size ≤ 20 := by
        have h9 := congrArg List.length HX.out
        rw [List.length_append, bl_len] at h9
        omega
      have A1 : ∀ wx : World, (Op.stringOp .add (stB [c]) out).run Tryd.prog wx = .ok (.string o2) wx := fun wx => by rw [run_string_add_sum wx _ _ (by rw [stB_size]; show 1 + out.size ≤ _; omega), ho2]
      have hcon := one_text wr c
      rw [hcv] at hcon
      have u1 : IntKind.u64.wrap (48 + (r : Int) % 10) = 48 + (r : Int) % 10 := by rw [IntKind.wrap_u64]; omega
      have u2 : IntKind.u8.wrap (48 + (r : Int) % 10) = 48 + (r : Int) % 10 := by rw [IntKind.wrap_u8]; omega
      have u3 : ((r : Int)).tmod 10 = (r : Int) % 10 := Int.tmod_eq_emod_of_nonneg (by omega)
      have u4 : ((r : Int)).tdiv 10 = ((r / 10 : Nat) : Int) := by rw [Int.tdiv_eq_ediv_of_nonneg (by omega)]; omega
      have u5 : (r : Int) / 10 = ((r / 10 : Nat) : Int) := by omega
      have u6 : IntKind.u64.wrap ((r / 10 : Nat) : Int) = ((r / 10 : Nat) : Int) := by rw [IntKind.wrap_u64]; omega
      obtain ⟨q, hq⟩ : ∃ q, r / 10 = q := ⟨_, rfl⟩
      rw [hq] at u4 u5 u6 hs1 hs2
      have HQ := Lib.hid hq
      have HB2 := Lib.hid (HB.out.alloc HB.out.size (.cells #[.int .u8 (48 + (r : Int) % 10)] 5))
      have HOB := Lib.hid hob
      have HS1 := Lib.hid hs1
      have HS2 := Lib.hid hs2
      clear hs1 hs2 hc hq hob ho2 hcv
      by_cases hz : q = 0
      · have dz : ((q : Int) == 0) = true := by rw [beq_iff_eq]; omega
        have A2 : ∀ wx : World, (Op.stringOp .add ⟨#[45]⟩ o2).run Tryd.prog wx = .ok (.string t) wx := fun wx => by
          rw [run_string_add_sum wx _ _ (by have h9 := congrArg List.length HOB.out; rw [bl_len, List.length_cons, bl_len] at h9; have h8 : (⟨#[45]⟩ : ByteArray).size ≤ 1 := by decide
                                            omega), ← HT.out, HI.out, HS1.out hz, ← HOB.out, ← stB_bl o2]
          rw [bl_stB]; congr 2; try exact stB_app [45] (bl o2)
        go_wp2
        go_ret
        exact ⟨rfl, HB2.out⟩
      · have dz : ((q : Int) == 0) = false := by rw [beq_eq_false_iff_ne]; omega
        go_wp2
        go_roundw
        case rel => exact ⟨q, o2, by have := HQ.out; omega, rfl, rfl, Lib.hid (by rw [HOB.out]; exact HS2.out hz), HB2⟩
        case measure => simp [intOf]; have := HQ.out; omega
  · have d0 : decide (n < 0) = false := decide_eq_false hneg
    obtain ⟨U, hU⟩ : ∃ U : Nat, n = (U : Int) := ⟨n.toNat, by omega⟩
    have w1 : IntKind.u64.wrap n = (U : Int) := by rw [IntKind.wrap_u64]; omega
    have HI : Hid (Lib.itoa n = Lib.decDigits U) := Lib.hid (by unfold Lib.itoa; rw [if_neg hneg, show n.toNat = U by omega])
    have hU64 : U < 18446744073709551616 := by omega
    have hdl := dec_len U (by omega)
    go_enter Tryd.func18, Tryd.ntmps18
    go_wp2_with fail
    go_loopw [3, 5] (fun vr vo wr => ∃ (r : Nat) (out : ByteArray), r ≤ U ∧ vr = .int .u64 (r : Int) ∧ vo = .string out ∧ Hid (Lib.decDigits U = Lib.decDigits r ++ bl out) ∧ Hid (Below w.heap.size w wr)) (fun vr _ _ => intOf vr |>.toNat)
    case atStart => exact ⟨U, ByteArray.empty, by omega, by first | rfl | (congr 1), rfl, Lib.hid (by simp [bl]), Lib.hid (Below.refl _ _)⟩
    case round =>
      obtain ⟨r, out, hr, rfl, rfl, HX, HB⟩ := hrel
      obtain ⟨hs1, hs2⟩ := dec_step U r (bl out) HX.out
      obtain ⟨c, hc⟩ : ∃ c, UInt8.ofNat (48 + r % 10) = c := ⟨_, rfl⟩
      rw [hc] at hs1 hs2
      have hcv : (c.toNat : Int) = 48 + (r : Int) % 10 := by rw [← hc, UInt8.toNat_ofNat']; omega
      obtain ⟨o2, ho2⟩ : ∃ o, stB [c] ++ out = o := ⟨_, rfl⟩
      have hob : bl o2 = c :: bl out := by rw [← ho2, ← stB_bl out, stB_app, bl_stB]; rfl
      have hos : out.size ≤ 20 := by
        have h9 := congrArg List.length HX.out
        rw [List.length_append, bl_len] at h9
        omega
      have A1 : ∀ wx : World, (Op.stringOp .add (stB [c]) out).run Tryd.prog wx = .ok (.string o2) wx := fun wx => by rw [run_string_add_sum wx _ _ (by rw [stB_size]; show 1 + out.size ≤ _; omega), ho2]
      have hcon := one_text wr c
      rw [hcv] at hcon
      have u1 : IntKind.u64.wrap (48 + (r : Int) % 10) = 48 + (r : Int) % 10 := by rw [IntKind.wrap_u64]; omega
      have u2 : IntKind.u8.wrap (48 + (r : Int) % 10) = 48 + (r : Int) % 10 := by rw [IntKind.wrap_u8]; omega
      have u3 : ((r : Int)).tmod 10 = (r : Int) % 10 := Int.tmod_eq_emod_of_nonneg (by omega)
      have u4 : ((r : Int)).tdiv 10 = ((r / 10 : Nat) : Int) := by rw [Int.tdiv_eq_ediv_of_nonneg (by omega)]; omega
      have u5 : (r : Int) / 10 = ((r / 10 : Nat) : Int) := by omega
      have u6 : IntKind.u64.wrap ((r / 10 : Nat) : Int) = ((r / 10 : Nat) : Int) := by rw [IntKind.wrap_u64]; omega
      obtain ⟨q, hq⟩ : ∃ q, r / 10 = q := ⟨_, rfl⟩
      rw [hq] at u4 u5 u6 hs1 hs2
      have HQ := Lib.hid hq
      have HB2 := Lib.hid (HB.out.alloc HB.out.size (.cells #[.int .u8 (48 + (r : Int) % 10)] 5))
      have HOB := Lib.hid hob
      have HS1 := Lib.hid hs1
      have HS2 := Lib.hid hs2
      clear hs1 hs2 hc hq hob ho2 hcv
      by_cases hz : q = 0
      · have dz : ((q : Int) == 0) = true := by rw [beq_iff_eq]; omega
        have A2 : ∀ wx : World, (Op.stringOp .add ⟨#[]⟩ o2).run Tryd.prog wx = .ok (.string t) wx := fun wx => by
          rw [run_string_add_sum wx _ _ (by have h9 := congrArg List.length HOB.out; rw [bl_len, List.length_cons, bl_len] at h9; have h8 : (⟨#[]⟩ : ByteArray).size ≤ 1 := by decide
                                            omega), ← HT.out, HI.out, HS1.out hz, ← HOB.out, ← stB_bl o2]
          rw [bl_stB]; congr 2; try exact stB_app [] (bl o2)
        go_wp2
        go_ret
        exact ⟨rfl, HB2.out⟩
      · have dz : ((q : Int) == 0) = false := by rw [beq_eq_false_iff_ne]; omega
        go_wp2
        go_roundw
        case rel => exact ⟨q, o2, by have := HQ.out; omega, rfl, rfl, Lib.hid (by rw [HOB.out]; exact HS2.out hz), HB2⟩
        case measure => simp [intOf]; have := HQ.out; omega
end Go.Proofs.YtmdaggcfnkacjaaDoor
