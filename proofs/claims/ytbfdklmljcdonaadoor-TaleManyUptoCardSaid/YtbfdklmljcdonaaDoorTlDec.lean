/- Package tale: words as texts. -/
import Derived.Test.YtbfdklmljcdonaaDoorTlFn
import Derived.Shelf.Small.Wraps
import Derived.Shelf.Small.Strs
namespace Go.Proofs.YtbfdklmljcdonaaDoor
open Go Go.RowKit
set_option linter.unusedVariables false
set_option linter.unusedSimpArgs false
set_option maxRecDepth 10000

theorem cutx_at (s : ByteArray) (w : World) :
    Calls Tryd.prog 53 #[.string s, .string ⟨#[120]⟩] w fun e w' => ∃ R b, e = .returned (.tuple #[.string R, .bool b]) ∧ (b = true → bl s = 120 :: bl R) ∧ (b = false → unW (bl s) = none) ∧ w = w' := by
  refine (Any.strings_CutPrefix Tryd.lays103 s ⟨#[120]⟩ w).mono ?_
  rintro e w' ⟨rfl, rfl⟩
  have e0 : (({ data := #[120] } : ByteArray)).data.toList = [120] := rfl
  refine ⟨_, _, rfl, fun h => ?_, fun h => ?_, rfl⟩
  · rw [e0] at h ⊢
    unfold Lib.hasPrefix at h
    obtain ⟨r, hr⟩ := List.isPrefixOf_iff_prefix.1 h
    show s.data.toList = 120 :: (Lib.trimPrefix s.data.toList [120])
    unfold Lib.trimPrefix Lib.hasPrefix
    rw [if_pos h, ← hr]
    rfl
  · rw [e0] at h
    unfold unW
    split
    · rename_i r hr
      unfold bl at hr
      rw [hr] at h
      unfold Lib.hasPrefix at h
      simp at h
    · rfl
theorem idx_at (c : UInt8) (v : Int) (hv : unD c = v) (w : World) :
    Calls Tryd.prog 54 #[.string ⟨#[48, 49, 50, 51, 52, 53, 54, 55, 56, 57, 97, 98, 99, 100, 101, 102]⟩, .int .u8 (c.toNat : Int)] w fun e w' => e = .returned (.int .i64 v) ∧ w = w' := by
  refine (Any.strings_IndexByte Tryd.lays137 ⟨#[48, 49, 50, 51, 52, 53, 54, 55, 56, 57, 97, 98, 99, 100, 101, 102]⟩ (c.toNat : Int) w).mono ?_
  rintro e w' ⟨rfl, rfl⟩
  rw [← hv]
  refine ⟨?_, rfl⟩
  have h : ((c.toNat : Int)).toNat.toUInt8 = c := by
    rw [Int.toNat_natCast]
    show UInt8.ofNat c.toNat = c
    exact UInt8.ofNat_toNat
  rw [h]
  rfl
theorem un_step {X : Bt} {k : Nat} (h : 2 * k + 1 < X.length) : ∃ a b, X[2 * k]? = some a ∧ X[2 * k + 1]? = some b ∧ X.drop (2 * k) = a :: b :: X.drop (2 * (k + 1)) := by
  refine ⟨X[2 * k], X[2 * k + 1], List.getElem?_eq_getElem _, List.getElem?_eq_getElem _, ?_⟩
  rw [List.drop_eq_getElem_cons (by omega), List.drop_eq_getElem_cons (by omega)]
  rfl
theorem un_odd : ∀ (n : Nat) (X : Bt), X.length ≤ n → X.length % 2 ≠ 0 → unL X = none := by
  intro n
  induction n with
  | zero => intro X h1 h2; omega
  | succ n ih =>
    intro X h1 h2
    match X with
    | [] => simp at h2
    | [a] => rfl
    | a :: b :: r =>
      unfold unL
      rw [ih r (by simp at h1; omega) (by simp at h2; omega)]
      split <;> rfl
theorem or_fin : ∀ a b : Fin 16, bits .or .i64 (wrap64 ((a.val : Int) * 16)) (b.val : Int) % 256 = (a.val : Int) * 16 + b.val := by decide +kernel
theorem or_at {x y : Int} (hx : 0 ≤ x ∧ x < 16) (hy : 0 ≤ y ∧ y < 16) : bits .or .i64 (wrap64 (x * 16)) y % 256 = x * 16 + y := by
  have := or_fin ⟨x.toNat, by omega⟩ ⟨y.toNat, by omega⟩
  simp only [Int.toNat_of_nonneg hx.1, Int.toNat_of_nonneg hy.1] at this
  exact this
def DecP (s : ByteArray) (w : World) (e : Ending) (w' : World) : Prop :=
  ∃ t b, e = .returned (.tuple #[.string t, .bool b]) ∧ Below w.heap.size w w' ∧ unW (bl s) = (if b then some (bl t) else none)
set_option maxHeartbeats 2000000 in
theorem decode_at (s : ByteArray) (hs : s.size ≤ 3000000) (w : World) :
    Calls Tryd.prog 39 #[.string s] w (DecP s w) := by
  go_enter Tryd.func39, Tryd.ntmps39
  go_wp2_with fail
  refine (cutx_at s w).mono ?_
  rintro e w1 ⟨R, b, rfl, hy, hn, rfl⟩
  cases b with
  | false =>
    have HN := Lib.hid (hn rfl)
    clear hn hy
    go_wp2
    go_ret2
    exact ⟨_, false, rfl, Below.refl _ _, HN.out⟩
  | true =>
    have HY := Lib.hid (hy rfl)
    have hsz : R.size ≤ 3000000 := by have := congrArg List.length HY.out; rw [bl_len, List.length_cons, bl_len] at this; omega
    have HU : Hid (unW (bl s) = unL (bl R)) := Lib.hid (by rw [HY.out]; rfl)
    clear hn hy HY
    by_cases hod : R.size % 2 = 0
    · have d0 : (((R.size : Int) % 2) != 0) = false := by simp; omega
      have d1 : ((R.size : Int).tmod 2 != 0) = false := by rw [Int.tmod_eq_emod_of_nonneg (by omega)]; exact d0
      go_wp2_with fail
      go_loopw [5, 6] (fun vb vi wr => ∃ (k n c : Nat) (a : Option Addr) (l : Bt), 2 * k ≤ R.size ∧ n = k ∧ vi = .int .i64 ((2 * k : Nat) : Int) ∧ vb = .slice a n c ∧ Hid (Own wr w.heap.size 5 1 a n c (u8V l)) ∧ Hid (Below w.heap.size w wr) ∧ Hid (l.length = k) ∧ Hid (unL (bl R) = (unL ((bl R).drop (2 * k))).map (l ++ ·))) (fun _ vi _ => R.size - (intOf vi).toNat)
      case atStart => exact ⟨0, 0, 0, none, [], by omega, by omega, by go_num, rfl, Lib.hid (Own.nil _ _ _ _), Lib.hid (Below.refl _ _), Lib.hid rfl, Lib.hid (by simp)⟩
      case round =>
        obtain ⟨k, n, c, a, l, hk, hnk, rfl, rfl, HO, HB, HL, HM⟩ := hrel
        have HNK := Lib.hid hnk
        have hn5 : n ≤ 1500000 := by omega
        clear hnk
        obtain ⟨m, hm⟩ : ∃ m, 2 * k = m := ⟨_, rfl⟩
        rw [hm] at HM hk ⊢
        by_cases hlt : m < R.size
        · have hkd : decide ((m : Int) < (R.size : Int)) = true := decide_eq_true (by omega)
          have hlt1 : m + 1 < R.size := by omega
          obtain ⟨ca, cb, h1, h2, h3⟩ := un_step (X := bl R) (k := k) (by rw [bl_len]; omega)
          rw [hm] at h1 h2 h3
          obtain ⟨A, hA⟩ : ∃ A, unD ca = A := ⟨_, rfl⟩
          obtain ⟨Bv, hBv⟩ : ∃ B, unD cb = B := ⟨_, rfl⟩
          have H3 := Lib.hid h3
          have HA := Lib.hid hA
          have HBv := Lib.hid hBv
          have x1 : R[m] = ca := by rw [bl_at R m hlt] at h1; injection h1
          have x2 : R[m + 1] = cb := by rw [bl_at R (m + 1) hlt1] at h2; injection h2
          have wr1 : IntKind.i64.wrap ((m : Int) + 1) = (m : Int) + 1 := IntWalk.i64_in _ (by omega)
          clear h1 h2 h3 hA hBv
          go_wp2_with fail
          refine (idx_at ca A HA.out wr).mono ?_
          rintro e w2 ⟨rfl, rfl⟩
          go_wp2_with fail
          refine (idx_at cb Bv HBv.out wr).mono ?_
          rintro e w2 ⟨rfl, rfl⟩
          by_cases hAn : A < 0
          · have dA : decide (A < 0) = true := decide_eq_true hAn
            have HN : Hid (unW (bl s) = none) := Lib.hid (by rw [HU.out, HM.out, H3.out, unL, if_pos (Or.inl (by rw [HA.out]; exact hAn))]; rfl)
            go_wp2
            go_ret2
            exact ⟨_, false, rfl, HB.out, HN.out⟩
          · have dA : decide (A < 0) = false := decide_eq_false hAn
            by_cases hBn : Bv < 0
            · have dB : decide (Bv < 0) = true := decide_eq_true hBn
              have HN : Hid (unW (bl s) = none) := Lib.hid (by rw [HU.out, HM.out, H3.out, unL, if_pos (Or.inr (by rw [HBv.out]; exact hBn))]; rfl)
              go_wp2
              go_ret2
              exact ⟨_, false, rfl, HB.out, HN.out⟩
            · have dB : decide (Bv < 0) = false := decide_eq_false hBn
              have hA16 : A < 16 := by have := (unD_hex ca (by rw [HA.out]; exact hAn)).2; rw [HA.out] at this; exact this
              have hB16 : Bv < 16 := by have := (unD_hex cb (by rw [HBv.out]; exact hBn)).2; rw [HBv.out] at this; exact this
              have ho := or_at (x := A) (y := Bv) ⟨by omega, hA16⟩ ⟨by omega, hB16⟩
              obtain ⟨cc, hcc⟩ : ∃ c : UInt8, UInt8.ofNat (A.toNat * 16 + Bv.toNat) = c := ⟨_, rfl⟩
              have hci : A * 16 + Bv = (cc.toNat : Int) := by rw [← hcc, UInt8.toNat_ofNat']; omega
              rw [hci] at ho
              have HM2 : Hid (unL (bl R) = (unL ((bl R).drop (2 * (k + 1)))).map ((l ++ [cc]) ++ ·)) := Lib.hid (by
                rw [HM.out, H3.out, unL, if_neg (by rw [HA.out, HBv.out]; omega), HA.out, HBv.out, hcc, Option.map_map]
                congr 1
                funext x
                simp)
              have HZ : Hid (u8V l ++ #[.int .u8 (cc.toNat : Int)].toList = u8V (l ++ [cc])) := Lib.hid (by unfold u8V; rw [List.map_append]; rfl)
              have HL2 : Hid ((l ++ [cc]).length = k + 1) := Lib.hid (by rw [List.length_append, HL.out]; rfl)
              have HNK2 : n + 1 = k + 1 := by rw [HNK.out]
              have hm2 : m + 2 = 2 * (k + 1) := by omega
              have HNK3 := Lib.hid HNK2
              clear hci hcc HM HL hAn hBn HA HBv H3 hA16 hB16 HNK2
              go_wp2_with (at_builtin; refine wpList_app1 rowU8 rfl _ _ rfl w.heap.size a n c (u8V l) rfl HO.out #[.int .u8 (cc.toNat : Int)] rfl rfl (by simp [Value.oneCell']) (by omega) (by decide) HB.out.size (n + 1) rfl (u8V (l ++ [cc])) HZ.out ?_; rintro g5 c5 w5 p1 p2 p3 p4; have NX := Lib.hid (And.intro p1 (HB.out.trans p3)); clear p1 p2 p3 p4 HO HB)
              go_roundw
              case rel => exact ⟨k + 1, n + 1, c5, _, l ++ [cc], by omega, HNK3.out, by rw [← hm2]; go_num, rfl, Lib.hid NX.out.1, Lib.hid NX.out.2, HL2, HM2⟩
              case measure => simp [intOf]; omega
        · have hkd : decide ((m : Int) < (R.size : Int)) = false := decide_eq_false (by omega)
          have e1 : (bl R).drop m = [] := List.drop_eq_nil_of_le (by rw [bl_len]; omega)
          have HN : Hid (unW (bl s) = some (bl (stB l))) := Lib.hid (by rw [HU.out, HM.out, e1, bl_stB]; simp [unL])
          have hcv := own_text HO.out (by rw [HL.out, HNK.out])
          clear HM HL
          go_wp2
          go_ret2
          exact ⟨stB l, true, rfl, HB.out, HN.out⟩
    · have d0 : (((R.size : Int) % 2) != 0) = true := by simp; omega
      have d1 : ((R.size : Int).tmod 2 != 0) = true := by rw [Int.tmod_eq_emod_of_nonneg (by omega)]; exact d0
      have HN : Hid (unW (bl s) = none) := Lib.hid (by rw [HU.out]; exact un_odd _ _ (Nat.le_refl _) (by rw [bl_len]; exact hod))
      go_wp2
      go_ret2
      exact ⟨_, false, rfl, Below.refl _ _, HN.out⟩
end Go.Proofs.YtbfdklmljcdonaaDoor
