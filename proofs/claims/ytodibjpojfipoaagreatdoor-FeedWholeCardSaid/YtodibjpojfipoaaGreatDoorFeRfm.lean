/- The document's From. -/
import Derived.Test.YtodibjpojfipoaaGreatDoorFeHdr
import Derived.BigQuiet
import Derived.Deep.QuietTactic
import Derived.Deep.RegionWith
import Derived.Deep.Cut
import Derived.Deep.CutRange
import Derived.Deep.CutBlock
import Derived.Deep.DeepCutAuto
import Derived.Test.YtodibjpojfipoaaGreatDoorTickMul
import Derived.Test.YtodibjpojfipoaaGreatDoorRow
/- The document's small letters, blanks taken off, fields, numbers. -/
namespace Go.Proofs.YtodibjpojfipoaaGreatDoor
open Go Go.RowKit
set_option linter.unusedVariables false
set_option linter.unusedSimpArgs false
set_option maxRecDepth 10000

set_option maxHeartbeats 2000000 in
theorem rlower_at (s t : ByteArray) (ht : lowB s = t) (hs : s.size ≤ 1000000000000000) (w : World) :
    Calls Tryz.prog 32 #[.string s] w fun e w' => e = .returned (.string t) ∧ Below w.heap.size w w' := by
  have HT := Lib.hid ht
  obtain ⟨l, hl⟩ : ∃ l, btL s = l := ⟨_, rfl⟩
  have hll : l.length = s.size := by rw [← hl, btL_length]
  have HB : Hid (Byts l) := Lib.hid (by rw [← hl]; exact btL_byts s)
  have HL := Lib.hid hl
  have HLL := Lib.hid hll
  have hcv := run_bytes_of_string (P := Tryz.prog) w 9 78 5 s Tryz.underlying9 Tryz.underlying78 Tryz.underlying5
  obtain ⟨cap, hcap⟩ : ∃ c, grownCap w s.size 0 5 = c := ⟨_, rfl⟩
  rw [hcap] at hcv
  clear ht hll hcap
  go_enter Tryz.func32, Tryz.ntmps32
  go_upto_region 2 with fail
  refine code_forget (fun w1 => Hid (ByAt w1 w.heap.size l) ∧ Hid (Below w.heap.size w w1)) ⟨Lib.hid (by rw [← hl]; exact ByAt.new w.drew s cap _), Lib.hid ((Below.refl _ _).drew.alloc (Nat.le_refl _) _)⟩ ?_
  rintro w1 ⟨b1, l1⟩
  clear hcv hl
  go_wp2_with fail
  go_loopw [4] (fun i wr => ∃ k : Nat, k ≤ s.size ∧ i = .int .i64 k ∧ Hid (ByAt wr w.heap.size (mixL l k)) ∧ Hid (Below w.heap.size w wr)) (fun i _ => s.size - (intOf i).toNat)
  case atStart => exact ⟨0, Nat.zero_le _, rfl, b1, l1⟩
  case round =>
    clear b1 l1
    obtain ⟨k, hk, rfl, HW, BR⟩ := hrel
    by_cases hlt : k < s.size
    · have hkd : decide ((k : Int) < (s.size : Int)) = true := decide_eq_true (by omega)
      obtain ⟨c, hc⟩ : ∃ c, l[k]? = some c := ⟨l[k]'(by have := HLL.out; omega), List.getElem?_eq_getElem _⟩
      have c0 := HW.out.cell k c (mixL_get hc)
      have fr := HW.out.free k (by rw [mixL_len, HLL.out]; exact hlt)
      have lt := HW.out.lt
      have hb := HB.out c (List.mem_of_getElem? hc)
      by_cases h1 : 65 ≤ c
      · have d1 : decide ((65 : Int) ≤ c) = true := decide_eq_true h1
        by_cases h2 : c ≤ 90
        · have d2 : decide (c ≤ (90 : Int)) = true := decide_eq_true h2
          skip
          have e2 : IntKind.u8.wrap (c + 32) = c + 32 := by rw [IntKind.wrap_u8]; omega
          have W2 : Hid (ByAt (wr.setCell ⟨w.heap.size, k, none⟩ (.int .u8 (c + 32))) w.heap.size (mixL l (k + 1))) := Lib.hid (by
            have := HW.out.set k (c + 32)
            rw [show c + 32 = lwI c from by unfold lwI; rw [if_pos ⟨h1, h2⟩]] at this ⊢
            rwa [mixL_next hc] at this)
          have B2 := Lib.hid (BR.out.setCell (p := ⟨w.heap.size, k, none⟩) (show w.heap.size ≤ w.heap.size from Nat.le_refl _) (.int .u8 (c + 32)))
          clear hc
          go_wp2
          go_roundw
          case rel => exact ⟨k + 1, by omega, by go_num, W2, B2⟩
          case measure => simp [intOf]; omega
        · have d2 : decide (c ≤ (90 : Int)) = false := decide_eq_false h2
          have W2 : Hid (ByAt wr w.heap.size (mixL l (k + 1))) := Lib.hid (by rw [← mixL_same hc (by unfold lwI; rw [if_neg (by omega)])]; exact HW.out)
          clear hc
          go_wp2
          go_roundw
          case rel => exact ⟨k + 1, by omega, by go_num, W2, BR⟩
          case measure => simp [intOf]; omega
      · have d1 : decide ((65 : Int) ≤ c) = false := decide_eq_false h1
        have W2 : Hid (ByAt wr w.heap.size (mixL l (k + 1))) := Lib.hid (by rw [← mixL_same hc (by unfold lwI; rw [if_neg (by omega)])]; exact HW.out)
        clear hc
        go_wp2
        go_roundw
        case rel => exact ⟨k + 1, by omega, by go_num, W2, BR⟩
        case measure => simp [intOf]; omega
    · have hkd : decide ((k : Int) < (s.size : Int)) = false := decide_eq_false (by omega)
      have hrd := HW.out.rd
      rw [mixL_all l k (by have := HLL.out; omega)] at hrd
      have hcv := hrd.text (P := Tryz.prog) 78 5 9 Tryz.underlying78 Tryz.underlying5 Tryz.underlying9 (fun _ => Or.inr ⟨_, _, rfl⟩) cap
      rw [List.length_map, HLL.out, show strL (l.map lwI) = t from by rw [← HT.out, ← HL.out]; rfl] at hcv
      clear hrd
      go_wp2
      go_ret
      exact ⟨rfl, BR.out⟩

def strN : Value → Nat
  | .string x => x.size
  | _ => 0
theorem ln_first (x : ByteArray) (h : 0 < x.size) : btL x = (x[0].toNat : Int) :: btL (x.extract 1 x.size) := by
  have h1 := ln_cons x 0 h
  rw [List.drop_zero] at h1
  rw [ln_extract, List.take_of_length_le (by rw [List.length_drop, btL_length]; omega)]
  exact h1
theorem ln_last (x : ByteArray) (k : Nat) (h : x.size = k + 1) : btL x = btL (x.extract 0 k) ++ [((x[k]'(by omega)).toNat : Int)] := by
  have h1 := ln_take x k (by omega)
  rw [List.take_of_length_le (by rw [btL_length]; omega)] at h1
  rw [ln_extract, List.drop_zero, Nat.sub_zero]
  exact h1
theorem trL_cons {c : Int} {t : List Int} (h : blI c = true) : trL (c :: t) = trL t := by
  rw [trL_comm, trL_comm, List.dropWhile_cons, if_pos h]
set_option maxHeartbeats 2000000 in
theorem rtrim_at (s : ByteArray) (R : List Int) (hR : trL (btL s) = R) (hs : s.size ≤ 1000000000000000) (w : World) :
    Calls Tryz.prog 24 #[.string s] w fun e w' => e = .returned (.string (strL R)) ∧ w' = w := by
  have HR := Lib.hid hR
  clear hR
  go_enter Tryz.func24, Tryz.ntmps24
  go_upto_block 0 with fail
  go_cut [0] (fun v wx => ∃ x, v = .string x ∧ x.size ≤ 1000000000000000 ∧ Hid (rdw (btL x) = R) ∧ wx = w)
  case first =>
    go_wp2
    go_loop [0] (fun v => ∃ x, v = .string x ∧ x.size ≤ 1000000000000000 ∧ Hid (trL (btL x) = R)) (fun v => strN v)
    case atStart => exact ⟨s, rfl, hs, HR⟩
    case round =>
      obtain ⟨x, rfl, hx, HX⟩ := hrel
      by_cases h0 : 0 < x.size
      · have d0 : decide ((0 : Int) < (x.size : Int)) = true := decide_eq_true (by omega)
        have d0' : decide (0 < x.size) = true := decide_eq_true h0
        obtain ⟨c, hc⟩ : ∃ c : Int, (x[0].toNat : Int) = c := ⟨_, rfl⟩
        have HF : Hid (btL x = c :: btL (x.extract 1 x.size)) := Lib.hid (by rw [← hc]; exact ln_first x h0)
        have hz : (x.extract 1 x.size).size = x.size - 1 := by simp
        by_cases h1 : c = 32
        · have e1 : (c == 32) = true := beq_iff_eq.2 h1
          have HY : Hid (trL (btL (x.extract 1 x.size)) = R) := Lib.hid (by rw [← HX.out, HF.out, trL_cons (by rw [h1]; rfl)])
          go_wp2
          go_round
          case rel => exact ⟨_, rfl, by omega, HY⟩
          case measure => show (x.extract 1 x.size).size < x.size; omega
        · have e1 : (c == 32) = false := beq_eq_false_iff_ne.2 h1
          by_cases h2 : c = 9
          · have e2 : (c == 9) = true := beq_iff_eq.2 h2
            have HY : Hid (trL (btL (x.extract 1 x.size)) = R) := Lib.hid (by rw [← HX.out, HF.out, trL_cons (by rw [h2]; rfl)])
            go_wp2
            go_round
            case rel => exact ⟨_, rfl, by omega, HY⟩
            case measure => show (x.extract 1 x.size).size < x.size; omega
          · have e2 : (c == 9) = false := beq_eq_false_iff_ne.2 h2
            have HY : Hid (rdw (btL x) = R) := Lib.hid (by
              rw [← HX.out, trL_comm, HF.out, List.dropWhile_cons, if_neg]
              unfold blI
              simp [h1, h2])
            go_wp2
            go_meet
            exact ⟨x, rfl, hx, HY, rfl⟩
      · have d0 : decide ((0 : Int) < (x.size : Int)) = false := decide_eq_false (by omega)
        have d0' : decide (0 < x.size) = false := decide_eq_false h0
        have HY : Hid (rdw (btL x) = R) := Lib.hid (by
          have hl := btL_length x
          have : btL x = [] := List.eq_nil_of_length_eq_zero (by omega)
          rw [← HX.out, this]
          rfl)
        go_wp2
        go_meet
        exact ⟨x, rfl, hx, HY, rfl⟩
  case rest =>
    obtain ⟨x0, rfl, hx0, HX0, rfl⟩ := hcut
    go_wp2
    go_loop [0] (fun v => ∃ x, v = .string x ∧ x.size ≤ 1000000000000000 ∧ Hid (rdw (btL x) = R)) (fun v => strN v)
    case atStart => exact ⟨x0, rfl, hx0, HX0⟩
    case round =>
      clear HX0
      obtain ⟨x, rfl, hx, HX⟩ := hrel
      by_cases h0 : 0 < x.size
      · have d0 : decide ((0 : Int) < (x.size : Int)) = true := decide_eq_true (by omega)
        have d0' : decide (0 < x.size) = true := decide_eq_true h0
        obtain ⟨k, hk⟩ : ∃ k, x.size = k + 1 := ⟨x.size - 1, by omega⟩
        obtain ⟨c, hc⟩ : ∃ c : Int, ((x[k]'(by omega)).toNat : Int) = c := ⟨_, rfl⟩
        have HF : Hid (btL x = btL (x.extract 0 k) ++ [c]) := Lib.hid (by rw [← hc]; exact ln_last x k hk)
        have hz : (x.extract 0 k).size = k := by simp; omega
        by_cases h1 : c = 32
        · have e1 : (c == 32) = true := beq_iff_eq.2 h1
          have HY : Hid (rdw (btL (x.extract 0 k)) = R) := Lib.hid (by rw [← HX.out, HF.out, rdw_snoc, if_pos (by rw [h1]; rfl)])
          go_wp2
          go_round
          case rel => exact ⟨_, rfl, by omega, HY⟩
          case measure => show (x.extract 0 k).size < x.size; omega
        · have e1 : (c == 32) = false := beq_eq_false_iff_ne.2 h1
          by_cases h2 : c = 9
          · have e2 : (c == 9) = true := beq_iff_eq.2 h2
            have HY : Hid (rdw (btL (x.extract 0 k)) = R) := Lib.hid (by rw [← HX.out, HF.out, rdw_snoc, if_pos (by rw [h2]; rfl)])
            go_wp2
            go_round
            case rel => exact ⟨_, rfl, by omega, HY⟩
            case measure => show (x.extract 0 k).size < x.size; omega
          · have e2 : (c == 9) = false := beq_eq_false_iff_ne.2 h2
            have HY : Hid (x = strL R) := Lib.hid (by
              rw [← HX.out, HF.out, rdw_snoc, if_neg, ← HF.out, strL_btL]
              unfold blI
              simp [h1, h2])
            go_wp2
            go_ret
            exact ⟨by rw [← HY.out]; rfl, rfl⟩
      · have d0 : decide ((0 : Int) < (x.size : Int)) = false := decide_eq_false (by omega)
        have d0' : decide (0 < x.size) = false := decide_eq_false h0
        have HY : Hid (x = strL R) := Lib.hid (by
          have hl := btL_length x
          have : btL x = [] := List.eq_nil_of_length_eq_zero (by omega)
          rw [← HX.out, this, show rdw [] = [] from rfl, ← this, strL_btL])
        go_wp2
        go_ret
        exact ⟨by rw [← HY.out]; rfl, rfl⟩
theorem bkL_app {α : Type} (l : List α) (x : α) : ∀ n, n ≤ l.length → bkL (l ++ [x]) n = bkL l n
  | 0, _ => rfl
  | n + 1, h => by
    obtain ⟨y, hy⟩ : ∃ y, l[n]? = some y := ⟨_, List.getElem?_eq_getElem (by omega)⟩
    have hy2 : (l ++ [x])[n]? = some y := by rw [List.getElem?_append_left (by omega)]; exact hy
    rw [bkL_succ hy, bkL_succ hy2, bkL_app l x n (by omega)]
theorem valH_snoc (k : ByteArray) (l : HL) (x : ByteArray × ByteArray) : valH k (l ++ [x]) = if lowB x.1 = k then strL (trL (btL x.2)) else valH k l := by
  unfold valH
  rw [List.length_append, List.length_singleton, bkL_succ (x := x) (by simp), bkL_app l x _ (Nat.le_refl _)]
  rfl
def hasH (k : ByteArray) (hs : HL) : Bool := hs.any fun x => decide (lowB x.1 = k)
theorem hasH_snoc (k : ByteArray) (l : HL) (x : ByteArray × ByteArray) : hasH k (l ++ [x]) = if lowB x.1 = k then true else hasH k l := by
  unfold hasH
  rw [List.any_append]
  by_cases h : lowB x.1 = k <;> simp [h]
theorem lowB_eqs {a b : ByteArray} : (a.toList == b.toList) = decide (a = b) := by
  by_cases h : a = b
  · subst h
    simp
  · rw [decide_eq_false h]
    exact neq_toListV h
set_option maxHeartbeats 4000000 in
theorem rfield_at (sa : Option Addr) (g off c : Nat) (hs : HL) (hl : hs.length ≤ 1000000) (hz : ∀ x ∈ hs, x.1.size ≤ 1000000 ∧ x.2.size ≤ 1000000) (k kk : ByteArray) (hk : lowB k = kk) (hkz : k.size ≤ 1000) (w : World) (hA : hs ≠ [] → HdAt w g off hs) (hSa : hs ≠ [] → sa = some ⟨g, off, none⟩) :
    Calls Tryz.prog 16 #[.slice sa hs.length c, .string k] w fun e w' => e = .returned (.tuple #[.string (valH kk hs), .bool (hasH kk hs)]) ∧ Below w.heap.size w w' := by
  obtain ⟨V, hV⟩ : ∃ V, valH kk hs = V := ⟨_, rfl⟩
  obtain ⟨B, hB⟩ : ∃ B, hasH kk hs = B := ⟨_, rfl⟩
  have HV := Lib.hid hV
  have HB := Lib.hid hB
  have LK := Lib.hid (fun W : World => rlower_at k kk hk (by omega) W)
  obtain ⟨m, hm⟩ : ∃ m, hs.length = m := ⟨_, rfl⟩
  have HM := Lib.hid hm
  have HZ := Lib.hid hz
  have HA := Lib.hid hA
  have HSA := Lib.hid hSa
  rw [hV, hB, hm]
  rw [hm] at hl
  clear hV hB hm hz hA hSa hk hkz
  go_enter Tryz.func16, Tryz.ntmps16
  go_wp2_with fail
  go_loopw [6, 7, 8] (fun o b j wr => ∃ (i : Nat) (x : ByteArray) (q : Bool), i ≤ m ∧ o = .string x ∧ b = .bool q ∧ j = .int .i64 (i : Int) ∧ Hid (valH kk (hs.take i) = x) ∧ Hid (hasH kk (hs.take i) = q) ∧ Hid (Below w.heap.size w wr)) (fun _ _ j _ => m - (intOf j).toNat)
  case atStart => exact ⟨0, ⟨#[]⟩, false, by omega, rfl, rfl, rfl, Lib.hid rfl, Lib.hid rfl, Lib.hid (Below.refl _ _)⟩
  case round =>
    obtain ⟨i, x, q, hi, rfl, rfl, rfl, HX, HQ, HW⟩ := hrel
    by_cases hlt : i < m
    · have kd : decide ((i : Int) < (m : Int)) = true := decide_eq_true (by omega)
      obtain ⟨z, hzz⟩ : ∃ z, hs[i]? = some z := ⟨_, List.getElem?_eq_getElem (by rw [HM.out]; exact hlt)⟩
      have hne : hs ≠ [] := fun h => by rw [h] at hzz; simp at hzz
      obtain rfl := HSA.out hne
      have hA1 := HA.out hne
      have c0 := (HW.out.cell hA1.lt).trans (hA1.nm i z hzz)
      have hzs := HZ.out z (List.mem_of_getElem? hzz)
      have e : hs.take (i + 1) = hs.take i ++ [z] := by rw [List.take_add_one, hzz]; rfl
      have HX2 : Hid (valH kk (hs.take (i + 1)) = if lowB z.1 = kk then strL (trL (btL z.2)) else x) := Lib.hid (by rw [e, valH_snoc, HX.out])
      have HQ2 : Hid (hasH kk (hs.take (i + 1)) = if lowB z.1 = kk then true else q) := Lib.hid (by rw [e, hasH_snoc, HQ.out])
      have C1 : Hid (∀ W, Below w.heap.size w W → W.cell? ⟨g, off + i * 2 + 1, none⟩ = some (.string z.2)) := Lib.hid (fun W hW => (hW.cell hA1.lt).trans (hA1.vl i z hzz))
      obtain ⟨zn, zv⟩ := z
      dsimp only at c0 hzs HX2 HQ2 C1
      obtain ⟨t, ht⟩ : ∃ t, lowB zn = t := ⟨_, rfl⟩
      have LW := Lib.hid (fun W : World => rlower_at zn t ht (by omega) W)
      obtain ⟨R, hR⟩ : ∃ R, trL (btL zv) = R := ⟨_, rfl⟩
      have TR := Lib.hid (fun W : World => rtrim_at zv R hR (by omega) W)
      rw [ht] at HX2 HQ2
      rw [hR] at HX2
      obtain ⟨E, hE⟩ : ∃ b, decide (t = kk) = b := ⟨_, rfl⟩
      have hE2 : (t.toList == kk.toList) = E := by rw [lowB_eqs, hE]
      have HE := Lib.hid hE
      have ix0 : (0 : Int) ≤ (i : Int) := by omega
      have ix1 : (i : Int) < (m : Int) := by omega
      clear e hne hA1 hzz HSA HX HQ ht hR hE
      go_wp2_with fail
      refine (LW.out _).mono ?_
      rintro e w1 ⟨rfl, hb⟩
      have HB1 := Lib.hid (HW.out.trans (hb.mono HW.out.size))
      clear hb LW c0
      go_wp2_with fail
      refine (LK.out _).mono ?_
      rintro e w2 ⟨rfl, hb⟩
      have HB2 := Lib.hid (HB1.out.trans (hb.mono HB1.out.size))
      clear hb HB1 HW
      cases E with
      | false =>
        have HX3 : Hid (valH kk (hs.take (i + 1)) = x) := Lib.hid (by rw [HX2.out, if_neg (of_decide_eq_false HE.out)])
        have HQ3 : Hid (hasH kk (hs.take (i + 1)) = q) := Lib.hid (by rw [HQ2.out, if_neg (of_decide_eq_false HE.out)])
        clear HX2 HQ2 HE C1
        go_wp2
        go_roundw
        case rel => exact ⟨i + 1, x, q, by omega, rfl, rfl, by go_num, HX3, HQ3, HB2⟩
        case measure => simp [intOf]; omega
      | true =>
        have HX3 : Hid (valH kk (hs.take (i + 1)) = strL R) := Lib.hid (by rw [HX2.out, if_pos (of_decide_eq_true HE.out)])
        have HQ3 : Hid (hasH kk (hs.take (i + 1)) = true) := Lib.hid (by rw [HQ2.out, if_pos (of_decide_eq_true HE.out)])
        have c1 := C1.out w2 HB2.out
        clear HX2 HQ2 HE C1
        go_wp2_with fail
        refine (TR.out _).mono ?_
        rintro e w3 ⟨rfl, hw⟩
        subst w3
        go_wp2
        go_roundw
        case rel => exact ⟨i + 1, _, true, by omega, rfl, rfl, by go_num, HX3, HQ3, HB2⟩
        case measure => simp [intOf]; omega
    · have kd : decide ((i : Int) < (m : Int)) = false := decide_eq_false (by omega)
      have e : hs.take i = hs := List.take_of_length_le (by rw [HM.out]; omega)
      have HX3 : Hid (x = V) := Lib.hid (by rw [← HX.out, ← HV.out, e])
      have HQ3 : Hid (q = B) := Lib.hid (by rw [← HQ.out, ← HB.out, e])
      clear e
      go_wp2
      go_ret2
      exact ⟨by rw [← HX3.out, ← HQ3.out]; rfl, HW.out⟩
end Go.Proofs.YtodibjpojfipoaaGreatDoor
/- The document's numbers: num, moment, on, digits. -/
namespace Go.Proofs.YtodibjpojfipoaaGreatDoor
open Go Go.RowKit
set_option linter.unusedVariables false
set_option linter.unusedSimpArgs false
set_option maxRecDepth 10000

set_option maxHeartbeats 1000000 in
theorem rnumc_at (c : Int) (b : Bool) (hb : fNum c = b) (w : World) : Calls Tryz.prog 43 #[.int .u8 c] w fun e w' => e = .returned (.bool b) ∧ w' = w := by
  obtain ⟨p, hp⟩ : ∃ p, decide (48 ≤ c) = p := ⟨_, rfl⟩
  obtain ⟨q, hq⟩ : ∃ p, decide (c ≤ 57) = p := ⟨_, rfl⟩
  have HB : Hid ((p && q) = b) := Lib.hid (by rw [← hb, ← hp, ← hq]; rfl)
  clear hb
  go_enter Tryz.func43, Tryz.ntmps43
  cases p with
  | true =>
    cases q with
    | true =>
      go_wp2
      go_ret
      exact ⟨by rw [← HB.out]; rfl, rfl⟩
    | false =>
      go_wp2
      go_ret
      exact ⟨by rw [← HB.out]; rfl, rfl⟩
  | false =>
    go_wp2
    go_ret
    exact ⟨by rw [← HB.out]; rfl, rfl⟩
set_option maxHeartbeats 1000000 in
theorem rmoment7_at (t : Int) (w : World) : Calls Tryz.prog 23 #[.int .i64 t] w fun e w' => e = .returned (.int .i64 (capI t)) ∧ w' = w := by
  obtain ⟨C, hC⟩ : ∃ C, capI t = C := ⟨_, rfl⟩
  have HC := Lib.hid hC
  rw [hC]
  clear hC
  go_enter Tryz.func23, Tryz.ntmps23
  by_cases h0 : t < 0
  · have d0 : decide (t < 0) = true := decide_eq_true h0
    have e : C = 0 := by rw [← HC.out]; unfold capI; omega
    subst e
    go_wp2
    go_ret
    exact ⟨rfl, rfl⟩
  · have d0 : decide (t < 0) = false := decide_eq_false h0
    by_cases h1 : 1099511627776 < t
    · have d1 : decide (1099511627776 < t) = true := decide_eq_true h1
      have e : C = 1099511627776 := by rw [← HC.out]; unfold capI; omega
      subst e
      go_wp2
      go_ret
      exact ⟨rfl, rfl⟩
    · have d1 : decide (1099511627776 < t) = false := decide_eq_false h1
      have e : C = t := by rw [← HC.out]; unfold capI; omega
      subst e
      go_wp2
      go_ret
      exact ⟨rfl, rfl⟩
theorem mulI_comm (a b : Int) : mulI a b = mulI b a := by unfold mulI; rw [Int.mul_comm]
set_option maxHeartbeats 1000000 in
theorem ron_at (now s : Int) (w : World) : Calls Tryz.prog 26 #[.int .i64 (capI now), .int .i64 s] w fun e w' => e = .returned (.int .i64 (afterI now s)) ∧ w' = w := by
  obtain ⟨C, hC⟩ : ∃ C, capI now = C := ⟨_, rfl⟩
  obtain ⟨M, hM⟩ : ∃ M, mulI s 1000 = M := ⟨_, rfl⟩
  obtain ⟨A, hA⟩ : ∃ A, addI C M = A := ⟨_, rfl⟩
  obtain ⟨R, hR⟩ : ∃ R, capI A = R := ⟨_, rfl⟩
  have e : afterI now s = R := by unfold afterI; rw [mulI_comm, hC, hM, hA, hR]
  have HM := Lib.hid hM
  have HA := Lib.hid hA
  have HR := Lib.hid hR
  rw [hC, e]
  clear hC hM hA hR e
  go_enter Tryz.func26, Tryz.ntmps26
  go_wp2_with fail
  refine (rmul_any s 1000 _).mono ?_
  rintro e w1 ⟨rfl, hw⟩
  subst hw
  rw [HM.out]
  go_wp2_with fail
  refine (radd_any C M _).mono ?_
  rintro e w1 ⟨rfl, hw⟩
  subst hw
  rw [HA.out]
  go_wp2_with fail
  refine (rmoment7_at A _).mono ?_
  rintro e w1 ⟨rfl, hw⟩
  subst hw
  rw [HR.out]
  go_wp2
  go_ret
  exact ⟨rfl, rfl⟩
theorem dgN_none {l : List Int} {v : Int} {k : Nat} {c : Int} (hc : l[k]? = some c) (hf : fNum c = false) : dgN v l = none := by
  induction l generalizing v k with
  | nil => simp at hc
  | cons x t ih =>
    rw [dgN_cons]
    cases k with
    | zero =>
      have e : x = c := by simpa using hc
      subst e
      rw [hf]
      rfl
    | succ k =>
      split
      · exact ih (by simpa using hc)
      · rfl
set_option maxHeartbeats 4000000 in
theorem rdigits_at (x : ByteArray) (hx : x.size ≤ 1000000000000000) (w : World) : Calls Tryz.prog 25 #[.string x] w fun e w' => e = .returned (.tuple #[.int .i64 (digP (btL x)).1, .bool (digP (btL x)).2]) ∧ Below w.heap.size w w' := by
  obtain ⟨p, hp⟩ : ∃ p, digP (btL x) = p := ⟨_, rfl⟩
  have HP := Lib.hid hp
  have mixed : Tryz.prog.follows .mixedOrders = true := by kernel_rfl
  rw [hp]
  clear hp
  go_enter Tryz.func25, Tryz.ntmps25
  go_wp2_with fail
  go_loopw [4, 5] (fun n j wr => ∃ (i : Nat) (v : Int), n = .int .i64 v ∧ j = .int .i64 (i : Int) ∧ i ≤ x.size ∧ Hid (dgN 0 (btL x) = dgN v ((btL x).drop i)) ∧ Hid (Below w.heap.size w wr)) (fun _ j _ => x.size - (intOf j).toNat)
  case atStart => exact ⟨0, 0, rfl, rfl, by omega, Lib.hid (by rw [List.drop_zero]), Lib.hid (Below.refl _ _)⟩
  case round =>
    obtain ⟨i, v, rfl, rfl, hi, HV, HB⟩ := hrel
    by_cases hlt : i < x.size
    · have kd : decide ((i : Int) < (x.size : Int)) = true := decide_eq_true (by omega)
      have kd2 : decide (i < x.size) = true := decide_eq_true hlt
      obtain ⟨c, hc⟩ : ∃ c : Int, (x[i].toNat : Int) = c := ⟨_, rfl⟩
      have hcb : 0 ≤ c ∧ c < 256 := by rw [← hc]; exact ⟨by omega, by have := x[i].toNat_lt; omega⟩
      have hdr : (btL x).drop i = c :: (btL x).drop (i + 1) := by rw [← hc]; exact ln_cons x i hlt
      have HDR := Lib.hid hdr
      have ix0 : (0 : Int) ≤ (i : Int) := by omega
      have ix1 : (i : Int) < (x.size : Int) := by omega
      clear hdr
      cases hf : fNum c with
      | false =>
        have HN : Hid (p = (0, false)) := Lib.hid (by
          rw [← HP.out]
          unfold digP
          rw [HV.out, HDR.out, dgN_cons, hf]
          rfl)
        have NC := Lib.hid (fun W : World => rnumc_at c false hf W)
        clear hf HV HDR
        go_wp2_with fail
        refine (NC.out _).mono ?_
        rintro e w1 ⟨rfl, hw⟩
        subst w1
        go_wp2
        go_ret2
        exact ⟨by rw [HN.out]; rfl, HB.out⟩
      | true =>
        have NC := Lib.hid (fun W : World => rnumc_at c true hf W)
        have hdg := fNum_is hf
        have w1 : IntKind.u8.wrap (c - 48) = c - 48 := by rw [IntKind.wrap_u8]; omega
        have w2 : IntKind.i64.wrap (c - 48) = c - 48 := by rw [IntKind.wrap_i64]; omega
        obtain ⟨m, hm⟩ : ∃ m, mulI v 10 = m := ⟨_, rfl⟩
        obtain ⟨z, hz⟩ : ∃ z, addI m (c - 48) = z := ⟨_, rfl⟩
        have HV2 : Hid (dgN 0 (btL x) = dgN z ((btL x).drop (i + 1))) := Lib.hid (by rw [HV.out, HDR.out, dgN_cons, if_pos hf, hm, hz])
        have HM := Lib.hid (fun W : World => by have := rmul_any v 10 W; rw [hm] at this; exact this)
        have HZ := Lib.hid (fun W : World => by have := radd_any m (c - 48) W; rw [hz] at this; exact this)
        clear hf HV HDR hm hz
        go_wp2_with fail
        refine (NC.out _).mono ?_
        rintro e wn ⟨rfl, hw⟩
        subst wn
        go_upto_region 7 with fail
        refine wp_region_last 8 (fun w' => Below w.heap.size w w') (by kernel_rfl) (HB.out.drew) (fun hHeld hClosed => ?_)
        refine wpAnyL_take (i := 0) (v := ?_) rfl (by kernel_rfl) (by kernel_rfl) (by kernel_rfl) (by kernel_rfl) (fun _ _ _ h => h) (by kernel_rfl) hClosed (Or.inl ⟨by rfl, ?_⟩) hHeld (fun hClosed => ?_)
        rotate_left
        · intro wv hSw; go_simp; all_goals (with_reducible rfl)
        (try simp only [List.getElem_toArray, List.getElem_cons_zero, put_at, List.set])
        refine wpAnyL_take (i := 2) (v := ?_) rfl (by kernel_rfl) (by kernel_rfl) (by kernel_rfl) (by kernel_rfl) (fun _ _ _ h => h) (by kernel_rfl) hClosed (Or.inl ⟨by rfl, ?_⟩) hHeld (fun hClosed => ?_)
        rotate_left
        · intro wv hSw; go_simp; all_goals (with_reducible rfl)
        (try simp only [List.getElem_toArray, List.getElem_cons_succ, List.getElem_cons_zero, put_at, List.set])
        refine wpAnyL_take (i := 3) (v := ?_) rfl (by kernel_rfl) (by kernel_rfl) (by kernel_rfl) (by kernel_rfl) (fun _ _ _ h => h) (by kernel_rfl) hClosed (Or.inl ⟨by rfl, ?_⟩) hHeld (fun hClosed => ?_)
        rotate_left
        · intro wv hSw; go_simp; all_goals (with_reducible rfl)
        (try simp only [List.getElem_toArray, List.getElem_cons_succ, List.getElem_cons_zero, put_at, List.set])
        refine wpAnyL_take (i := 4) (v := ?_) rfl (by kernel_rfl) (by kernel_rfl) (by kernel_rfl) (by kernel_rfl) (fun _ _ _ h => h) (by kernel_rfl) hClosed (Or.inl ⟨by rfl, ?_⟩) hHeld (fun hClosed => ?_)
        rotate_left
        · intro wv hSw; go_simp; all_goals (with_reducible rfl)
        (try simp only [List.getElem_toArray, List.getElem_cons_succ, List.getElem_cons_zero, put_at, List.set])
        refine wpAnyL_take (i := 5) (v := ?_) rfl (by kernel_rfl) (by kernel_rfl) (by kernel_rfl) (by kernel_rfl) (fun _ _ _ h => h) (by kernel_rfl) hClosed (Or.inl ⟨by rfl, ?_⟩) hHeld (fun hClosed => ?_)
        rotate_left
        · intro wv hSw; go_simp; all_goals (with_reducible rfl)
        (try simp only [List.getElem_toArray, List.getElem_cons_succ, List.getElem_cons_zero, put_at, List.set])
        refine wpAnyL_take (i := 6) (v := .int .i64 (c - 48)) rfl (by kernel_rfl) (by kernel_rfl) (by kernel_rfl) (by kernel_rfl) (fun _ _ _ h => h) (by kernel_rfl) hClosed (Or.inl ⟨by rfl, ?_⟩) hHeld (fun hClosed => ?_)
        · intro wv hSw; unfold execOp; simp only [List.getElem_toArray, List.getElem_cons_succ, List.getElem_cons_zero]; simp [go_sem, w2, Tryz.underlying3, Tryz.underlying5, Act.eval]
        (try simp only [List.getElem_toArray, List.getElem_cons_succ, List.getElem_cons_zero, put_at, List.set])
        refine wpAnyL_one (i := 1) rfl (by kernel_rfl) (by kernel_rfl) hClosed (fun KK hK => ?_)
        go_simp
        refine (HM.out _).mono ?_
        rintro e wq ⟨rfl, hwq⟩
        subst hwq
        go_wp2_with fail
        refine hK.out _ _ ?_ (fun hClosed hHeld => ?_)
        · exact hHeld
        clear hK KK
        (first | simp only [List.getElem_toArray, List.getElem_cons_succ, List.getElem_cons_zero, put_at, List.set] | (try simp only [put_at, List.set]))
        refine wpAnyL_one (i := 7) rfl (by kernel_rfl) (by kernel_rfl) hClosed (fun KK hK => ?_)
        go_simp
        refine (HZ.out _).mono ?_
        rintro e wq ⟨rfl, hwq⟩
        subst hwq
        go_wp2_with fail
        refine hK.out _ _ ?_ (fun hClosed hHeld => ?_)
        · exact hHeld
        clear hK KK
        (first | simp only [List.getElem_toArray, List.getElem_cons_succ, List.getElem_cons_zero, put_at, List.set] | (try simp only [put_at, List.set]))
        refine wpAnyL_last rfl (by kernel_rfl) (by kernel_rfl) (fun KK hK => ?_)
        go_simp
        refine hK.out _ _ ?_
        (try simp only [put_at, List.set])
        have HE := Lib.hid hHeld
        clear hHeld
        go_wp2
        go_roundw
        case rel => exact ⟨i + 1, z, rfl, by go_num, by omega, HV2, HE⟩
        case measure => simp [intOf]; omega
    · have kd : decide ((i : Int) < (x.size : Int)) = false := decide_eq_false (by omega)
      have kd2 : decide (i < x.size) = false := decide_eq_false hlt
      have HN : Hid (p = (v, !x.toList.isEmpty)) := Lib.hid (by
        rw [← HP.out]
        unfold digP
        rw [HV.out, List.drop_eq_nil_of_le (by rw [btL_length]; omega)]
        show (v, decide (btL x ≠ [])) = _
        rw [emp_size x]
        congr 1
        by_cases h : btL x = []
        · have : x.size = 0 := by rw [← btL_length, h]; rfl
          simp [h, this]
        · have : x.size ≠ 0 := fun h2 => h (by rw [← List.length_eq_zero_iff, btL_length, h2])
          simp [h, this])
      go_wp2
      go_ret2
      exact ⟨by rw [HN.out]; rfl, HB.out⟩
end Go.Proofs.YtodibjpojfipoaaGreatDoor
/- The document's Reset, From. -/
namespace Go.Proofs.YtodibjpojfipoaaGreatDoor
open Go Go.RowKit
set_option linter.unusedVariables false
set_option linter.unusedSimpArgs false
set_option maxRecDepth 10000

theorem valH_none {k : ByteArray} {hs : HL} (h : hasH k hs = false) : valH k hs = ByteArray.empty := by
  refine valB_none (fun z hz => ?_)
  have := bkL_mem _ z hz
  unfold hasH at h
  rw [List.any_eq_false] at h
  have := h _ this
  simpa using this
def LimIs (hs : HL) (z0 : Int) (z1 : Bool) : Prop := z1 = (limT (btL (valH kRl hs))).2 ∧ (z1 = true → z0 = (limT (btL (valH kRl hs))).1)
set_option maxHeartbeats 4000000 in
theorem rreset_at (sa : Option Addr) (g off c : Nat) (hs : HL) (hl : hs.length ≤ 1000000) (hz : ∀ x ∈ hs, x.1.size ≤ 1000000 ∧ x.2.size ≤ 1000000) (now : Int) (w : World) (hA : hs ≠ [] → HdAt w g off hs) (hSa : hs ≠ [] → sa = some ⟨g, off, none⟩)
    (z0 : Int) (z1 : Bool) (hLM : LimIs hs z0 z1) (hL : ∀ W, Below w.heap.size w W → Calls Tryz.prog 31 #[.slice sa hs.length c] W fun e w' => e = .returned (.tuple #[.int .i64 z0, .bool z1]) ∧ Below W.heap.size W w') :
    Calls Tryz.prog 14 #[.slice sa hs.length c, .int .i64 now] w (OptP (resO now hs) w) := by
  obtain ⟨R, hR⟩ : ∃ R, resO now hs = R := ⟨_, rfl⟩
  have HR := Lib.hid hR
  rw [hR]
  clear hR
  have hA' : ∀ (W : World), Below w.heap.size w W → hs ≠ [] → HdAt W g off hs := fun W hW h => ⟨Nat.lt_of_lt_of_le (hA h).lt hW.size, fun i x hx => (hW.cell (hA h).lt).trans ((hA h).nm i x hx), fun i x hx => (hW.cell (hA h).lt).trans ((hA h).vl i x hx)⟩
  have V2 := Lib.hid (fun (W : World) (hW : Below w.heap.size w W) => rfield_at sa g off c hs hl hz ⟨#[88, 45, 82, 97, 116, 101, 76, 105, 109, 105, 116, 45, 82, 101, 109, 97, 105, 110, 105, 110, 103]⟩ kXm (by decide) (by decide) W (hA' W hW) hSa)
  have V3 := Lib.hid (fun (W : World) (hW : Below w.heap.size w W) => rfield_at sa g off c hs hl hz ⟨#[88, 45, 82, 97, 116, 101, 76, 105, 109, 105, 116, 45, 82, 101, 115, 101, 116]⟩ kXr (by decide) (by decide) W (hA' W hW) hSa)
  have LM := Lib.hid hL
  have hz2 := valH_size kXm hs hz
  have hz3 := valH_size kXr hs hz
  have HN2 : Hid (hasH kXm hs = false → valH kXm hs = ByteArray.empty) := Lib.hid valH_none
  have HN3 : Hid (hasH kXr hs = false → valH kXr hs = ByteArray.empty) := Lib.hid valH_none
  obtain ⟨v2, hv2⟩ : ∃ v, valH kXm hs = v := ⟨_, rfl⟩
  obtain ⟨v3, hv3⟩ : ∃ v, valH kXr hs = v := ⟨_, rfl⟩
  obtain ⟨a2, ha2⟩ : ∃ v, hasH kXm hs = v := ⟨_, rfl⟩
  obtain ⟨a3, ha3⟩ : ∃ v, hasH kXr hs = v := ⟨_, rfl⟩
  rw [hv2, ha2] at V2 HN2
  rw [hv3, ha3] at V3 HN3
  rw [hv2] at hz2
  rw [hv3] at hz3
  have D2 := Lib.hid (fun W : World => rdigits_at v2 (by omega) W)
  have D3 := Lib.hid (fun W : World => rdigits_at v3 (by omega) W)
  obtain ⟨⟨x0, x1⟩, hx⟩ : ∃ z, digP (btL v2) = z := ⟨_, rfl⟩
  obtain ⟨⟨y0, y1⟩, hy⟩ : ∃ z, digP (btL v3) = z := ⟨_, rfl⟩
  have HX : Hid (a2 = false → x1 = false) := Lib.hid (fun h => by rw [HN2.out h] at hx; exact (congrArg Prod.snd hx).symm)
  have HY : Hid (a3 = false → y1 = false) := Lib.hid (fun h => by rw [HN3.out h] at hy; exact (congrArg Prod.snd hy).symm)
  rw [hx] at D2
  rw [hy] at D3
  dsimp only at D2 D3
  have HOF : Hid (oldF (btL (valH kXm hs)) (btL (valH kXr hs)) = if x1 = true ∧ y1 = true ∧ x0 = 0 then some y0 else none) := Lib.hid (by rw [hv2, hv3]; unfold oldF; rw [hx, hy])
  have HT : Hid (z1 = true → (if z0 < 0 then none else some (afterI now z0)) = R) := Lib.hid (fun h => by
    have e : secO hs = some (limT (btL (valH kRl hs))).1 := by unfold secO; rw [if_pos (by rw [← hLM.1]; exact h)]
    rw [← HR.out, hLM.2 h]
    unfold resO
    rw [e])
  have HF : Hid (z1 = false → (match (if x1 = true ∧ y1 = true ∧ x0 = 0 then some y0 else none) with
    | none => none
    | some n => if n < 0 then none else some (afterI now n)) = R) := Lib.hid (fun h => by
    have e : secO hs = oldF (btL (valH kXm hs)) (btL (valH kXr hs)) := by unfold secO; rw [if_neg (by rw [← hLM.1, h]; decide)]
    rw [← HR.out]
    unfold resO
    rw [e, HOF.out]
    rfl)
  obtain ⟨N, hN⟩ : ∃ N, hs.length = N := ⟨_, rfl⟩
  rw [hN] at V2 V3 LM ⊢
  obtain ⟨C, hC⟩ : ∃ C, capI now = C := ⟨_, rfl⟩
  have HC := Lib.hid hC
  have MO := Lib.hid (fun W : World => rmoment7_at now W)
  rw [hC] at MO
  clear hN hC hx hy hv2 hv3 ha2 ha3 hz2 hz3 hLM HOF HN2 HN3 hA hSa hA' hL hl hz HR
  go_enter Tryz.func14, Tryz.ntmps14
  go_wp2_with fail
  refine (MO.out _).mono ?_
  rintro e w0 ⟨rfl, hw⟩
  subst w0
  go_wp2_with fail
  refine (LM.out _ (Below.refl _ _)).mono ?_
  rintro e w1 ⟨rfl, hb⟩
  have HB1 := Lib.hid hb
  clear hb LM MO
  cases z1 with
  | true =>
    have HT2 := Lib.hid (HT.out rfl)
    clear HT HF V2 V3 D2 D3 HX HY
    by_cases hn : z0 < 0
    · have hd : decide (z0 < 0) = true := decide_eq_true hn
      have HO : Hid (R = none) := Lib.hid (by rw [← HT2.out]; exact if_pos hn)
      clear hn HT2
      go_wp2
      go_ret2
      exact ⟨by rw [HO.out]; rfl, HB1.out⟩
    · have hd : decide (z0 < 0) = false := decide_eq_false hn
      have HO : Hid (R = some (afterI now z0)) := Lib.hid (by rw [← HT2.out]; exact if_neg hn)
      have ON := Lib.hid (fun W : World => ron_at now z0 W)
      rw [HC.out] at ON
      obtain ⟨af, haf⟩ : ∃ a, afterI now z0 = a := ⟨_, rfl⟩
      rw [haf] at HO ON
      clear haf hn HT2
      go_wp2_with fail
      refine (ON.out _).mono ?_
      rintro e w9 ⟨rfl, hw⟩
      subst w9
      go_wp2
      go_ret2
      exact ⟨by rw [HO.out]; rfl, HB1.out⟩
  | false =>
    have HF2 := Lib.hid (HF.out rfl)
    clear HT HF
    go_wp2_with fail
    refine (V2.out _ HB1.out).mono ?_
    rintro e w2 ⟨rfl, hb⟩
    have HB2 := Lib.hid (HB1.out.trans (hb.mono HB1.out.size))
    clear hb HB1 V2
    go_wp2_with fail
    refine (V3.out _ HB2.out).mono ?_
    rintro e w3 ⟨rfl, hb⟩
    have HB3 := Lib.hid (HB2.out.trans (hb.mono HB2.out.size))
    clear hb HB2 V3
    go_wp2_with fail
    refine (D2.out _).mono ?_
    rintro e w4 ⟨rfl, hb⟩
    have HB4 := Lib.hid (HB3.out.trans (hb.mono HB3.out.size))
    clear hb HB3 D2
    go_wp2_with fail
    refine (D3.out _).mono ?_
    rintro e w5 ⟨rfl, hb⟩
    have HB5 := Lib.hid (HB4.out.trans (hb.mono HB4.out.size))
    clear hb HB4 D3
    go_upto_region 8 with fail
    obtain ⟨Q, hQ⟩ : ∃ q : Bool, decide (x1 = true ∧ y1 = true ∧ x0 = 0) = q := ⟨_, rfl⟩
    have HQ := Lib.hid hQ
    clear hQ
    go_cut [6, 7] from 16 (fun n o wx => n = .int .i64 y0 ∧ o = .bool Q ∧ wx = w5)
    case first =>
      cases a2 with
      | false =>
        have e1 := HX.out rfl
        have e : Q = false := by rw [← HQ.out, e1]; simp
        subst e
        clear e1
        go_wp2
        go_meet
        exact ⟨rfl, rfl, rfl⟩
      | true =>
        cases a3 with
        | false =>
          have e1 := HY.out rfl
          have e : Q = false := by rw [← HQ.out, e1]; simp
          subst e
          clear e1
          go_wp2
          go_meet
          exact ⟨rfl, rfl, rfl⟩
        | true =>
          cases x1 with
          | false =>
            have e : Q = false := by rw [← HQ.out]; simp
            subst e
            go_wp2
            go_meet
            exact ⟨rfl, rfl, rfl⟩
          | true =>
            cases y1 with
            | false =>
              have e : Q = false := by rw [← HQ.out]; simp
              subst e
              go_wp2
              go_meet
              exact ⟨rfl, rfl, rfl⟩
            | true =>
              have e : (x0 == 0) = Q := by rw [← HQ.out]; by_cases h : x0 = 0 <;> simp [h]
              have E := Lib.hid e
              cases Q with
              | true =>
                go_wp2
                go_meet
                exact ⟨rfl, rfl, rfl⟩
              | false =>
                go_wp2
                go_meet
                exact ⟨rfl, rfl, rfl⟩
    case rest =>
    obtain ⟨rfl, rfl, he⟩ := hcut
    have he := he.symm
    subst he
    cases Q with
    | false =>
      have HO : Hid (R = none) := Lib.hid (by rw [← HF2.out, if_neg (of_decide_eq_false HQ.out)])
      clear HF2
      go_wp2
      go_ret2
      exact ⟨by rw [HO.out]; rfl, HB5.out⟩
    | true =>
      have HF3 : Hid ((if y0 < 0 then none else some (afterI now y0)) = R) := Lib.hid (by rw [← HF2.out, if_pos (of_decide_eq_true HQ.out)])
      clear HF2
      by_cases hn : y0 < 0
      · have hd : decide (y0 < 0) = true := decide_eq_true hn
        have HO : Hid (R = none) := Lib.hid (by rw [← HF3.out]; exact if_pos hn)
        clear hn HF3
        go_wp2
        go_ret2
        exact ⟨by rw [HO.out]; rfl, HB5.out⟩
      · have hd : decide (y0 < 0) = false := decide_eq_false hn
        have HO : Hid (R = some (afterI now y0)) := Lib.hid (by rw [← HF3.out]; exact if_neg hn)
        have ON := Lib.hid (fun W : World => ron_at now y0 W)
        rw [HC.out] at ON
        obtain ⟨af, haf⟩ : ∃ a, afterI now y0 = a := ⟨_, rfl⟩
        rw [haf] at HO ON
        clear haf hn HF3
        go_wp2_with fail
        refine (ON.out _).mono ?_
        rintro e w9 ⟨rfl, hw⟩
        subst w9
        go_wp2
        go_ret2
        exact ⟨by rw [HO.out]; rfl, HB5.out⟩
end Go.Proofs.YtodibjpojfipoaaGreatDoor
namespace Go.Proofs.YtodibjpojfipoaaGreatDoor
open Go Go.RowKit
set_option linter.unusedVariables false
set_option linter.unusedSimpArgs false
set_option maxRecDepth 10000

theorem retO_no {Y now : Int} {hs : HL} (h : hasH kRa hs = false) : retO Y now hs = none := by
  unfold retO
  rw [valH_none h]
  rfl
theorem class_is (s : Int) : classI s = if s = 429 ∨ s = 503 then 3 else if 400 ≤ s ∧ s < 500 then 2 else if 200 ≤ s ∧ s < 400 then 1 else 4 := by
  unfold classI
  split
  · rfl
  · split
    · rw [if_neg (by omega)]
    · rfl
set_option maxHeartbeats 4000000 in
theorem rfrom_at (st : Int) (sa : Option Addr) (g off c : Nat) (hs : HL) (hl : hs.length ≤ 1000000) (hz : ∀ x ∈ hs, x.1.size ≤ 1000000 ∧ x.2.size ≤ 1000000) (now Y : Int) (w : World) (hA : hs ≠ [] → HdAt w g off hs) (hSa : hs ≠ [] → sa = some ⟨g, off, none⟩)
    (hRS : ∀ W, Below w.heap.size w W → Calls Tryz.prog 14 #[.slice sa hs.length c, .int .i64 now] W (OptP (resO now hs) W))
    (hRT : hasH kRa hs = true → ∀ W, Below w.heap.size w W → Calls Tryz.prog 11 #[.string (valH kRa hs), .int .i64 now] W (OptP (retO Y now hs) W)) :
    Calls Tryz.prog 9 #[.int .i64 st, .slice sa hs.length c, .int .i64 now] w fun e w' => e = .returned (.agg #[.int .i64 (classI st), .int .i64 ((retO Y now hs).getD 0), .int .i64 ((resO now hs).getD 0)]) ∧ Below w.heap.size w w' := by
  have hA' : ∀ (W : World), Below w.heap.size w W → hs ≠ [] → HdAt W g off hs := fun W hW h => ⟨Nat.lt_of_lt_of_le (hA h).lt hW.size, fun i x hx => (hW.cell (hA h).lt).trans ((hA h).nm i x hx), fun i x hx => (hW.cell (hA h).lt).trans ((hA h).vl i x hx)⟩
  have V := Lib.hid (fun (W : World) (hW : Below w.heap.size w W) => rfield_at sa g off c hs hl hz ⟨#[82, 101, 116, 114, 121, 45, 65, 102, 116, 101, 114]⟩ kRa (by decide) (by decide) W (hA' W hW) hSa)
  have RS := Lib.hid hRS
  have RT := Lib.hid hRT
  have HN : Hid (hasH kRa hs = false → (retO Y now hs).getD 0 = 0) := Lib.hid (fun h => by rw [retO_no h]; rfl)
  obtain ⟨v, hv⟩ : ∃ v, valH kRa hs = v := ⟨_, rfl⟩
  obtain ⟨h, hh⟩ : ∃ v, hasH kRa hs = v := ⟨_, rfl⟩
  rw [hv, hh] at V
  rw [hv, hh] at RT
  rw [hh] at HN
  obtain ⟨a, ha⟩ : ∃ a, retO Y now hs = a := ⟨_, rfl⟩
  obtain ⟨b, hb⟩ : ∃ a, resO now hs = a := ⟨_, rfl⟩
  rw [ha] at RT HN ⊢
  rw [hb] at RS ⊢
  obtain ⟨C1, hC1⟩ : ∃ C : Int, (if 200 ≤ st ∧ st < 400 then 1 else 4) = C := ⟨_, rfl⟩
  obtain ⟨C2, hC2⟩ : ∃ C : Int, (if 400 ≤ st ∧ st < 500 then 2 else C1) = C := ⟨_, rfl⟩
  obtain ⟨C3, hC3⟩ : ∃ C : Int, (if st = 429 ∨ st = 503 then 3 else C2) = C := ⟨_, rfl⟩
  have e : classI st = C3 := by rw [class_is, hC1, hC2, hC3]
  have H1 := Lib.hid hC1
  have H2 := Lib.hid hC2
  have H3 := Lib.hid hC3
  rw [e]
  obtain ⟨N, hN⟩ : ∃ N, hs.length = N := ⟨_, rfl⟩
  rw [hN] at V RS ⊢
  clear hN e hC1 hC2 hC3 ha hb hv hh hRS hRT hA' hA hSa hl hz
  go_enter Tryz.func9, Tryz.ntmps9
  go_upto_region 2 with fail
  refine code_forget (fun W => Hid (Box W w.heap.size #[.int .i64 0, .int .i64 0, .int .i64 0] 25) ∧ Hid (Box W (w.heap.size + 1) #[.int .i64 4, .int .i64 0, .int .i64 0] 25) ∧ Hid (Below w.heap.size w W)) ⟨Lib.hid ((Box.new w _ _).alloc _), Lib.hid (by
    have h := Box.new (w.alloc (.cells #[.int .i64 0, .int .i64 0, .int .i64 0] 25)) #[.int .i64 4, .int .i64 0, .int .i64 0] 25
    rw [World.size_alloc] at h
    exact h), Lib.hid (((Below.refl w.heap.size w).alloc (Nat.le_refl _) _).alloc (by simp) _)⟩ ?_
  obtain ⟨rb, hrb⟩ : ∃ x, w.heap.size = x := ⟨_, rfl⟩
  have HRB := Lib.hid hrb
  obtain ⟨qb, hqb⟩ : ∃ x, rb + 1 = x := ⟨_, rfl⟩
  have HQB := Lib.hid hqb
  rintro w1 ⟨RX, QX, HB1⟩
  rw [hrb] at RX QX ⊢
  rw [hqb] at QX ⊢
  clear hrb hqb
  have hne : rb ≠ qb := by have := HQB.out; omega
  have hqw : Hid (w.heap.size ≤ qb) := Lib.hid (by have := HQB.out; have := HRB.out; omega)
  go_upto_region 2 with fail
  obtain ⟨Q, hQ⟩ : ∃ q : Bool, decide (200 ≤ st ∧ st < 400) = q := ⟨_, rfl⟩
  have HQ := Lib.hid hQ
  clear hQ
  go_cut [20] from 14 (fun v wx => v = .bool Q ∧ wx = w1)
  case first =>
    by_cases p0 : 200 ≤ st
    · have d0 : decide (200 ≤ st) = true := decide_eq_true p0
      by_cases p1 : st < 400
      · have d1 : decide (st < 400) = true := decide_eq_true p1
        have e : Q = true := by rw [← HQ.out]; exact decide_eq_true ⟨p0, p1⟩
        subst e
        go_wp2
        go_meet
        exact ⟨rfl, rfl⟩
      · have d1 : decide (st < 400) = false := decide_eq_false p1
        have e : Q = false := by rw [← HQ.out]; exact decide_eq_false (fun h => p1 h.2)
        subst e
        go_wp2
        go_meet
        exact ⟨rfl, rfl⟩
    · have d0 : decide (200 ≤ st) = false := decide_eq_false p0
      have e : Q = false := by rw [← HQ.out]; exact decide_eq_false (fun h => p0 h.1)
      subst e
      go_wp2
      go_meet
      exact ⟨rfl, rfl⟩
  case rest =>
  obtain ⟨rfl, he⟩ := hcut
  have he := he.symm
  subst he
  go_upto_if 20 with fail
  go_cut [14] from 14 (fun v14 wx => Hid (Box wx qb #[.int .i64 C1, .int .i64 0, .int .i64 0] 25) ∧ Hid (Box wx rb #[.int .i64 0, .int .i64 0, .int .i64 0] 25) ∧ Hid (Below w.heap.size w wx))
  case first =>
    have c0 := QX.out.cell 0
    have f0 := QX.out.free 0
    have l0 := QX.out.lt
    cases Q with
    | true =>
      have e : C1 = 1 := by rw [← H1.out, if_pos (of_decide_eq_true HQ.out)]
      subst e
      go_wp2
      go_meet
      exact ⟨Lib.hid (QX.out.set 0 (.int .i64 1)), Lib.hid (RX.out.other (a := ⟨qb, 0, none⟩) hne _), Lib.hid (HB1.out.setCell (p := ⟨qb, 0, none⟩) hqw.out _)⟩
    | false =>
      have E : Hid (C1 = 4) := Lib.hid (by rw [← H1.out, if_neg (of_decide_eq_false HQ.out)])
      go_wp2
      go_meet
      exact ⟨by rw [E.out]; exact QX, RX, HB1⟩
  case rest =>
  obtain ⟨QX2, RX2, HB2⟩ := hcut
  obtain ⟨w2, hw2⟩ : ∃ W, W = wc := ⟨_, rfl⟩
  subst hw2
  clear HQ QX RX HB1
  go_upto_region 4 with fail
  obtain ⟨Q, hQ⟩ : ∃ q : Bool, decide (400 ≤ st ∧ st < 500) = q := ⟨_, rfl⟩
  have HQ := Lib.hid hQ
  clear hQ
  go_cut [27] from 14 (fun v wx => v = .bool Q ∧ wx = w2)
  case first =>
    by_cases p0 : 400 ≤ st
    · have d0 : decide (400 ≤ st) = true := decide_eq_true p0
      by_cases p1 : st < 500
      · have d1 : decide (st < 500) = true := decide_eq_true p1
        have e : Q = true := by rw [← HQ.out]; exact decide_eq_true ⟨p0, p1⟩
        subst e
        go_wp2
        go_meet
        exact ⟨rfl, rfl⟩
      · have d1 : decide (st < 500) = false := decide_eq_false p1
        have e : Q = false := by rw [← HQ.out]; exact decide_eq_false (fun h => p1 h.2)
        subst e
        go_wp2
        go_meet
        exact ⟨rfl, rfl⟩
    · have d0 : decide (400 ≤ st) = false := decide_eq_false p0
      have e : Q = false := by rw [← HQ.out]; exact decide_eq_false (fun h => p0 h.1)
      subst e
      go_wp2
      go_meet
      exact ⟨rfl, rfl⟩
  case rest =>
  obtain ⟨rfl, he⟩ := hcut
  have he := he.symm
  subst he
  go_upto_if 27 with fail
  go_cut [14] from 14 (fun v14 wx => Hid (Box wx qb #[.int .i64 C2, .int .i64 0, .int .i64 0] 25) ∧ Hid (Box wx rb #[.int .i64 0, .int .i64 0, .int .i64 0] 25) ∧ Hid (Below w.heap.size w wx))
  case first =>
    have c0 := QX2.out.cell 0
    have f0 := QX2.out.free 0
    have l0 := QX2.out.lt
    cases Q with
    | true =>
      have e : C2 = 2 := by rw [← H2.out, if_pos (of_decide_eq_true HQ.out)]
      subst e
      go_wp2
      go_meet
      exact ⟨Lib.hid (QX2.out.set 0 (.int .i64 2)), Lib.hid (RX2.out.other (a := ⟨qb, 0, none⟩) hne _), Lib.hid (HB2.out.setCell (p := ⟨qb, 0, none⟩) hqw.out _)⟩
    | false =>
      have E : Hid (C2 = C1) := Lib.hid (by rw [← H2.out, if_neg (of_decide_eq_false HQ.out)])
      go_wp2
      go_meet
      exact ⟨by rw [E.out]; exact QX2, RX2, HB2⟩
  case rest =>
  obtain ⟨QX3, RX3, HB3⟩ := hcut
  obtain ⟨w3, hw3⟩ : ∃ W, W = wc := ⟨_, rfl⟩
  subst hw3
  clear HQ QX2 RX2 HB2
  go_upto_region 6 with fail
  obtain ⟨Q, hQ⟩ : ∃ q : Bool, decide (st = 429 ∨ st = 503) = q := ⟨_, rfl⟩
  have HQ := Lib.hid hQ
  clear hQ
  go_cut [34] from 14 (fun v wx => v = .bool Q ∧ wx = w3)
  case first =>
    by_cases p0 : st = 429
    · have d0 : (st == 429) = true := by simpa using p0
      have e : Q = true := by rw [← HQ.out]; exact decide_eq_true (Or.inl p0)
      subst e
      clear p0
      go_wp2
      go_meet
      exact ⟨rfl, rfl⟩
    · have d0 : (st == 429) = false := by simpa using p0
      by_cases p1 : st = 503
      · have d1 : (st == 503) = true := by simpa using p1
        have e : Q = true := by rw [← HQ.out]; exact decide_eq_true (Or.inr p1)
        subst e
        clear p0 p1
        go_wp2
        go_meet
        exact ⟨rfl, rfl⟩
      · have d1 : (st == 503) = false := by simpa using p1
        have e : Q = false := by rw [← HQ.out]; exact decide_eq_false (fun h => h.elim p0 p1)
        subst e
        clear p0 p1
        go_wp2
        go_meet
        exact ⟨rfl, rfl⟩
  case rest =>
  obtain ⟨rfl, he⟩ := hcut
  have he := he.symm
  subst he
  go_upto_if 34 with fail
  go_cut [14] from 14 (fun v14 wx => Hid (Box wx qb #[.int .i64 C3, .int .i64 0, .int .i64 0] 25) ∧ Hid (Box wx rb #[.int .i64 0, .int .i64 0, .int .i64 0] 25) ∧ Hid (Below w.heap.size w wx))
  case first =>
    have c0 := QX3.out.cell 0
    have f0 := QX3.out.free 0
    have l0 := QX3.out.lt
    cases Q with
    | true =>
      have e : C3 = 3 := by rw [← H3.out, if_pos (of_decide_eq_true HQ.out)]
      subst e
      go_wp2
      go_meet
      exact ⟨Lib.hid (QX3.out.set 0 (.int .i64 3)), Lib.hid (RX3.out.other (a := ⟨qb, 0, none⟩) hne _), Lib.hid (HB3.out.setCell (p := ⟨qb, 0, none⟩) hqw.out _)⟩
    | false =>
      have E : Hid (C3 = C2) := Lib.hid (by rw [← H3.out, if_neg (of_decide_eq_false HQ.out)])
      go_wp2
      go_meet
      exact ⟨by rw [E.out]; exact QX3, RX3, HB3⟩
  case rest =>
  obtain ⟨QX4, RX4, HB4⟩ := hcut
  obtain ⟨w4, hw4⟩ : ∃ W, W = wc := ⟨_, rfl⟩
  subst hw4
  clear HQ QX3 RX3 HB3
  clear H1 H2 H3
  go_wp2_with fail
  refine (V.out _ HB4.out).mono ?_
  rintro e w5 ⟨rfl, hb⟩
  have HB5 := Lib.hid (HB4.out.trans (hb.mono HB4.out.size))
  have QX5 := Lib.hid (QX4.out.later hb)
  have RX5 := Lib.hid (RX4.out.later hb)
  clear hb HB4 QX4 RX4 V
  obtain ⟨A, hA⟩ : ∃ x, a.getD 0 = x := ⟨_, rfl⟩
  have HAA := Lib.hid hA
  have HN2 : Hid (h = false → A = 0) := Lib.hid (fun e => by rw [← hA]; exact HN.out e)
  clear HN
  go_upto_if 41 with fail
  go_cut [14] from 14 (fun v14 wx => Hid (Box wx qb #[.int .i64 C3, .int .i64 A, .int .i64 0] 25) ∧ Hid (Box wx rb #[.int .i64 0, .int .i64 0, .int .i64 0] 25) ∧ Hid (Below w.heap.size w wx))
  case first =>
    cases h with
    | false =>
      have e := HN2.out rfl
      subst e
      clear hA
      go_wp2
      go_meet
      exact ⟨QX5, RX5, HB5⟩
    | true =>
      have RT2 := Lib.hid (RT.out (by simp))
      clear RT hA
      go_wp2_with fail
      refine (RT2.out _ HB5.out).mono ?_
      rintro e w6 ⟨rfl, hb⟩
      have HB6 := Lib.hid (HB5.out.trans (hb.mono HB5.out.size))
      have QX6 := Lib.hid (QX5.out.later hb)
      have RX6 := Lib.hid (RX5.out.later hb)
      clear hb HB5 QX5 RX5 RT2
      have c1 := QX6.out.cell 1
      have f1 := QX6.out.free 1
      have l0 := QX6.out.lt
      cases a with
      | none =>
        have e : A = 0 := HAA.out.symm
        subst e
        go_wp2
        go_meet
        exact ⟨QX6, RX6, HB6⟩
      | some z =>
        have e : A = z := HAA.out.symm
        subst e
        go_wp2
        go_meet
        exact ⟨Lib.hid (QX6.out.set 1 (.int .i64 A)), Lib.hid (RX6.out.other (a := ⟨qb, 1, none⟩) hne _), Lib.hid (HB6.out.setCell (p := ⟨qb, 1, none⟩) hqw.out _)⟩
  case rest =>
  obtain ⟨QX6, RX6, HB6⟩ := hcut
  obtain ⟨w6, hw6⟩ : ∃ W, W = wc := ⟨_, rfl⟩
  subst hw6
  clear HN2 RT HB5 QX5 RX5
  go_wp2_with fail
  refine (RS.out _ HB6.out).mono ?_
  rintro e w7 ⟨rfl, hb⟩
  have HB7 := Lib.hid (HB6.out.trans (hb.mono HB6.out.size))
  have QX7 := Lib.hid (QX6.out.later hb)
  have RX7 := Lib.hid (RX6.out.later hb)
  clear hb HB6 QX6 RX6 RS
  obtain ⟨B, hB⟩ : ∃ x, b.getD 0 = x := ⟨_, rfl⟩
  have HBB := Lib.hid hB
  go_upto_if 57 with fail
  go_cut [14] from 14 (fun v14 wx => Hid (Box wx qb #[.int .i64 C3, .int .i64 A, .int .i64 B] 25) ∧ Hid (Box wx rb #[.int .i64 0, .int .i64 0, .int .i64 0] 25) ∧ Hid (Below w.heap.size w wx))
  case first =>
    have c2 := QX7.out.cell 2
    have f2 := QX7.out.free 2
    have l0 := QX7.out.lt
    clear hB hA
    cases b with
    | none =>
      have e : B = 0 := HBB.out.symm
      subst e
      go_wp2
      go_meet
      exact ⟨QX7, RX7, HB7⟩
    | some z =>
      have e : B = z := HBB.out.symm
      subst e
      go_wp2
      go_meet
      exact ⟨Lib.hid (QX7.out.set 2 (.int .i64 B)), Lib.hid (RX7.out.other (a := ⟨qb, 2, none⟩) hne _), Lib.hid (HB7.out.setCell (p := ⟨qb, 2, none⟩) hqw.out _)⟩
  case rest =>
  obtain ⟨QX8, RX8, HB8⟩ := hcut
  obtain ⟨w8, hw8⟩ : ∃ W, W = wc := ⟨_, rfl⟩
  subst hw8
  clear hA hB HB7 QX7 RX7
  have q0 := QX8.out.cell 0
  have q1 := QX8.out.cell 1
  have q2 := QX8.out.cell 2
  have c0 := RX8.out.cell 0
  have c1 := RX8.out.cell 1
  have c2 := RX8.out.cell 2
  have f0 := RX8.out.free 0
  have f1 := RX8.out.free 1
  have f2 := RX8.out.free 2
  have l0 := RX8.out.lt
  go_wp2
  have BX5 := Lib.hid (((RX8.out.set 0 (.int .i64 C3)).set 1 (.int .i64 A)).set 2 (.int .i64 B))
  have hrw : w.heap.size ≤ rb := by rw [HRB.out]; exact Nat.le_refl _
  have HB9 := Lib.hid (((HB8.out.setCell (p := ⟨rb, 0, none⟩) hrw (.int .i64 C3)).setCell (p := ⟨rb, 1, none⟩) hrw (.int .i64 A)).setCell (p := ⟨rb, 2, none⟩) hrw (.int .i64 B))
  obtain ⟨w9, hw9⟩ : ∃ W, ((w8.setCell ⟨rb, 0, none⟩ (.int .i64 C3)).setCell ⟨rb, 1, none⟩ (.int .i64 A)).setCell ⟨rb, 2, none⟩ (.int .i64 B) = W := ⟨_, rfl⟩
  rw [hw9] at BX5 HB9 ⊢
  have s0 := BX5.out.cell 0
  have s1 := BX5.out.cell 1
  have s2 := BX5.out.cell 2
  exact bodyPost_ret (v := .agg #[.int .i64 C3, .int .i64 A, .int .i64 B]) (by simp [results, Tryz.results9, go_sem, s0, s1, s2]) rfl ⟨by rw [HAA.out, HBB.out], HB9.out⟩
end Go.Proofs.YtodibjpojfipoaaGreatDoor
