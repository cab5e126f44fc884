/- The document's small letters, blanks taken off, fields, numbers. -/
import Derived.Test.YtodibjpojfipoaaGreatDoorFeHdr
import Derived.BigQuiet
import Derived.Deep.QuietTactic
import Derived.Deep.RegionWith
import Derived.Deep.Cut
import Derived.Deep.CutRange
import Derived.Deep.CutBlock
import Derived.Deep.DeepCutAuto
namespace Go.Proofs.YtodibjpojfipoaaGreatDoor
open Go Go.RowKit
set_option linter.unusedVariables false
set_option linter.unusedSimpArgs false
set_option maxRecDepth 10000

set_option maxHeartbeats 2000000 in
theorem rlower_at (s t : ByteArray) (ht : lowB s = t) (hs : s.size ≤ 1000000000000000) (w : World) :
    Calls Tryz.prog 32 #[.string s] w fun e w' => e = .returned (.string t) ∧ Below w.heap.size w w' := by
  have HT := Lib.hid ht
  obtain ⟨l, hl⟩ : ∃ l, btL s = l := ⟨_, rfl⟩
  have hll : l.length = s.size := by rw [← hl, btL_length]
  have HB : Hid (Byts l) := Lib.hid (by rw [← hl]; exact btL_byts s)
  have HL := Lib.hid hl
  have HLL := Lib.hid hll
  have hcv := run_bytes_of_string (P := Tryz.prog) w 9 78 5 s Tryz.underlying9 Tryz.underlying78 Tryz.underlying5
  obtain ⟨cap, hcap⟩ : ∃ c, grownCap w s.size 0 5 = c := ⟨_, rfl⟩
  rw [hcap] at hcv
  clear ht hll hcap
  go_enter Tryz.func32, Tryz.ntmps32
  go_upto_region 2 with fail
  refine code_forget (fun w1 => Hid (ByAt w1 w.heap.size l) ∧ Hid (Below w.heap.size w w1)) ⟨Lib.hid (by rw [← hl]; exact ByAt.new w.drew s cap _), Lib.hid ((Below.refl _ _).drew.alloc (Nat.le_refl _) _)⟩ ?_
  rintro w1 ⟨b1, l1⟩
  clear hcv hl
  go_wp2_with fail
  go_loopw [4] (fun i wr => ∃ k : Nat, k ≤ s.size ∧ i = .int .i64 k ∧ Hid (ByAt wr w.heap.size (mixL l k)) ∧ Hid (Below w.heap.size w wr)) (fun i _ => s.size - (intOf i).toNat)
  case atStart => exact ⟨0, Nat.zero_le _, rfl, b1, l1⟩
  case round =>
    clear b1 l1
    obtain ⟨k, hk, rfl, HW, BR⟩ := hrel
    by_cases hlt : k < s.size
    · have hkd : decide ((k : Int) < (s.size : Int)) = true := decide_eq_true (by omega)
      obtain ⟨c, hc⟩ : ∃ c, l[k]? = some c := ⟨l[k]'(by have := HLL.out; omega), List.getElem?_eq_getElem _⟩
      have c0 := HW.out.cell k c (mixL_get hc)
      have fr := HW.out.free k (by rw [mixL_len, HLL.out]; exact hlt)
      have lt := HW.out.lt
      have hb := HB.out c (List.mem_of_getElem? hc)
      by_cases h1 : 65 ≤ c
      · have d1 : decide ((65 : Int) ≤ c) = true := decide_eq_true h1
        by_cases h2 : c ≤ 90
        · have d2 : decide (c ≤ (90 : Int)) = true := decide_eq_true h2
          skip
          have e2 : IntKind.u8.wrap (c + 32) = c + 32 := by rw [IntKind.wrap_u8]; omega
          have W2 : Hid (ByAt (wr.setCell ⟨w.heap.size, k, none⟩ (.int .u8 (c + 32))) w.heap.size (mixL l (k + 1))) := Lib.hid (by
            have := HW.out.set k (c + 32)
            rw [show c + 32 = lwI c from by unfold lwI; rw [if_pos ⟨h1, h2⟩]] at this ⊢
            rwa [mixL_next hc] at this)
          have B2 := Lib.hid (BR.out.setCell (p := ⟨w.heap.size, k, none⟩) (show w.heap.size ≤ w.heap.size from Nat.le_refl _) (.int .u8 (c + 32)))
          clear hc
          go_wp2
          go_roundw
          case rel => exact ⟨k + 1, by omega, by go_num, W2, B2⟩
          case measure => simp [intOf]; omega
        · have d2 : decide (c ≤ (90 : Int)) = false := decide_eq_false h2
          have W2 : Hid (ByAt wr w.heap.size (mixL l (k + 1))) := Lib.hid (by rw [← mixL_same hc (by unfold lwI; rw [if_neg (by omega)])]; exact HW.out)
          clear hc
          go_wp2
          go_roundw
          case rel => exact ⟨k + 1, by omega, by go_num, W2, BR⟩
          case measure => simp [intOf]; omega
      · have d1 : decide ((65 : Int) ≤ c) = false := decide_eq_false h1
        have W2 : Hid (ByAt wr w.heap.size (mixL l (k + 1))) := Lib.hid (by rw [← mixL_same hc (by unfold lwI; rw [if_neg (by omega)])]; exact HW.out)
        clear hc
        go_wp2
        go_roundw
        case rel => exact ⟨k + 1, by omega, by go_num, W2, BR⟩
        case measure => simp [intOf]; omega
    · have hkd : decide ((k : Int) < (s.size : Int)) = false := decide_eq_false (by omega)
      have hrd := HW.out.rd
      rw [mixL_all l k (by have := HLL.out; omega)] at hrd
      have hcv := hrd.text (P := Tryz.prog) 78 5 9 Tryz.underlying78 Tryz.underlying5 Tryz.underlying9 (fun _ => Or.inr ⟨_, _, rfl⟩) cap
      rw [List.length_map, HLL.out, show strL (l.map lwI) = t from by rw [← HT.out, ← HL.out]; rfl] at hcv
      clear hrd
      go_wp2
      go_ret
      exact ⟨rfl, BR.out⟩

def strN : Value → Nat
  | .string x => x.size
  | _ => 0
theorem ln_first (x : ByteArray) (h : 0 < x.size) : btL x = (x[0].toNat : Int) :: btL (x.extract 1 x.size) := by
  have h1 := ln_cons x 0 h
  rw [List.drop_zero] at h1
  rw [ln_extract, List.take_of_length_le (by rw [List.length_drop, btL_length]; omega)]
  exact h1
theorem ln_last (x : ByteArray) (k : Nat) (h : x.size = k + 1) : btL x = btL (x.extract 0 k) ++ [((x[k]'(by omega)).toNat : Int)] := by
  have h1 := ln_take x k (by omega)
  rw [List.take_of_length_le (by rw [btL_length]; omega)] at h1
  rw [ln_extract, List.drop_zero, Nat.sub_zero]
  exact h1
theorem trL_cons {c : Int} {t : List Int} (h : blI c = true) : trL (c :: t) = trL t := by
  rw [trL_comm, trL_comm, List.dropWhile_cons, if_pos h]
set_option maxHeartbeats 2000000 in
theorem rtrim_at (s : ByteArray) (R : List Int) (hR : trL (btL s) = R) (hs : s.size ≤ 1000000000000000) (w : World) :
    Calls Tryz.prog 24 #[.string s] w fun e w' => e = .returned (.string (strL R)) ∧ w' = w := by
  have HR := Lib.hid hR
  clear hR
  go_enter Tryz.func24, Tryz.ntmps24
  go_upto_block 0 with fail
  go_cut [0] (fun v wx => ∃ x, v = .string x ∧ x.size ≤ 1000000000000000 ∧ Hid (rdw (btL x) = R) ∧ wx = w)
  case first =>
    go_wp2
    go_loop [0] (fun v => ∃ x, v = .string x ∧ x.size ≤ 1000000000000000 ∧ Hid (trL (btL x) = R)) (fun v => strN v)
    case atStart => exact ⟨s, rfl, hs, HR⟩
    case round =>
      obtain ⟨x, rfl, hx, HX⟩ := hrel
      by_cases h0 : 0 < x.size
      · have d0 : decide ((0 : Int) < (x.size : Int)) = true := decide_eq_true (by omega)
        have d0' : decide (0 < x.size) = true := decide_eq_true h0
        obtain ⟨c, hc⟩ : ∃ c : Int, (x[0].toNat : Int) = c := ⟨_, rfl⟩
        have HF : Hid (btL x = c :: btL (x.extract 1 x.size)) := Lib.hid (by rw [← hc]; exact ln_first x h0)
        have hz : (x.extract 1 x.size).size = x.size - 1 := by simp
        by_cases h1 : c = 32
        · have e1 : (c == 32) = true := beq_iff_eq.2 h1
          have HY : Hid (trL (btL (x.extract 1 x.size)) = R) := Lib.hid (by rw [← HX.out, HF.out, trL_cons (by rw [h1]; rfl)])
          go_wp2
          go_round
          case rel => exact ⟨_, rfl, by omega, HY⟩
          case measure => show (x.extract 1 x.size).size < x.size; omega
        · have e1 : (c == 32) = false := beq_eq_false_iff_ne.2 h1
          by_cases h2 : c = 9
          · have e2 : (c == 9) = true := beq_iff_eq.2 h2
            have HY : Hid (trL (btL (x.extract 1 x.size)) = R) := Lib.hid (by rw [← HX.out, HF.out, trL_cons (by rw [h2]; rfl)])
            go_wp2
            go_round
            case rel => exact ⟨_, rfl, by omega, HY⟩
            case measure => show (x.extract 1 x.size).size < x.size; omega
          · have e2 : (c == 9) = false := beq_eq_false_iff_ne.2 h2
            have HY : Hid (rdw (btL x) = R) := Lib.hid (by
              rw [← HX.out, trL_comm, HF.out, List.dropWhile_cons, if_neg]
              unfold blI
              simp [h1, h2])
            go_wp2
            go_meet
            exact ⟨x, rfl, hx, HY, rfl⟩
      · have d0 : decide ((0 : Int) < (x.size : Int)) = false := decide_eq_false (by omega)
        have d0' : decide (0 < x.size) = false := decide_eq_false h0
        have HY : Hid (rdw (btL x) = R) := Lib.hid (by
          have hl := btL_length x
          have : btL x = [] := List.eq_nil_of_length_eq_zero (by omega)
          rw [← HX.out, this]
          rfl)
        go_wp2
        go_meet
        exact ⟨x, rfl, hx, HY, rfl⟩
  case rest =>
    obtain ⟨x0, rfl, hx0, HX0, rfl⟩ := hcut
    go_wp2
    go_loop [0] (fun v => ∃ x, v = .string x ∧ x.size ≤ 1000000000000000 ∧ Hid (rdw (btL x) = R)) (fun v => strN v)
    case atStart => exact ⟨x0, rfl, hx0, HX0⟩
    case round =>
      clear HX0
      obtain ⟨x, rfl, hx, HX⟩ := hrel
      by_cases h0 : 0 < x.size
      · have d0 : decide ((0 : Int) < (x.size : Int)) = true := decide_eq_true (by omega)
        have d0' : decide (0 < x.size) = true := decide_eq_true h0
        obtain ⟨k, hk⟩ : ∃ k, x.size = k + 1 := ⟨x.size - 1, by omega⟩
        obtain ⟨c, hc⟩ : ∃ c : Int, ((x[k]'(by omega)).toNat : Int) = c := ⟨_, rfl⟩
        have HF : Hid (btL x = btL (x.extract 0 k) ++ [c]) := Lib.hid (by rw [← hc]; exact ln_last x k hk)
        have hz : (x.extract 0 k).size = k := by simp; omega
        by_cases h1 : c = 32
        · have e1 : (c == 32) = true := beq_iff_eq.2 h1
          have HY : Hid (rdw (btL (x.extract 0 k)) = R) := Lib.hid (by rw [← HX.out, HF.out, rdw_snoc, if_pos (by rw [h1]; rfl)])
          go_wp2
          go_round
          case rel => exact ⟨_, rfl, by omega, HY⟩
          case measure => show (x.extract 0 k).size < x.size; omega
        · have e1 : (c == 32) = false := beq_eq_false_iff_ne.2 h1
          by_cases h2 : c = 9
          · have e2 : (c == 9) = true := beq_iff_eq.2 h2
            have HY : Hid (rdw (btL (x.extract 0 k)) = R) := Lib.hid (by rw [← HX.out, HF.out, rdw_snoc, if_pos (by rw [h2]; rfl)])
            go_wp2
            go_round
            case rel => exact ⟨_, rfl, by omega, HY⟩
            case measure => show (x.extract 0 k).size < x.size; omega
          · have e2 : (c == 9) = false := beq_eq_false_iff_ne.2 h2
            have HY : Hid (x = strL R) := Lib.hid (by
              rw [← HX.out, HF.out, rdw_snoc, if_neg, ← HF.out, strL_btL]
              unfold blI
              simp [h1, h2])
            go_wp2
            go_ret
            exact ⟨by rw [← HY.out]; rfl, rfl⟩
      · have d0 : decide ((0 : Int) < (x.size : Int)) = false := decide_eq_false (by omega)
        have d0' : decide (0 < x.size) = false := decide_eq_false h0
        have HY : Hid (x = strL R) := Lib.hid (by
          have hl := btL_length x
          have : btL x = [] := List.eq_nil_of_length_eq_zero (by omega)
          rw [← HX.out, this, show rdw [] = [] from rfl, ← this, strL_btL])
        go_wp2
        go_ret
        exact ⟨by rw [← HY.out]; rfl, rfl⟩
theorem bkL_app {α : Type} (l : List α) (x : α) : ∀ n, n ≤ l.length → bkL (l ++ [x]) n = bkL l n
  | 0, _ => rfl
  | n + 1, h => by
    obtain ⟨y, hy⟩ : ∃ y, l[n]? = some y := ⟨_, List.getElem?_eq_getElem (by omega)⟩
    have hy2 : (l ++ [x])[n]? = some y := by rw [List.getElem?_append_left (by omega)]; exact hy
    rw [bkL_succ hy, bkL_succ hy2, bkL_app l x n (by omega)]
theorem valH_snoc (k : ByteArray) (l : HL) (x : ByteArray × ByteArray) : valH k (l ++ [x]) = if lowB x.1 = k then strL (trL (btL x.2)) else valH k l := by
  unfold valH
  rw [List.length_append, List.length_singleton, bkL_succ (x := x) (by simp), bkL_app l x _ (Nat.le_refl _)]
  rfl
def hasH (k : ByteArray) (hs : HL) : Bool := hs.any fun x => decide (lowB x.1 = k)
theorem hasH_snoc (k : ByteArray) (l : HL) (x : ByteArray × ByteArray) : hasH k (l ++ [x]) = if lowB x.1 = k then true else hasH k l := by
  unfold hasH
  rw [List.any_append]
  by_cases h : lowB x.1 = k <;> simp [h]
theorem lowB_eqs {a b : ByteArray} : (a.toList == b.toList) = decide (a = b) := by
  by_cases h : a = b
  · subst h
    simp
  · rw [decide_eq_false h]
    exact neq_toListV h
set_option maxHeartbeats 4000000 in
theorem rfield_at (sa : Option Addr) (g off c : Nat) (hs : HL) (hl : hs.length ≤ 1000000) (hz : ∀ x ∈ hs, x.1.size ≤ 1000000 ∧ x.2.size ≤ 1000000) (k kk : ByteArray) (hk : lowB k = kk) (hkz : k.size ≤ 1000) (w : World) (hA : hs ≠ [] → HdAt w g off hs) (hSa : hs ≠ [] → sa = some ⟨g, off, none⟩) :
    Calls Tryz.prog 16 #[.slice sa hs.length c, .string k] w fun e w' => e = .returned (.tuple #[.string (valH kk hs), .bool (hasH kk hs)]) ∧ Below w.heap.size w w' := by
  obtain ⟨V, hV⟩ : ∃ V, valH kk hs = V := ⟨_, rfl⟩
  obtain ⟨B, hB⟩ : ∃ B, hasH kk hs = B := ⟨_, rfl⟩
  have HV := Lib.hid hV
  have HB := Lib.hid hB
  have LK := Lib.hid (fun W : World => rlower_at k kk hk (by omega) W)
  obtain ⟨m, hm⟩ : ∃ m, hs.length = m := ⟨_, rfl⟩
  have HM := Lib.hid hm
  have HZ := Lib.hid hz
  have HA := Lib.hid hA
  have HSA := Lib.hid hSa
  rw [hV, hB, hm]
  rw [hm] at hl
  clear hV hB hm hz hA hSa hk hkz
  go_enter Tryz.func16, Tryz.ntmps16
  go_wp2_with fail
  go_loopw [6, 7, 8] (fun o b j wr => ∃ (i : Nat) (x : ByteArray) (q : Bool), i ≤ m ∧ o = .string x ∧ b = .bool q ∧ j = .int .i64 (i : Int) ∧ Hid (valH kk (hs.take i) = x) ∧ Hid (hasH kk (hs.take i) = q) ∧ Hid (Below w.heap.size w wr)) (fun _ _ j _ => m - (intOf j).toNat)
  case atStart => exact ⟨0, ⟨#[]⟩, false, by omega, rfl, rfl, rfl, Lib.hid rfl, Lib.hid rfl, Lib.hid (Below.refl _ _)⟩
  case round =>
    obtain ⟨i, x, q, hi, rfl, rfl, rfl, HX, HQ, HW⟩ := hrel
    by_cases hlt : i < m
    · have kd : decide ((i : Int) < (m : Int)) = true := decide_eq_true (by omega)
      obtain ⟨z, hzz⟩ : ∃ z, hs[i]? = some z := ⟨_, List.getElem?_eq_getElem (by rw [HM.out]; exact hlt)⟩
      have hne : hs ≠ [] := fun h => by rw [h] at hzz; simp at hzz
      obtain rfl := HSA.out hne
      have hA1 := HA.out hne
      have c0 := (HW.out.cell hA1.lt).trans (hA1.nm i z hzz)
      have hzs := HZ.out z (List.mem_of_getElem? hzz)
      have e : hs.take (i + 1) = hs.take i ++ [z] := by rw [List.take_add_one, hzz]; rfl
      have HX2 : Hid (valH kk (hs.take (i + 1)) = if lowB z.1 = kk then strL (trL (btL z.2)) else x) := Lib.hid (by rw [e, valH_snoc, HX.out])
      have HQ2 : Hid (hasH kk (hs.take (i + 1)) = if lowB z.1 = kk then true else q) := Lib.hid (by rw [e, hasH_snoc, HQ.out])
      have C1 : Hid (∀ W, Below w.heap.size w W → W.cell? ⟨g, off + i * 2 + 1, none⟩ = some (.string z.2)) := Lib.hid (fun W hW => (hW.cell hA1.lt).trans (hA1.vl i z hzz))
      obtain ⟨zn, zv⟩ := z
      dsimp only at c0 hzs HX2 HQ2 C1
      obtain ⟨t, ht⟩ : ∃ t, lowB zn = t := ⟨_, rfl⟩
      have LW := Lib.hid (fun W : World => rlower_at zn t ht (by omega) W)
      obtain ⟨R, hR⟩ : ∃ R, trL (btL zv) = R := ⟨_, rfl⟩
      have TR := Lib.hid (fun W : World => rtrim_at zv R hR (by omega) W)
      rw [ht] at HX2 HQ2
      rw [hR] at HX2
      obtain ⟨E, hE⟩ : ∃ b, decide (t = kk) = b := ⟨_, rfl⟩
      have hE2 : (t.toList == kk.toList) = E := by rw [lowB_eqs, hE]
      have HE := Lib.hid hE
      have ix0 : (0 : Int) ≤ (i : Int) := by omega
      have ix1 : (i : Int) < (m : Int) := by omega
      clear e hne hA1 hzz HSA HX HQ ht hR hE
      go_wp2_with fail
      refine (LW.out _).mono ?_
      rintro e w1 ⟨rfl, hb⟩
      have HB1 := Lib.hid (HW.out.trans (hb.mono HW.out.size))
      clear hb LW c0
      go_wp2_with fail
      refine (LK.out _).mono ?_
      rintro e w2 ⟨rfl, hb⟩
      have HB2 := Lib.hid (HB1.out.trans (hb.mono HB1.out.size))
      clear hb HB1 HW
      cases E with
      | false =>
        have HX3 : Hid (valH kk (hs.take (i + 1)) = x) := Lib.hid (by rw [HX2.out, if_neg (of_decide_eq_false HE.out)])
        have HQ3 : Hid (hasH kk (hs.take (i + 1)) = q) := Lib.hid (by rw [HQ2.out, if_neg (of_decide_eq_false HE.out)])
        clear HX2 HQ2 HE C1
        go_wp2
        go_roundw
        case rel => exact ⟨i + 1, x, q, by omega, rfl, rfl, by go_num, HX3, HQ3, HB2⟩
        case measure => simp [intOf]; omega
      | true =>
        have HX3 : Hid (valH kk (hs.take (i + 1)) = strL R) := Lib.hid (by rw [HX2.out, if_pos (of_decide_eq_true HE.out)])
        have HQ3 : Hid (hasH kk (hs.take (i + 1)) = true) := Lib.hid (by rw [HQ2.out, if_pos (of_decide_eq_true HE.out)])
        have c1 := C1.out w2 HB2.out
        clear HX2 HQ2 HE C1
        go_wp2_with fail
        refine (TR.out _).mono ?_
        rintro e w3 ⟨rfl, hw⟩
        subst w3
        go_wp2
        go_roundw
        case rel => exact ⟨i + 1, _, true, by omega, rfl, rfl, by go_num, HX3, HQ3, HB2⟩
        case measure => simp [intOf]; omega
    · have kd : decide ((i : Int) < (m : Int)) = false := decide_eq_false (by omega)
      have e : hs.take i = hs := List.take_of_length_le (by rw [HM.out]; omega)
      have HX3 : Hid (x = V) := Lib.hid (by rw [← HX.out, ← HV.out, e])
      have HQ3 : Hid (q = B) := Lib.hid (by rw [← HQ.out, ← HB.out, e])
      clear e
      go_wp2
      go_ret2
      exact ⟨by rw [← HX3.out, ← HQ3.out]; rfl, HW.out⟩
end Go.Proofs.YtodibjpojfipoaaGreatDoor
