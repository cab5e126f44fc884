/- The document's small letters, blanks taken off, what a line says. -/
import Derived.Test.YtodlecjbpmggiaaGreatDoorLnFn
import Derived.BigQuiet
import Derived.Deep.QuietTactic
import Derived.Deep.RegionWith
import Derived.Deep.Cut
import Derived.Deep.CutRange
import Derived.Deep.CutBlock
import Derived.Deep.DeepCutAuto
namespace Go.Proofs.YtodlecjbpmggiaaGreatDoor
open Go.RowKit
set_option linter.unusedVariables false
set_option linter.unusedSimpArgs false
set_option maxRecDepth 10000

set_option maxHeartbeats 2000000 in
theorem rlower_at (s t : ByteArray) (ht : lowB s = t) (hs : s.size ≤ 1000000000000000) (w : World) :
    Calls Tryz.prog 29 #[.string s] w fun e w' => e = .returned (.string t) ∧ Below w.heap.size w w' := by
  have HT := Lib.hid ht
  obtain ⟨l, hl⟩ : ∃ l, btL s = l := ⟨_, rfl⟩
  have hll : l.length = s.size := by rw [← hl, btL_length]
  have HB : Hid (Byts l) := Lib.hid (by rw [← hl]; exact btL_byts s)
  have HL := Lib.hid hl
  have HLL := Lib.hid hll
  have hcv := run_bytes_of_string (P := Tryz.prog) w 9 74 5 s Tryz.underlying9 Tryz.underlying74 Tryz.underlying5
  obtain ⟨cap, hcap⟩ : ∃ c, grownCap w s.size 0 5 = c := ⟨_, rfl⟩
  rw [hcap] at hcv
  clear ht hll hcap
  go_enter Tryz.func29, Tryz.ntmps29
  go_upto_region 2 with fail
  refine code_forget (fun w1 => Hid (ByAt w1 w.heap.size l) ∧ Hid (Below w.heap.size w w1)) ⟨Lib.hid (by rw [← hl]; exact ByAt.new w.drew s cap _), Lib.hid ((Below.refl _ _).drew.alloc (Nat.le_refl _) _)⟩ ?_
  rintro w1 ⟨b1, l1⟩
  clear hcv hl
  go_wp2_with fail
  go_loopw [4] (fun i wr => ∃ k : Nat, k ≤ s.size ∧ i = .int .i64 k ∧ Hid (ByAt wr w.heap.size (mixL l k)) ∧ Hid (Below w.heap.size w wr)) (fun i _ => s.size - (intOf i).toNat)
  case atStart => exact ⟨0, Nat.zero_le _, rfl, b1, l1⟩
  case round =>
    clear b1 l1
    obtain ⟨k, hk, rfl, HW, BR⟩ := hrel
    by_cases hlt : k < s.size
    · have hkd : decide ((k : Int) < (s.size : Int)) = true := decide_eq_true (by omega)
      obtain ⟨c, hc⟩ : ∃ c, l[k]? = some c := ⟨l[k]'(by have := HLL.out; omega), List.getElem?_eq_getElem _⟩
      have c0 := HW.out.cell k c (mixL_get hc)
      have fr := HW.out.free k (by rw [mixL_len, HLL.out]; exact hlt)
      have lt := HW.out.lt
      have hb := HB.out c (List.mem_of_getElem? hc)
      by_cases h1 : 65 ≤ c
      · have d1 : decide ((65 : Int) ≤ c) = true := decide_eq_true h1
        by_cases h2 : c ≤ 90
        · have d2 : decide (c ≤ (90 : Int)) = true := decide_eq_true h2
          skip
          have e2 : IntKind.u8.wrap (c + 32) = c + 32 := by rw [IntKind.wrap_u8]; omega
          have W2 : Hid (ByAt (wr.setCell ⟨w.heap.size, k, none⟩ (.int .u8 (c + 32))) w.heap.size (mixL l (k + 1))) := Lib.hid (by
            have := HW.out.set k (c + 32)
            rw [show c + 32 = lwI c from by unfold lwI; rw [if_pos ⟨h1, h2⟩]] at this ⊢
            rwa [mixL_next hc] at this)
          have B2 := Lib.hid (BR.out.setCell (p := ⟨w.heap.size, k, none⟩) (show w.heap.size ≤ w.heap.size from Nat.le_refl _) (.int .u8 (c + 32)))
          clear hc
          go_wp2
          go_roundw
          case rel => exact ⟨k + 1, by omega, by go_num, W2, B2⟩
          case measure => simp [intOf]; omega
        · have d2 : decide (c ≤ (90 : Int)) = false := decide_eq_false h2
          have W2 : Hid (ByAt wr w.heap.size (mixL l (k + 1))) := Lib.hid (by rw [← mixL_same hc (by unfold lwI; rw [if_neg (by omega)])]; exact HW.out)
          clear hc
          go_wp2
          go_roundw
          case rel => exact ⟨k + 1, by omega, by go_num, W2, BR⟩
          case measure => simp [intOf]; omega
      · have d1 : decide ((65 : Int) ≤ c) = false := decide_eq_false h1
        have W2 : Hid (ByAt wr w.heap.size (mixL l (k + 1))) := Lib.hid (by rw [← mixL_same hc (by unfold lwI; rw [if_neg (by omega)])]; exact HW.out)
        clear hc
        go_wp2
        go_roundw
        case rel => exact ⟨k + 1, by omega, by go_num, W2, BR⟩
        case measure => simp [intOf]; omega
    · have hkd : decide ((k : Int) < (s.size : Int)) = false := decide_eq_false (by omega)
      have hrd := HW.out.rd
      rw [mixL_all l k (by have := HLL.out; omega)] at hrd
      have hcv := hrd.text (P := Tryz.prog) 74 5 9 Tryz.underlying74 Tryz.underlying5 Tryz.underlying9 (fun _ => Or.inr ⟨_, _, rfl⟩) cap
      rw [List.length_map, HLL.out, show strL (l.map lwI) = t from by rw [← HT.out, ← HL.out]; rfl] at hcv
      clear hrd
      go_wp2
      go_ret
      exact ⟨rfl, BR.out⟩

def strN : Value → Nat
  | .string x => x.size
  | _ => 0
theorem ln_first (x : ByteArray) (h : 0 < x.size) : btL x = (x[0].toNat : Int) :: btL (x.extract 1 x.size) := by
  have h1 := ln_cons x 0 h
  rw [List.drop_zero] at h1
  rw [ln_extract, List.take_of_length_le (by rw [List.length_drop, btL_length]; omega)]
  exact h1
theorem ln_last (x : ByteArray) (k : Nat) (h : x.size = k + 1) : btL x = btL (x.extract 0 k) ++ [((x[k]'(by omega)).toNat : Int)] := by
  have h1 := ln_take x k (by omega)
  rw [List.take_of_length_le (by rw [btL_length]; omega)] at h1
  rw [ln_extract, List.drop_zero, Nat.sub_zero]
  exact h1
theorem trL_cons {c : Int} {t : List Int} (h : blI c = true) : trL (c :: t) = trL t := by
  rw [trL_comm, trL_comm, List.dropWhile_cons, if_pos h]
set_option maxHeartbeats 2000000 in
theorem rtrim_at (s : ByteArray) (R : List Int) (hR : trL (btL s) = R) (hs : s.size ≤ 1000000000000000) (w : World) :
    Calls Tryz.prog 46 #[.string s] w fun e w' => e = .returned (.string (strL R)) ∧ w' = w := by
  have HR := Lib.hid hR
  clear hR
  go_enter Tryz.func46, Tryz.ntmps46
  go_upto_block 0 with fail
  go_cut [0] (fun v wx => ∃ x, v = .string x ∧ x.size ≤ 1000000000000000 ∧ Hid (rdw (btL x) = R) ∧ wx = w)
  case first =>
    go_wp2
    go_loop [0] (fun v => ∃ x, v = .string x ∧ x.size ≤ 1000000000000000 ∧ Hid (trL (btL x) = R)) (fun v => strN v)
    case atStart => exact ⟨s, rfl, hs, HR⟩
    case round =>
      obtain ⟨x, rfl, hx, HX⟩ := hrel
      by_cases h0 : 0 < x.size
      · have d0 : decide ((0 : Int) < (x.size : Int)) = true := decide_eq_true (by omega)
        have d0' : decide (0 < x.size) = true := decide_eq_true h0
        obtain ⟨c, hc⟩ : ∃ c : Int, (x[0].toNat : Int) = c := ⟨_, rfl⟩
        have HF : Hid (btL x = c :: btL (x.extract 1 x.size)) := Lib.hid (by rw [← hc]; exact ln_first x h0)
        have hz : (x.extract 1 x.size).size = x.size - 1 := by simp
        by_cases h1 : c = 32
        · have e1 : (c == 32) = true := beq_iff_eq.2 h1
          have HY : Hid (trL (btL (x.extract 1 x.size)) = R) := Lib.hid (by rw [← HX.out, HF.out, trL_cons (by rw [h1]; rfl)])
          go_wp2
          go_round
          case rel => exact ⟨_, rfl, by omega, HY⟩
          case measure => show (x.extract 1 x.size).size < x.size; omega
        · have e1 : (c == 32) = false := beq_eq_false_iff_ne.2 h1
          by_cases h2 : c = 9
          · have e2 : (c == 9) = true := beq_iff_eq.2 h2
            have HY : Hid (trL (btL (x.extract 1 x.size)) = R) := Lib.hid (by rw [← HX.out, HF.out, trL_cons (by rw [h2]; rfl)])
            go_wp2
            go_round
            case rel => exact ⟨_, rfl, by omega, HY⟩
            case measure => show (x.extract 1 x.size).size < x.size; omega
          · have e2 : (c == 9) = false := beq_eq_false_iff_ne.2 h2
            have HY : Hid (rdw (btL x) = R) := Lib.hid (by
              rw [← HX.out, trL_comm, HF.out, List.dropWhile_cons, if_neg]
              unfold blI
              simp [h1, h2])
            go_wp2
            go_meet
            exact ⟨x, rfl, hx, HY, rfl⟩
      · have d0 : decide ((0 : Int) < (x.size : Int)) = false := decide_eq_false (by omega)
        have d0' : decide (0 < x.size) = false := decide_eq_false h0
        have HY : Hid (rdw (btL x) = R) := Lib.hid (by
          have hl := btL_length x
          have : btL x = [] := List.eq_nil_of_length_eq_zero (by omega)
          rw [← HX.out, this]
          rfl)
        go_wp2
        go_meet
        exact ⟨x, rfl, hx, HY, rfl⟩
  case rest =>
    obtain ⟨x0, rfl, hx0, HX0, rfl⟩ := hcut
    go_wp2
    go_loop [0] (fun v => ∃ x, v = .string x ∧ x.size ≤ 1000000000000000 ∧ Hid (rdw (btL x) = R)) (fun v => strN v)
    case atStart => exact ⟨x0, rfl, hx0, HX0⟩
    case round =>
      clear HX0
      obtain ⟨x, rfl, hx, HX⟩ := hrel
      by_cases h0 : 0 < x.size
      · have d0 : decide ((0 : Int) < (x.size : Int)) = true := decide_eq_true (by omega)
        have d0' : decide (0 < x.size) = true := decide_eq_true h0
        obtain ⟨k, hk⟩ : ∃ k, x.size = k + 1 := ⟨x.size - 1, by omega⟩
        obtain ⟨c, hc⟩ : ∃ c : Int, ((x[k]'(by omega)).toNat : Int) = c := ⟨_, rfl⟩
        have HF : Hid (btL x = btL (x.extract 0 k) ++ [c]) := Lib.hid (by rw [← hc]; exact ln_last x k hk)
        have hz : (x.extract 0 k).size = k := by simp; omega
        by_cases h1 : c = 32
        · have e1 : (c == 32) = true := beq_iff_eq.2 h1
          have HY : Hid (rdw (btL (x.extract 0 k)) = R) := Lib.hid (by rw [← HX.out, HF.out, rdw_snoc, if_pos (by rw [h1]; rfl)])
          go_wp2
          go_round
          case rel => exact ⟨_, rfl, by omega, HY⟩
          case measure => show (x.extract 0 k).size < x.size; omega
        · have e1 : (c == 32) = false := beq_eq_false_iff_ne.2 h1
          by_cases h2 : c = 9
          · have e2 : (c == 9) = true := beq_iff_eq.2 h2
            have HY : Hid (rdw (btL (x.extract 0 k)) = R) := Lib.hid (by rw [← HX.out, HF.out, rdw_snoc, if_pos (by rw [h2]; rfl)])
            go_wp2
            go_round
            case rel => exact ⟨_, rfl, by omega, HY⟩
            case measure => show (x.extract 0 k).size < x.size; omega
          · have e2 : (c == 9) = false := beq_eq_false_iff_ne.2 h2
            have HY : Hid (x = strL R) := Lib.hid (by
              rw [← HX.out, HF.out, rdw_snoc, if_neg, ← HF.out, strL_btL]
              unfold blI
              simp [h1, h2])
            go_wp2
            go_ret
            exact ⟨by rw [← HY.out]; rfl, rfl⟩
      · have d0 : decide ((0 : Int) < (x.size : Int)) = false := decide_eq_false (by omega)
        have d0' : decide (0 < x.size) = false := decide_eq_false h0
        have HY : Hid (x = strL R) := Lib.hid (by
          have hl := btL_length x
          have : btL x = [] := List.eq_nil_of_length_eq_zero (by omega)
          rw [← HX.out, this, show rdw [] = [] from rfl, ← this, strL_btL])
        go_wp2
        go_ret
        exact ⟨by rw [← HY.out]; rfl, rfl⟩
theorem fi_take (c : Int) : ∀ (l : List Int) (k : Nat), k ≤ l.length → fi c (l.take k) = min (fi c l) k
  | l, 0, h => by simp [fi]
  | [], k + 1, h => by simp at h
  | x :: t, k + 1, h => by
    rw [List.take_succ_cons]
    unfold fi
    split
    · simp
    · rw [fi_take c t k (by simpa using h)]
      omega
/-- Where the loop that looks for the signs stands. -/
structure SyP (l : List Int) (k : Nat) (a : Int) : Prop where
  hash : fi 35 l = k + fi 35 (l.drop k)
  col : (a = -1 ∧ fi 58 l = k + fi 58 (l.drop k)) ∨ (∃ j : Nat, a = (j : Int) ∧ j < k ∧ fi 58 l = j)
def RsayP (o : Option (List Int × List Int)) (w : World) (e : Ending) (w' : World) : Prop := ∃ k v : ByteArray, e = .returned (.tuple #[.agg #[.string k, .string v], .bool o.isSome]) ∧ Below w.heap.size w w' ∧ ∀ y, o = some y → k = strL y.1 ∧ v = strL y.2
set_option maxHeartbeats 2000000 in
theorem rsay_at (s : ByteArray) (hs : s.size ≤ 1000000000000000) (o : Option (List Int × List Int)) (ho : sayL (btL s) = o) (w : World) :
    Calls Tryz.prog 36 #[.string s] w (RsayP o w) := by
  have hl := btL_length s
  have hb0 := btL_byts s
  obtain ⟨l, hll⟩ : ∃ l, btL s = l := ⟨_, rfl⟩
  have HLL := Lib.hid hll
  rw [hll] at ho hl hb0
  have HO := Lib.hid ho
  have HL := Lib.hid hl
  have HB := Lib.hid hb0
  obtain ⟨g, hg⟩ : ∃ g, w.heap.size = g := ⟨_, rfl⟩
  clear ho hl hll hb0
  go_enter Tryz.func36, Tryz.ntmps36
  go_upto_region 1 with fail
  refine code_forget (fun wx => Hid (Box wx g #[.string ⟨#[]⟩, .string ⟨#[]⟩] 62) ∧ Hid (Below w.heap.size w wx)) ⟨Lib.hid (ln_box hg.symm), Lib.hid ((Below.refl _ _).alloc (Nat.le_refl _) _)⟩ ?_
  have HG : Hid (w.heap.size ≤ g) := Lib.hid (Nat.le_of_eq hg)
  clear hg
  rintro w1 ⟨X1, B1⟩
  go_upto_block 0 with fail
  go_cut [4, 5] (fun e a wx => ∃ (E : Nat) (av : Int), e = .int .i64 (E : Int) ∧ a = .int .i64 av ∧ Hid (E = fi 35 l) ∧ Hid (av = if fi 58 (l.take (fi 35 l)) < (l.take (fi 35 l)).length then (fi 58 (l.take (fi 35 l)) : Int) else -1) ∧ wx = w1)
  case first =>
    go_wp2
    go_loop [4, 5, 6] (fun e a i => ∃ (k : Nat) (av : Int), e = .int .i64 (s.size : Int) ∧ a = .int .i64 av ∧ i = .int .i64 (k : Int) ∧ k ≤ s.size ∧ -1 ≤ av ∧ av < 1000000000000000 ∧ Hid (SyP l k av)) (fun _ _ i => s.size - (intOf i).toNat)
    case atStart => exact ⟨0, -1, rfl, rfl, rfl, by omega, by omega, by omega, Lib.hid ⟨by simp, Or.inl ⟨rfl, by simp⟩⟩⟩
    case round =>
      obtain ⟨k, av, rfl, rfl, rfl, hk, av0, av1, HP⟩ := hrel
      by_cases hlt : k < s.size
      · have hkd : decide ((k : Int) < (s.size : Int)) = true := decide_eq_true (by omega)
        have hkd' : decide (k < s.size) = true := decide_eq_true hlt
        obtain ⟨c, hc⟩ : ∃ c : Int, (s[k].toNat : Int) = c := ⟨_, rfl⟩
        have HC : Hid (l[k]? = some c) := Lib.hid (by rw [← HLL.out, ln_at s k hlt, hc])
        by_cases h35 : c = 35
        · have d1 : (c == 35) = true := beq_iff_eq.2 h35
          have HE : Hid (k = fi 35 l) := Lib.hid (by rw [HP.out.hash, fi_drop HC.out, if_pos h35]; rfl)
          have HA : Hid (av = if fi 58 (l.take (fi 35 l)) < (l.take (fi 35 l)).length then (fi 58 (l.take (fi 35 l)) : Int) else -1) := Lib.hid (by
            rw [← HE.out, fi_take _ _ _ (by have := HL.out; omega), List.length_take]
            have hh := HL.out
            rcases HP.out.col with ⟨e1, e2⟩ | ⟨j, e1, e2, e3⟩
            · rw [if_neg (by omega), e1]
            · rw [if_pos (by omega), e1, e3]
              omega)
          go_wp2
          go_meet
          exact ⟨k, av, rfl, rfl, HE, HA, rfl⟩
        · have d1 : (c == 35) = false := beq_eq_false_iff_ne.2 h35
          have HH : Hid (fi 35 l = k + 1 + fi 35 (l.drop (k + 1))) := Lib.hid (by rw [HP.out.hash, fi_drop HC.out, if_neg h35]; omega)
          by_cases h58 : c = 58
          · have d2 : (c == 58) = true := beq_iff_eq.2 h58
            by_cases hav : av < 0
            · have d3 : decide (av < 0) = true := decide_eq_true hav
              have HN : Hid (SyP l (k + 1) (k : Int)) := Lib.hid ⟨HH.out, Or.inr ⟨k, rfl, by omega, by
                rcases HP.out.col with ⟨e1, e2⟩ | ⟨j, e1, e2, e3⟩
                · rw [e2, fi_drop HC.out, if_pos h58]; rfl
                · omega⟩⟩
              go_wp2
              go_round
              case rel => exact ⟨k + 1, (k : Int), rfl, rfl, by go_num, by omega, by omega, by omega, HN⟩
              case measure => simp [intOf]; omega
            · have d3 : decide (av < 0) = false := decide_eq_false hav
              have HN : Hid (SyP l (k + 1) av) := Lib.hid ⟨HH.out, by
                rcases HP.out.col with ⟨e1, e2⟩ | ⟨j, e1, e2, e3⟩
                · omega
                · exact Or.inr ⟨j, e1, by omega, e3⟩⟩
              go_wp2
              go_round
              case rel => exact ⟨k + 1, av, rfl, rfl, by go_num, by omega, by omega, by omega, HN⟩
              case measure => simp [intOf]; omega
          · have d2 : (c == 58) = false := beq_eq_false_iff_ne.2 h58
            have HN : Hid (SyP l (k + 1) av) := Lib.hid ⟨HH.out, by
                rcases HP.out.col with ⟨e1, e2⟩ | ⟨j, e1, e2, e3⟩
                · exact Or.inl ⟨e1, by rw [e2, fi_drop HC.out, if_neg h58]; omega⟩
                · exact Or.inr ⟨j, e1, by omega, e3⟩⟩
            go_wp2
            go_round
            case rel => exact ⟨k + 1, av, rfl, rfl, by go_num, by omega, by omega, by omega, HN⟩
            case measure => simp [intOf]; omega
      · have hkd : decide ((k : Int) < (s.size : Int)) = false := decide_eq_false (by omega)
        have hkd' : decide (k < s.size) = false := decide_eq_false hlt
        have HE : Hid (s.size = fi 35 l) := Lib.hid (by
          have h1 := HP.out.hash
          have hh := HL.out
          rw [List.drop_eq_nil_of_le (by omega)] at h1
          rw [h1]
          show s.size = k + 0
          omega)
        have HA : Hid (av = if fi 58 (l.take (fi 35 l)) < (l.take (fi 35 l)).length then (fi 58 (l.take (fi 35 l)) : Int) else -1) := Lib.hid (by
            have hh := HL.out
            rw [← HE.out, List.take_of_length_le (by omega), hh]
            rcases HP.out.col with ⟨e1, e2⟩ | ⟨j, e1, e2, e3⟩
            · rw [List.drop_eq_nil_of_le (by omega)] at e2
              have : fi 58 ([] : List Int) = 0 := rfl
              rw [if_neg (by omega), e1]
            · rw [if_pos (by omega), e1, e3])
        go_wp2
        go_meet
        exact ⟨s.size, av, rfl, rfl, HE, HA, rfl⟩
  case rest =>
    obtain ⟨E, av, rfl, rfl, HE, HA, rfl⟩ := hcut
    have gl := X1.out.lt
    have f0 := X1.out.free 0
    have f1 := X1.out.free 1
    have z0 := X1.out.cell 0
    have z1 := X1.out.cell 1
    simp only [List.getElem?_toArray, List.getElem?_cons_zero, List.getElem?_cons_succ] at z0 z1
    by_cases hA : fi 58 (l.take (fi 35 l)) < (l.take (fi 35 l)).length
    · have ho := HO.out
      unfold sayL at ho
      rw [if_pos hA] at ho
      have ha := HA.out
      rw [if_pos hA] at ha
      obtain ⟨A, hAA⟩ : ∃ A, fi 58 (l.take (fi 35 l)) = A := ⟨_, rfl⟩
      rw [hAA] at ho ha hA
      rw [← HE.out] at ho hA
      have hE1 : E ≤ s.size := by have := fi_le 35 l; have := HL.out; have := HE.out; omega
      rw [List.length_take] at hA
      have hA1 : A < E := by omega
      have hx1 : btL (s.extract 0 A) = (l.take E).take A := by rw [ln_extract, HLL.out, List.drop_zero, List.take_take, Nat.min_eq_left (by omega), Nat.sub_zero]
      have hx2 : btL (s.extract (A + 1) E) = (l.take E).drop (A + 1) := by rw [ln_extract, HLL.out, List.drop_take]
      have T1 := Lib.hid (fun W => rtrim_at (s.extract 0 A) _ rfl (by simp; omega) W)
      have T2 := Lib.hid (fun W => rtrim_at (s.extract (A + 1) E) _ rfl (by simp; omega) W)
      rw [hx1] at T1
      rw [hx2] at T2
      obtain ⟨K, hK⟩ : ∃ K, trL ((l.take E).take A) = K := ⟨_, rfl⟩
      obtain ⟨V, hV⟩ : ∃ V, trL ((l.take E).drop (A + 1)) = V := ⟨_, rfl⟩
      have bK : Byts K := by rw [← hK]; exact ((HB.out.take _).take _).tr
      have lK : K.length ≤ 1000000000000000 := by rw [← hK]; have := trL_len ((l.take E).take A); rw [List.length_take, List.length_take] at this; omega
      rw [hK] at T1 ho
      rw [hV] at T2 ho
      obtain ⟨k2, hk2⟩ : ∃ t, strL K = t := ⟨_, rfl⟩
      obtain ⟨v2, hv2⟩ : ∃ t, strL V = t := ⟨_, rfl⟩
      have bk2 : btL k2 = K := by rw [← hk2, btL_strL bK]
      rw [hk2] at T1
      rw [hv2] at T2
      obtain ⟨k3, hk3⟩ : ∃ t, strL (K.map lwI) = t := ⟨_, rfl⟩
      have LW := Lib.hid (fun W : World => rlower_at k2 k3 (by unfold lowB; rw [bk2]; exact hk3) (by rw [← hk2, strL_size]; exact lK) W)
      obtain ⟨em, hem⟩ : ∃ b, k3.toList.isEmpty = b := ⟨_, rfl⟩
      have hem2 : em = decide (K = []) := by
        rw [← hem, Lib.toList_data, ← hk3]
        show ((K.map lwI).map fun z => UInt8.ofNat z.toNat).isEmpty = _
        cases K with
        | nil => rfl
        | cons x t => rfl
      have HW : Hid (o.isSome = !em ∧ ∀ y, o = some y → k3 = strL y.1 ∧ v2 = strL y.2) := Lib.hid (by
        rw [← ho, hem2]
        by_cases h : K = []
        · rw [if_pos h]
          exact ⟨by simp [h], fun y hy => by cases hy⟩
        · rw [if_neg h]
          refine ⟨by simp [h], fun y hy => ?_⟩
          injection hy with hy
          rw [← hy]
          exact ⟨hk3.symm, hv2.symm⟩)
      have d0 : decide ((A : Int) < 0) = false := decide_eq_false (by omega)
      have a0 : (0 : Int) ≤ (A : Int) := by omega
      subst ha
      clear ho hAA hx1 hx2 hK hV bK lK hk2 hv2 bk2 hk3 hem2 HA HO HE hA
      go_wp2_with fail
      refine (T1.out _).mono ?_
      rintro e wx ⟨rfl, hw⟩
      subst wx
      go_wp2_with fail
      refine (LW.out _).mono ?_
      rintro e w2 ⟨rfl, hb⟩
      have X2 := Lib.hid (X1.out.later hb)
      have B2 := Lib.hid (B1.out.trans (hb.mono B1.out.size))
      clear hb X1 B1 gl f0 f1 z0 z1
      have gl := X2.out.lt
      have f0 := X2.out.free 0
      have f1 := X2.out.free 1
      have z0 := X2.out.cell 0
      have z1 := X2.out.cell 1
      simp only [List.getElem?_toArray, List.getElem?_cons_zero, List.getElem?_cons_succ] at z0 z1
      go_wp2_with fail
      refine (T2.out _).mono ?_
      rintro e wx ⟨rfl, hw⟩
      subst wx
      go_wp2
      exact bodyPost_ret (v := .tuple #[.agg #[.string k3, .string v2], .bool (!em)]) (by simp [results, Tryz.results36, go_sem, z0, z1, f0, f1, gl]) rfl ⟨k3, v2, by rw [HW.out.1], (B2.out.setCell (p := ⟨g, 0, none⟩) HG.out _).setCell (p := ⟨g, 1, none⟩) HG.out _, HW.out.2⟩
    · have ho := HO.out
      unfold sayL at ho
      rw [if_neg hA] at ho
      have ha := HA.out
      rw [if_neg hA] at ha
      subst ha
      subst ho
      go_wp2
      exact bodyPost_ret (v := .tuple #[.agg #[.string ⟨#[]⟩, .string ⟨#[]⟩], .bool false]) (by simp [results, Tryz.results36, go_sem, z0, z1, f0, f1, gl]) rfl ⟨⟨#[]⟩, ⟨#[]⟩, rfl, (B1.out.setCell (p := ⟨g, 0, none⟩) HG.out _).setCell (p := ⟨g, 1, none⟩) HG.out _, fun y hy => by cases hy⟩
end Go.Proofs.YtodlecjbpmggiaaGreatDoor
