/- The document's small letters, blanks taken off, what a line says. -/
import Derived.Test.YtodlecjbpmggiaaDoorLnFn
import Derived.BigQuiet
import Derived.Deep.QuietTactic
import Derived.Deep.RegionWith
import Derived.Deep.Cut
import Derived.Deep.CutRange
import Derived.Deep.CutBlock
import Derived.Deep.DeepCutAuto
namespace Go.Proofs.YtodlecjbpmggiaaDoor
open Go.RowKit
set_option linter.unusedVariables false
set_option linter.unusedSimpArgs false
set_option maxRecDepth 10000

set_option maxHeartbeats 2000000 in
theorem rlower_at (s t : ByteArray) (ht : lowB s = t) (hs : s.size ≤ 1000000000000000) (w : World) :
    Calls Tryd.prog 16 #[.string s] w fun e w' => e = .returned (.string t) ∧ Below w.heap.size w w' := by
  have HT := Lib.hid ht
  obtain ⟨l, hl⟩ : ∃ l, btL s = l := ⟨_, rfl⟩
  have hll : l.length = s.size := by rw [← hl, btL_length]
  have HB : Hid (Byts l) := Lib.hid (by rw [← hl]; exact btL_byts s)
  have HL := Lib.hid hl
  have HLL := Lib.hid hll
  have hcv := run_bytes_of_string (P := Tryd.prog) w 9 55 5 s Tryd.underlying9 Tryd.underlying55 Tryd.underlying5
  obtain ⟨cap, hcap⟩ : ∃ c, grownCap w s.size 0 5 = c := ⟨_, rfl⟩
  rw [hcap] at hcv
  clear ht hll hcap
  go_enter Tryd.func16, Tryd.ntmps16
  go_upto_region 2 with fail
  refine code_forget (fun w1 => Hid (ByAt w1 w.heap.size l) ∧ Hid (Below w.heap.size w w1)) ⟨Lib.hid (by rw [← hl]; exact ByAt.new w.drew s cap _), Lib.hid ((Below.refl _ _).drew.alloc (Nat.le_refl _) _)⟩ ?_
  rintro w1 ⟨b1, l1⟩
  clear hcv hl
  go_wp2_with fail
  go_loopw [4] (fun i wr => ∃ k : Nat, k ≤ s.size ∧ i = .int .i64 k ∧ Hid (ByAt wr w.heap.size (mixL l k)) ∧ Hid (Below w.heap.size w wr)) (fun i _ => s.size - (intOf i).toNat)
  case atStart => exact ⟨0, Nat.zero_le _, rfl, b1, l1⟩
  case round =>
    clear b1 l1
    obtain ⟨k, hk, rfl, HW, BR⟩ := hrel
    by_cases hlt : k < s.size
    · have hkd : decide ((k : Int) < (s.size : Int)) = true := decide_eq_true (by omega)
      obtain ⟨c, hc⟩ : ∃ c, l[k]? = some c := ⟨l[k]'(by have := HLL.out; omega), List.getElem?_eq_getElem _⟩
      have c0 := HW.out.cell k c (mixL_get hc)
      have fr := HW.out.free k (by rw [mixL_len, HLL.out]; exact hlt)
      have lt := HW.out.lt
      have hb := HB.out c (List.mem_of_getElem? hc)
      by_cases h1 : 65 ≤ c
      · have d1 : decide ((65 : Int) ≤ c) = true := decide_eq_true h1
        by_cases h2 : c ≤ 90
        · have d2 : decide (c ≤ (90 : Int)) = true := decide_eq_true h2
          skip
          have e2 : IntKind.u8.wrap (c + 32) = c + 32 := by rw [IntKind.wrap_u8]; omega
          have W2 : Hid (ByAt (wr.setCell ⟨w.heap.size, k, none⟩ (.int .u8 (c + 32))) w.heap.size (mixL l (k + 1))) := Lib.hid (by
            have := HW.out.set k (c + 32)
            rw [show c + 32 = lwI c from by unfold lwI; rw [if_pos ⟨h1, h2⟩]] at this ⊢
            rwa [mixL_next hc] at this)
          have B2 := Lib.hid (BR.out.setCell (p := ⟨w.heap.size, k, none⟩) (show w.heap.size ≤ w.heap.size from Nat.le_refl _) (.int .u8 (c + 32)))
          clear hc
          go_wp2
          go_roundw
          case rel => exact ⟨k + 1, by omega, by go_num, W2, B2⟩
          case measure => simp [intOf]; omega
        · have d2 : decide (c ≤ (90 : Int)) = false := decide_eq_false h2
          have W2 : Hid (ByAt wr w.heap.size (mixL l (k + 1))) := Lib.hid (by rw [← mixL_same hc (by unfold lwI; rw [if_neg (by omega)])]; exact HW.out)
          clear hc
          go_wp2
          go_roundw
          case rel => exact ⟨k + 1, by omega, by go_num, W2, BR⟩
          case measure => simp [intOf]; omega
      · have d1 : decide ((65 : Int) ≤ c) = false := decide_eq_false h1
        have W2 : Hid (ByAt wr w.heap.size (mixL l (k + 1))) := Lib.hid (by rw [← mixL_same hc (by unfold lwI; rw [if_neg (by omega)])]; exact HW.out)
        clear hc
        go_wp2
        go_roundw
        case rel => exact ⟨k + 1, by omega, by go_num, W2, BR⟩
        case measure => simp [intOf]; omega
    · have hkd : decide ((k : Int) < (s.size : Int)) = false := decide_eq_false (by omega)
      have hrd := HW.out.rd
      rw [mixL_all l k (by have := HLL.out; omega)] at hrd
      have hcv := hrd.text (P := Tryd.prog) 55 5 9 Tryd.underlying55 Tryd.underlying5 Tryd.underlying9 (fun _ => Or.inr ⟨_, _, rfl⟩) cap
      rw [List.length_map, HLL.out, show strL (l.map lwI) = t from by rw [← HT.out, ← HL.out]; rfl] at hcv
      clear hrd
      go_wp2
      go_ret
      exact ⟨rfl, BR.out⟩

def strN : Value → Nat
  | .string x => x.size
  | _ => 0
theorem ln_first (x : ByteArray) (h : 0 < x.size) : btL x = (x[0].toNat : Int) :: btL (x.extract 1 x.size) := by
  have h1 := ln_cons x 0 h
  rw [List.drop_zero] at h1
  rw [ln_extract, List.take_of_length_le (by rw [List.length_drop, btL_length]; omega)]
  exact h1
theorem ln_last (x : ByteArray) (k : Nat) (h : x.size = k + 1) : btL x = btL (x.extract 0 k) ++ [((x[k]'(by omega)).toNat : Int)] := by
  have h1 := ln_take x k (by omega)
  rw [List.take_of_length_le (by rw [btL_length]; omega)] at h1
  rw [ln_extract, List.drop_zero, Nat.sub_zero]
  exact h1
theorem trL_cons {c : Int} {t : List Int} (h : blI c = true) : trL (c :: t) = trL t := by
  rw [trL_comm, trL_comm, List.dropWhile_cons, if_pos h]
theorem fi_take (c : Int) : ∀ (l : List Int) (k : Nat), k ≤ l.length → fi c (l.take k) = min (fi c l) k
  | l, 0, h => by simp [fi]
  | [], k + 1, h => by simp at h
  | x :: t, k + 1, h => by
    rw [List.take_succ_cons]
    unfold fi
    split
    · simp
    · rw [fi_take c t k (by simpa using h)]
      omega
/-- Where the loop that looks for the signs stands. -/
structure SyP (l : List Int) (k : Nat) (a : Int) : Prop where
  hash : fi 35 l = k + fi 35 (l.drop k)
  col : (a = -1 ∧ fi 58 l = k + fi 58 (l.drop k)) ∨ (∃ j : Nat, a = (j : Int) ∧ j < k ∧ fi 58 l = j)
def RsayP (o : Option (List Int × List Int)) (w : World) (e : Ending) (w' : World) : Prop := ∃ k v : ByteArray, e = .returned (.tuple #[.agg #[.string k, .string v], .bool o.isSome]) ∧ Below w.heap.size w w' ∧ ∀ y, o = some y → k = strL y.1 ∧ v = strL y.2
end Go.Proofs.YtodlecjbpmggiaaDoor
