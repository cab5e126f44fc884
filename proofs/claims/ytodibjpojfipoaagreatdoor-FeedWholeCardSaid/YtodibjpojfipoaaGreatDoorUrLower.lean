/- Small letters: the program's and the document's. -/
import Derived.Test.YtodibjpojfipoaaGreatDoorChecked
import Derived.Test.YtodibjpojfipoaaGreatDoorUrLow
import Derived.Test.YtodibjpojfipoaaGreatDoorForget
import Derived.BigQuiet
import Derived.Deep.QuietTactic
import Derived.Deep.RegionWith
import Derived.Deep.Cut
import Derived.Deep.CutRange
import Derived.Deep.DeepCutAuto
namespace Go.Proofs.YtodibjpojfipoaaGreatDoor
open Go.RowKit
set_option linter.unusedVariables false
set_option linter.unusedSimpArgs false
set_option maxRecDepth 10000

def mixL (l : List Int) (k : Nat) : List Int := (l.take k).map lwI ++ l.drop k
theorem mixL_get {l : List Int} {k : Nat} {c : Int} (h : l[k]? = some c) : (mixL l k)[k]? = some c := by
  have hk := (List.getElem?_eq_some_iff.1 h).1
  unfold mixL
  rw [List.getElem?_append_right (by simp; omega), List.length_map, List.length_take, Nat.min_eq_left (by omega), Nat.sub_self, List.getElem?_drop, Nat.add_zero]
  exact h
theorem mixL_next {l : List Int} {k : Nat} {c : Int} (h : l[k]? = some c) : (mixL l k).set k (lwI c) = mixL l (k + 1) := by
  obtain ⟨hk, he⟩ := List.getElem?_eq_some_iff.1 h
  unfold mixL
  rw [List.set_append_right _ _ (by simp; omega), List.length_map, List.length_take, Nat.min_eq_left (by omega), Nat.sub_self, List.drop_eq_getElem_cons hk, List.set_cons_zero, List.take_succ_eq_append_getElem hk, List.map_append, he, List.append_assoc]
  rfl
theorem mixL_same {l : List Int} {k : Nat} {c : Int} (h : l[k]? = some c) (hc : lwI c = c) : mixL l k = mixL l (k + 1) := by
  rw [← mixL_next h, hc]
  obtain ⟨h1, h2⟩ := List.getElem?_eq_some_iff.1 (mixL_get h)
  have h3 := List.set_getElem_self h1
  rw [h2] at h3
  exact h3.symm
theorem mixL_len (l : List Int) (k : Nat) : (mixL l k).length = l.length := by
  unfold mixL
  simp
  omega
theorem mixL_all (l : List Int) (k : Nat) (h : l.length ≤ k) : mixL l k = l.map lwI := by
  unfold mixL
  rw [List.take_of_length_le h, List.drop_eq_nil_of_le h, List.append_nil]
set_option maxHeartbeats 2000000 in
theorem lower_at (s t : ByteArray) (ht : lowB s = t) (hs : s.size ≤ 1000000000000000) (w : World) :
    Calls Tryz.prog 60 #[.string s] w fun e w' => e = .returned (.string t) ∧ Below w.heap.size w w' := by
  have HT := Lib.hid ht
  obtain ⟨l, hl⟩ : ∃ l, btL s = l := ⟨_, rfl⟩
  have hll : l.length = s.size := by rw [← hl, btL_length]
  have HB : Hid (Byts l) := Lib.hid (by rw [← hl]; exact btL_byts s)
  have HL := Lib.hid hl
  have HLL := Lib.hid hll
  have hcv := run_bytes_of_string (P := Tryz.prog) w 9 78 5 s Tryz.underlying9 Tryz.underlying78 Tryz.underlying5
  obtain ⟨cap, hcap⟩ : ∃ c, grownCap w s.size 0 5 = c := ⟨_, rfl⟩
  rw [hcap] at hcv
  clear ht hll hcap
  go_enter Tryz.func60, Tryz.ntmps60
  go_upto_region 2 with fail
  refine code_forget (fun w1 => Hid (ByAt w1 w.heap.size l) ∧ Hid (Below w.heap.size w w1)) ⟨Lib.hid (by rw [← hl]; exact ByAt.new w.drew s cap _), Lib.hid ((Below.refl _ _).drew.alloc (Nat.le_refl _) _)⟩ ?_
  rintro w1 ⟨b1, l1⟩
  clear hcv hl
  go_wp2_with fail
  go_loopw [4, 5, 10] (fun _ _ i wr => ∃ k : Nat, k ≤ s.size ∧ i = .int .i64 k ∧ Hid (ByAt wr w.heap.size (mixL l k)) ∧ Hid (Below w.heap.size w wr)) (fun _ _ i _ => s.size - (intOf i).toNat)
  case atStart => exact ⟨0, Nat.zero_le _, rfl, b1, l1⟩
  case round =>
    clear b1 l1
    obtain ⟨k, hk, rfl, HW, BR⟩ := hrel
    by_cases hlt : k < s.size
    · have hkd : decide ((k : Int) < (s.size : Int)) = true := decide_eq_true (by omega)
      obtain ⟨c, hc⟩ : ∃ c, l[k]? = some c := ⟨l[k]'(by have := HLL.out; omega), List.getElem?_eq_getElem _⟩
      have c0 := HW.out.cell k c (mixL_get hc)
      have fr := HW.out.free k (by rw [mixL_len, HLL.out]; exact hlt)
      have lt := HW.out.lt
      have hb := HB.out c (List.mem_of_getElem? hc)
      by_cases h1 : 65 ≤ c
      · have d1 : decide ((65 : Int) ≤ c) = true := decide_eq_true h1
        by_cases h2 : c ≤ 90
        · have d2 : decide (c ≤ (90 : Int)) = true := decide_eq_true h2
          have e1 : IntKind.u8.wrap (c - 65) = c - 65 := by rw [IntKind.wrap_u8]; omega
          have e2 : IntKind.u8.wrap (c - 65 + 97) = c - 65 + 97 := by rw [IntKind.wrap_u8]; omega
          have W2 : Hid (ByAt (wr.setCell ⟨w.heap.size, k, none⟩ (.int .u8 (c - 65 + 97))) w.heap.size (mixL l (k + 1))) := Lib.hid (by
            have := HW.out.set k (c - 65 + 97)
            rw [show c - 65 + 97 = lwI c from by unfold lwI; rw [if_pos ⟨h1, h2⟩]; omega] at this ⊢
            rwa [mixL_next hc] at this)
          have B2 := Lib.hid (BR.out.setCell (p := ⟨w.heap.size, k, none⟩) (show w.heap.size ≤ w.heap.size from Nat.le_refl _) (.int .u8 (c - 65 + 97)))
          clear hc
          go_wp2
          go_roundw
          case rel => exact ⟨k + 1, by omega, by go_num, W2, B2⟩
          case measure => simp [intOf]; omega
        · have d2 : decide (c ≤ (90 : Int)) = false := decide_eq_false h2
          have W2 : Hid (ByAt wr w.heap.size (mixL l (k + 1))) := Lib.hid (by rw [← mixL_same hc (by unfold lwI; rw [if_neg (by omega)])]; exact HW.out)
          clear hc
          go_wp2
          go_roundw
          case rel => exact ⟨k + 1, by omega, by go_num, W2, BR⟩
          case measure => simp [intOf]; omega
      · have d1 : decide ((65 : Int) ≤ c) = false := decide_eq_false h1
        have W2 : Hid (ByAt wr w.heap.size (mixL l (k + 1))) := Lib.hid (by rw [← mixL_same hc (by unfold lwI; rw [if_neg (by omega)])]; exact HW.out)
        clear hc
        go_wp2
        go_roundw
        case rel => exact ⟨k + 1, by omega, by go_num, W2, BR⟩
        case measure => simp [intOf]; omega
    · have hkd : decide ((k : Int) < (s.size : Int)) = false := decide_eq_false (by omega)
      have hrd := HW.out.rd
      rw [mixL_all l k (by have := HLL.out; omega)] at hrd
      have hcv := hrd.text (P := Tryz.prog) 78 5 9 Tryz.underlying78 Tryz.underlying5 Tryz.underlying9 (fun _ => Or.inr ⟨_, _, rfl⟩) cap
      rw [List.length_map, HLL.out, show strL (l.map lwI) = t from by rw [← HT.out, ← HL.out]; rfl] at hcv
      clear hrd
      go_wp2
      go_ret
      exact ⟨rfl, BR.out⟩
end Go.Proofs.YtodibjpojfipoaaGreatDoor
