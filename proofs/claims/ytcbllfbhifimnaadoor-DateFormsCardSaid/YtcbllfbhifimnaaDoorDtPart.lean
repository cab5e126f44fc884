/- The parts of a second text, as the document takes them. No program here. -/
import Derived.Test.YtcbllfbhifimnaaDoorDtForm
import Derived.Test.YtcbllfbhifimnaaDoorDtClkd
namespace Go.Proofs.YtcbllfbhifimnaaDoor
open Go.RowKit
set_option linter.unusedVariables false
set_option linter.unusedSimpArgs false
set_option maxRecDepth 10000

theorem btL_cutB (s : ByteArray) (a b : Nat) (h : a ≤ b) : btL (cutB s a b) = ((btL s).drop a).take (b - a) := by
  have hl := btL_length s
  unfold cutB
  split
  · rw [List.drop_eq_nil_of_le (by omega)]
    simp
    rfl
  · split
    · rw [btD_extract, List.take_of_length_le (by rw [List.length_drop]; omega), List.take_of_length_le (by rw [List.length_drop]; omega)]
    · rw [btD_extract]
theorem mid_cut {s : ByteArray} {l1 mid rest : List Int} (h : btL s = l1 ++ (mid ++ rest)) (a b : Nat) (ha : l1.length = a) (hb : a + mid.length = b) : btL (cutB s a b) = mid := by
  rw [btL_cutB s a b (by omega), h, List.drop_left' ha, List.take_left' (by omega)]
theorem rnumI_pad (v : Int) (h0 : 0 ≤ v) (h1 : v < 100) : rnumI (padN 2 v.toNat) = v := by
  unfold rnumI
  rw [if_neg (by rw [pad2_is]; simp), digS_pad 2 v.toNat (by show v.toNat < 100; omega)]
  show ((v.toNat : Nat) : Int) = v
  omega
/-- A second text behind the name of its day. -/
def tailL (m : Mo) : List Int := [44, 32] ++ padN 2 m.d.toNat ++ [45] ++ monN.getD (m.mo - 1).toNat [] ++ [45] ++ padN 2 (m.y % 100).toNat ++ [32] ++ clkL m ++ [32, 71, 77, 84]
theorem second_tail (m : Mo) : secondL m = dayN.getD m.wd.toNat [] ++ tailL m := by
  unfold secondL tailL
  simp only [List.append_assoc]
theorem tail_cut {m : Mo} (hm : MoOk m) {x : ByteArray} (hx : btL x = secondL m) (k : Nat) (hk : k = (dayN.getD m.wd.toNat []).length) : btL (cutB x k x.size) = tailL m := by
  have hl := btL_length x
  rw [hx, second_tail, List.length_append] at hl
  exact mid_cut (rest := []) (by rw [hx, second_tail, List.append_nil]) k x.size hk.symm (by omega)
theorem tail_parts {m : Mo} (hm : MoOk m) {t : ByteArray} (ht : btL t = tailL m) :
    btL (cutB t 9 11) = padN 2 (m.y % 100).toNat ∧ btL (cutB t 5 8) = monN.getD (m.mo - 1).toNat [] ∧ btL (cutB t 2 4) = padN 2 m.d.toNat ∧ btL (cutB t 12 20) = clkL m := by
  have lm := (monN_len m.mo hm.mo.1 hm.mo.2).1
  unfold tailL at ht
  refine ⟨?_, ?_, ?_, ?_⟩
  · exact mid_cut (l1 := [44, 32] ++ padN 2 m.d.toNat ++ [45] ++ monN.getD (m.mo - 1).toNat [] ++ [45]) (rest := [32] ++ clkL m ++ [32, 71, 77, 84]) (by rw [ht]; simp only [List.append_assoc]) 9 11 (by simp only [List.length_append, padN_len, lm, List.length_cons, List.length_nil]) (by rw [padN_len])
  · exact mid_cut (l1 := [44, 32] ++ padN 2 m.d.toNat ++ [45]) (rest := [45] ++ padN 2 (m.y % 100).toNat ++ [32] ++ clkL m ++ [32, 71, 77, 84]) (by rw [ht]; simp only [List.append_assoc]) 5 8 (by simp only [List.length_append, padN_len, List.length_cons, List.length_nil]) (by rw [lm])
  · exact mid_cut (l1 := [44, 32]) (rest := [45] ++ monN.getD (m.mo - 1).toNat [] ++ [45] ++ padN 2 (m.y % 100).toNat ++ [32] ++ clkL m ++ [32, 71, 77, 84]) (by rw [ht]; simp only [List.append_assoc]) 2 4 rfl (by rw [padN_len])
  · exact mid_cut (l1 := [44, 32] ++ padN 2 m.d.toNat ++ [45] ++ monN.getD (m.mo - 1).toNat [] ++ [45] ++ padN 2 (m.y % 100).toNat ++ [32]) (rest := [32, 71, 77, 84]) (by rw [ht]; simp only [List.append_assoc]) 12 20 (by simp only [List.length_append, padN_len, lm, List.length_cons, List.length_nil]) (by unfold clkL; simp only [List.length_append, padN_len, List.length_cons, List.length_nil])
theorem clk_parts {m : Mo} (hm : ClkOk m) {c : ByteArray} (hc : btL c = clkL m) : rnumI (btL (cutB c 0 2)) = m.h ∧ rnumI (btL (cutB c 3 5)) = m.mi ∧ rnumI (btL (cutB c 6 8)) = m.s := by
  have b1 := hm.h
  have b2 := hm.mi
  have b3 := hm.s
  unfold clkL at hc
  refine ⟨?_, ?_, ?_⟩
  · rw [mid_cut (s := c) (l1 := []) (mid := padN 2 m.h.toNat) (rest := [58] ++ padN 2 m.mi.toNat ++ [58] ++ padN 2 m.s.toNat) (by rw [hc]; simp only [List.append_assoc, List.nil_append]) 0 2 rfl (by rw [padN_len])]
    exact rnumI_pad _ (by omega) (by omega)
  · rw [mid_cut (s := c) (l1 := padN 2 m.h.toNat ++ [58]) (mid := padN 2 m.mi.toNat) (rest := [58] ++ padN 2 m.s.toNat) (by rw [hc]; simp only [List.append_assoc]) 3 5 (by simp only [List.length_append, padN_len, List.length_cons, List.length_nil]) (by rw [padN_len])]
    exact rnumI_pad _ (by omega) (by omega)
  · rw [mid_cut (s := c) (l1 := padN 2 m.h.toNat ++ [58] ++ padN 2 m.mi.toNat ++ [58]) (mid := padN 2 m.s.toNat) (rest := []) (by rw [hc]; simp only [List.append_assoc, List.append_nil]) 6 8 (by simp only [List.length_append, padN_len, List.length_cons, List.length_nil]) (by rw [padN_len])]
    exact rnumI_pad _ (by omega) (by omega)
/-- Where the comma stands. -/
theorem second_comma {m : Mo} (hm : MoOk m) : (∀ j, j < (dayN.getD m.wd.toNat []).length → (secondL m)[j]? ≠ some 44) ∧ (secondL m)[(dayN.getD m.wd.toNat []).length]? = some 44 := by
  have hd := (dayN_len m.wd hm.wd.1 hm.wd.2).2.2.2
  constructor
  · intro j hj e
    rw [second_tail, List.getElem?_append_left hj] at e
    exact hd (List.mem_of_getElem? e)
  · rw [second_tail, List.getElem?_append_right (Nat.le_refl _), Nat.sub_self]
    rfl
end Go.Proofs.YtcbllfbhifimnaaDoor
