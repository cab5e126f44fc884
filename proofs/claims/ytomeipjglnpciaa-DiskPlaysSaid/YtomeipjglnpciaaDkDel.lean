/- The library's DeleteFunc over pieces, with the program's own question. -/
import Derived.Test.YtomeipjglnpciaaDkApp
namespace Go.Proofs.Ytomeipjglnpciaa
open Go Go.RowKit Go.Maps
set_option linter.unusedVariables false
set_option linter.unusedSimpArgs false
set_option maxRecDepth 10000

def vJ : Value → Int
  | .int _ x => x
  | _ => 0
def pcB (id : Int) (q : Int × Nat) : Bool := decide (q.1 = id)
theorem del1_at (q : Int × Nat) (id : Int) (g : Nat) (w : World) (hbx : Box w g #[.int .i64 id] 3) :
    Calls Try.prog 23 #[.agg #[.int .i64 q.1, .int .i64 (q.2 : Int)], .pointer (some ⟨g, 0, none⟩)] w fun e w' => e = .returned (.bool (pcB id q)) ∧ Below w.heap.size w w' := by
  obtain ⟨x, z⟩ := q
  have BX := Lib.hid (hbx.alloc (.cells #[.int .i64 x, .int .i64 (z : Int)] 54))
  have BN := Lib.hid (Box.new w #[.int .i64 x, .int .i64 (z : Int)] 54)
  have BB := Lib.hid ((Below.refl w.heap.size w).alloc (Nat.le_refl _) (.cells #[.int .i64 x, .int .i64 (z : Int)] 54))
  have hv : (x == id) = pcB id (x, z) := rfl
  obtain ⟨b, hb⟩ : ∃ b, pcB id (x, z) = b := ⟨_, rfl⟩
  rw [hb] at hv ⊢
  clear hb hbx
  go_enter Try.func23, Try.ntmps23
  go_upto_region 1 with fail
  obtain ⟨w1, hw1⟩ : ∃ W, w.alloc (.cells #[.int .i64 x, .int .i64 (z : Int)] 54) = W := ⟨_, rfl⟩
  rw [hw1] at BX BN BB
  rw [hw1]
  clear hw1
  have c0 := BN.out.cell 0
  have k0 := BX.out.cell 0
  go_wp2
  go_ret
  exact ⟨rfl, BB.out⟩
theorem egP : ∀ args w, (callFunc 23 args).run Try.prog w = .ok (.enter 23 args) w := enters_of Try.func23 (by kernel_rfl) rfl
def IdxP (u : Pcs) (id : Int) (w : World) (e : Ending) (w' : World) : Prop := ∃ i : Int, e = .returned (.int .i64 i) ∧ Below w.heap.size w w' ∧
  ((i = -1 ∧ ∀ q ∈ u, pcB id q = false) ∨ ∃ k : Nat, i = (k : Int) ∧ k < u.length ∧ (∀ j q, j < k → u[j]? = some q → pcB id q = false) ∧ ∃ q, u[k]? = some q ∧ pcB id q = true)
set_option maxHeartbeats 2000000 in
theorem idxP_at (u : Pcs) (n : Nat) (hn : u.length = n) {w : World} {B uc idb : Nat} {ua : Option Addr} (ho : Own w B 54 2 ua n uc (pcC u)) (id : Int) (hbx : Box w idb #[.int .i64 id] 3) :
    Calls Try.prog 26 #[.slice ua n uc, .func (.func 23) #[] #[.pointer (some ⟨idb, 0, none⟩)]] w (IdxP u id w) := by
  have eg := egP
  have hn2 : n ≤ 9223372036854775807 := Nat.le_trans ho.cap_le ho.max
  have HO := Lib.hid ho
  have HB := Lib.hid hbx
  have HN := Lib.hid hn
  clear ho hbx hn
  go_enter Try.func26, Try.ntmps26
  go_wp2
  go_loopw [4, 8] (fun r j wr => ∃ k : Nat, k ≤ n ∧ r = .int .i64 0 ∧ j = .int .i64 (k : Int) ∧ Hid (Below w.heap.size w wr) ∧ Hid (∀ i z, i < k → u[i]? = some z → pcB id z = false)) (fun _ j _ => n - (vJ j).toNat)
  case atStart => exact ⟨0, by omega, rfl, rfl, Lib.hid (Below.refl _ _), Lib.hid (fun i z hi => by omega)⟩
  case round =>
    obtain ⟨k, hk, rfl, rfl, BR, HP⟩ := hrel
    by_cases hlt : k < n
    · have hkd : decide ((k : Int) < (n : Int)) = true := decide_eq_true (by omega)
      obtain ⟨z, hz⟩ : ∃ z, u[k]? = some z := ⟨_, List.getElem?_eq_getElem (by rw [HN.out]; exact hlt)⟩
      obtain ⟨r, rfl, _⟩ := HO.out.some_ (by omega)
      obtain ⟨x0, x1⟩ := pcC_get hz
      have ol := HO.out.later BR.out
      have c0 := ol.cell x0
      have c1 := ol.cell x1
      have M := Lib.hid (del1_at z id idb wr (HB.out.later BR.out))
      have hx0 : (0 : Int) ≤ (k : Int) := by omega
      have hx1 : (k : Int) < (n : Int) := by omega
      have HZ := Lib.hid hz
      obtain ⟨b, hb⟩ : ∃ b, pcB id z = b := ⟨_, rfl⟩
      rw [hb] at M
      have HBB := Lib.hid hb
      clear x0 x1 ol hz hb
      obtain ⟨zx, zz⟩ := z
      dsimp only at c0 c1 M
      go_wp2_with fail
      refine (M.out).mono ?_
      rintro e wx ⟨rfl, hwx⟩
      have B2 := Lib.hid (BR.out.trans (hwx.mono BR.out.size))
      clear hwx
      cases b with
      | true =>
        go_wp2
        go_ret
        exact ⟨(k : Int), rfl, B2.out, Or.inr ⟨k, rfl, by rw [HN.out]; exact hlt, HP.out, _, HZ.out, HBB.out⟩⟩
      | false =>
        go_wp2
        go_roundw
        case rel => exact ⟨k + 1, by omega, rfl, by go_num, B2, Lib.hid (fun i y hi hy => by
          by_cases h : i = k
          · subst h
            rw [HZ.out] at hy
            injection hy with hy
            rw [← hy, HBB.out]
          · exact HP.out i y (by omega) hy)⟩
        case measure =>
          simp only [vJ]
          omega
    · have hkd : decide ((k : Int) < (n : Int)) = false := decide_eq_false (by omega)
      go_wp2
      go_ret
      refine ⟨-1, rfl, BR.out, Or.inl ⟨rfl, fun q hq => ?_⟩⟩
      obtain ⟨i, hi, e⟩ := List.getElem_of_mem hq
      exact HP.out i q (by rw [HN.out] at hi; omega) (by rw [List.getElem?_eq_getElem hi, e])
end Go.Proofs.Ytomeipjglnpciaa
