/- MatchOrder, the walk. -/
import Derived.Test.YtcedckkmdpecmaaDoorMtRules
namespace Go.Proofs.YtcedckkmdpecmaaDoor
open Go.RowKit
set_option linter.unusedVariables false
set_option linter.unusedSimpArgs false

theorem rev_next {qs : List Rl} {m k : Nat} {r : Rl} (h : qs[m]? = some r) (hk : m + k + 1 = qs.length) : (qs.drop (qs.length - (k + 1))).reverse = (qs.drop (qs.length - k)).reverse ++ [r] := by
  obtain ⟨h1, h2⟩ := List.getElem?_eq_some_iff.1 h
  rw [show qs.length - (k + 1) = m from by omega, List.drop_eq_getElem_cons h1, h2, show qs.length - k = m + 1 from by omega, List.reverse_cons]
theorem own_at {w : World} {B g n cap : Nat} {rs : List Rl} (h : OwnL w B (some ⟨g, 0, none⟩) n cap rs) {i : Nat} {r : Rl} (hi : rs[i]? = some r) : w.cell? ⟨g, i * 2, none⟩ = some (.bool r.allow) ∧ w.cell? ⟨g, i * 2 + 1, none⟩ = some (.string r.pat) := by
  have h0 := h.cells (i * 2 + 0) _ ((flatL_at 0 (by omega) hi).trans rfl)
  have h1 := h.cells (i * 2 + 1) _ ((flatL_at 1 (by omega) hi).trans rfl)
  rw [Go.WideShapes.add_plain] at h0 h1
  exact ⟨by simpa using h0, by simpa using h1⟩
set_option maxHeartbeats 4000000 in
set_option maxRecDepth 100000 in
theorem matchOrder_walk (x : Option Addr × Nat × Nat) (p0 : ByteArray) (w : World) (hx : IsRls w x) (wp : p0.size ≤ maxLen) (hT : TabsM w) :
    Calls Tryd.prog 12 #[.slice x.1 x.2.1 x.2.2, .string p0] w fun e w' => e = .returned (.bool true) ∧ Below w.heap.size w w' := by
  obtain ⟨a, len, cap⟩ := x
  obtain ⟨rs, h1, h2, h3, h4, h5⟩ := hx
  simp only at h1 h2 h3 h4 h5 ⊢
  have HT := Lib.hid hT
  obtain ⟨qs, hqs⟩ : ∃ q, fewR rs = q := ⟨_, rfl⟩
  obtain ⟨n, hn⟩ : ∃ q, qs.length = q := ⟨_, rfl⟩
  obtain ⟨p, hp⟩ : ∃ p, c100 p0 = p := ⟨_, rfl⟩
  have zp : p.size ≤ 100 := by rw [← hp]; exact c100_size p0
  have zn : n ≤ 20 := by rw [← hn, ← hqs]; exact (fewR_size rs).1
  have zs0 : ∀ r ∈ qs, r.pat.size ≤ 10000 := by rw [← hqs]; intro r hr; have := (fewR_size rs).2 r hr; omega
  have zs := Lib.hid zs0
  have zb : Hid (∀ r ∈ qs.reverse, r.pat.size ≤ 10000) := Lib.hid (fun r hr => zs0 r (List.mem_reverse.1 hr))
  have zt : Hid (∀ r ∈ qs ++ qs, r.pat.size ≤ 10000) := Lib.hid (fun r hr => zs0 r (by simpa using hr))
  obtain ⟨p', hp'⟩ : ∃ x, nfB p = x := ⟨_, rfl⟩
  obtain ⟨b, hb⟩ : ∃ b : Bool, b = true ↔ allowP qs p' := ⟨decide (allowP qs p'), by simp⟩
  have HBB : Hid (b = true ↔ allowP qs.reverse p') := Lib.hid (hb.trans (allowP_mem (by simp)))
  have HBT : Hid (b = true ↔ allowP (qs ++ qs) p') := Lib.hid (hb.trans (allowP_mem (by simp)))
  have HBN : Hid (true = true ↔ allowP [] p') := Lib.hid ⟨fun _ => Or.inr (by simp), fun _ => rfl⟩
  have H1 := Lib.hid hp
  have H2 := Lib.hid hp'
  have H3 := Lib.hid hb
  have H4 := Lib.hid hqs
  have H5 := Lib.hid hn
  have H6 := Lib.hid h1
  have H7 := Lib.hid h4
  have H8 := Lib.hid h5
  have W1 := Lib.hid wp
  have W2 := Lib.hid h2
  clear hT hp hp' hb hqs hn h1 h2 h3 h4 h5 wp zs0
  go_enter Tryd.func12, Tryd.ntmps12
  go_wp2_with fail
  refine (few_at rs a len cap qs n H4.out H5.out _ H6.out H7.out H8.out W2.out).mono ?_
  rintro e w1 ⟨g, c, rfl, ho, hb1⟩
  have O1 := Lib.hid ho
  have B1 := Lib.hid hb1
  have T1 := Lib.hid (HT.out.later hb1)
  have hb1s := hb1.size
  clear ho hb1
  go_wp2_with fail
  refine (cut10_at p0 p H1.out W1.out _).mono ?_
  rintro e w' ⟨rfl, rfl⟩
  go_wp2_with fail
  go_loopw [7, 8] (fun o i wr => ∃ (k : Nat) (a2 : Option Addr) (c2 : Nat) (j : Int), k ≤ n ∧ o = .slice a2 k c2 ∧ i = .int .i64 j ∧ j = (n : Int) - 1 - k ∧ Hid (OwnL wr w1.heap.size a2 k c2 (qs.drop (n - k)).reverse) ∧ Hid (Below w1.heap.size w1 wr)) (fun _ i _ => (intOf i + 1).toNat)
  case atStart => exact ⟨0, _, _, _, by omega, rfl, rfl, by omega, Lib.hid (by rw [List.drop_eq_nil_of_le (by have := H5.out; omega)]; exact OwnL.empty (Nat.le_refl _)), Lib.hid ((Below.refl _ _).alloc (Nat.le_refl _) _)⟩
  case round =>
    obtain ⟨k, a2, c2, j, hk, rfl, rfl, hj, HO, BR⟩ := hrel
    have hbs := BR.out.size
    by_cases hlt : k < n
    · obtain ⟨m, hm⟩ : ∃ m : Nat, j = (m : Int) := ⟨j.toNat, by omega⟩
      subst hm
      have hmn : m + k + 1 = n := by omega
      have hmlt : (m : Int) < (n : Int) := by omega
      obtain ⟨r, hr⟩ : ∃ r, qs[m]? = some r := ⟨qs[m]'(by have := H5.out; omega), List.getElem?_eq_getElem _⟩
      obtain ⟨q0, q1⟩ := own_at O1.out hr
      have c0 := (BR.out.cell (World.block_lt_of_cell? _ _ q0)).trans q0
      have c1 := (BR.out.cell (World.block_lt_of_cell? _ _ q1)).trans q1
      have HRV : Hid ((qs.drop (n - (k + 1))).reverse = (qs.drop (n - k)).reverse ++ [r]) := Lib.hid (by
        rw [← H5.out]
        exact rev_next hr (by rw [H5.out]; exact hmn))
      have HMN := Lib.hid hmn
      have k1 : (0 : Int) ≤ (m : Int) := by omega
      have k20 : k ≤ 20 := by omega
      have k2 : decide ((0 : Int) ≤ (m : Int)) = true := decide_eq_true k1
      clear q0 q1 hr hj hmn hlt hk
      go_wp2_with (at_builtin; refine wpList_appL rfl _ _ rfl w1.heap.size a2 k c2 _ rfl (HO.out.alloc _) _ 1 1 [r] rfl rfl (cells_new _ (flatL [r]) _) (by omega) (by simp; omega) ?_; intro a3 c3 w3 ho3 hb3)
      have O3 : Hid (OwnL w3 w1.heap.size a3 (k + 1) c3 (qs.drop (n - (k + 1))).reverse) := Lib.hid (by rw [HRV.out]; exact ho3)
      have B3 := Lib.hid ((BR.out.alloc hbs _).trans hb3)
      clear ho3 hb3 c0 c1
      have hmn := HMN.out
      go_roundw
      case rel => exact ⟨k + 1, a3, c3, _, by omega, rfl, by go_num, by omega, O3, B3⟩
      case measure => (simp [intOf]); try omega
    · obtain rfl : k = n := by omega
      have O2 : Hid (OwnL wr w1.heap.size a2 k c2 qs.reverse) := Lib.hid (by have := HO.out; rw [Nat.sub_self, List.drop_zero] at this; exact this)
      have OL : Hid (OwnL wr w.heap.size (some ⟨g, 0, none⟩) k c qs) := Lib.hid (O1.out.later BR.out)
      have hjn : j = -1 := by omega
      subst hjn
      have BW := Lib.hid (B1.out.trans (BR.out.mono B1.out.size))
      have TW := Lib.hid (T1.out.later BR.out)
      clear HO hj
      have OB : Hid (OwnL wr w.heap.size a2 k c2 qs.reverse) := Lib.hid (O2.out.mono hb1s)
      clear hk hlt
      go_wp2_with (first
        | (at_builtin; refine wpList_appL rfl _ _ rfl wr.heap.size (some ⟨wr.heap.size, 0, none⟩) 0 0 [] rfl (OwnL.empty (Nat.le_refl _)) g k c qs H5.out rfl (OL.out.alloc _).cells (by omega) (by simp) ?_
           intro a3 c3 w3 ho3 hb3
           have b3 : Below wr.heap.size wr w3 := ((Below.refl _ _).alloc (Nat.le_refl _) _).trans hb3
           have L3 := OL.out.later b3
           have b3s := b3.size
           clear hb3
           simp only [Nat.zero_add, List.nil_append] at ho3 ⊢)
        | (at_builtin; refine wpList_appL rfl _ _ rfl wr.heap.size a3 k c3 qs rfl ho3 g k c qs H5.out rfl L3.cells (by omega) b3s ?_
           intro a4 c4 w4 ho4 hb4
           have b4 : Below wr.heap.size wr w4 := b3.trans hb4
           clear hb4 b3 L3 ho3 b3s)
        | fail)
      have T4 := Lib.hid (TW.out.later b4)
      have O4 := Lib.hid ho4
      have L4 := Lib.hid (OL.out.later b4)
      have R4 := Lib.hid (OB.out.later b4)
      have B4 := Lib.hid (BW.out.trans (b4.mono BW.out.size))
      have b4s := b4.size
      clear b4 ho4
      refine (allowed_at qs _ k c p p' b H2.out H3.out _ H5.out L4.out.rd (by omega) zs.out (by omega) T4.out).mono ?_
      rintro e w5 ⟨rfl, hb5⟩
      have T5 := Lib.hid (T4.out.later hb5)
      have O5 := Lib.hid (O4.out.later hb5)
      have R5 := Lib.hid (R4.out.later hb5)
      have B5 := Lib.hid (B4.out.trans (hb5.mono B4.out.size))
      clear hb5
      go_wp2_with fail
      refine (awake10_at _ T5.out).mono ?_
      rintro e w6 ⟨rfl, hb6⟩
      have T6 := Lib.hid (T5.out.later hb6)
      have O6 := Lib.hid (O5.out.later hb6)
      have R6 := Lib.hid (R5.out.later hb6)
      have B6 := Lib.hid (B5.out.trans (hb6.mono B5.out.size))
      clear hb6
      go_wp2_with fail
      refine (allowed_at qs.reverse _ k c2 p p' b H2.out HBB.out _ (by rw [List.length_reverse]; exact H5.out) R6.out.rd (by omega) zb.out (by omega) T6.out).mono ?_
      rintro e w7 ⟨rfl, hb7⟩
      have T7 := Lib.hid (T6.out.later hb7)
      have O7 := Lib.hid (O6.out.later hb7)
      have B7 := Lib.hid (B6.out.trans (hb7.mono B6.out.size))
      clear hb7
      have hbb : (b == b) = true := beq_self_eq_true b
      go_wp2_with fail
      refine (allowed_at (qs ++ qs) _ (k + k) c4 p p' b H2.out HBT.out _ (by rw [List.length_append, H5.out]) O7.out.rd (by omega) zt.out (by omega) T7.out).mono ?_
      rintro e w8 ⟨rfl, hb8⟩
      have T8 := Lib.hid (T7.out.later hb8)
      have B8 := Lib.hid (B7.out.trans (hb8.mono B7.out.size))
      clear hb8
      go_wp2_with fail
      refine (allowed_at [] none 0 0 p p' true H2.out (by simpa using HBN.out) _ rfl (RdR.nil _ _) (by omega) (by simp) (by omega) T8.out).mono ?_
      rintro e w9 ⟨rfl, hb9⟩
      have B9 := Lib.hid (B8.out.trans (hb9.mono B8.out.size))
      clear hb9
      go_wp2
      go_ret
      exact ⟨rfl, B9.out⟩
end Go.Proofs.YtcedckkmdpecmaaDoor
