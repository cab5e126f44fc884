/- Headers that came in; whether they are few. -/
import Derived.Test.YtodibjpojfipoaaGreatDoorFeFrm
import Derived.Test.YtodibjpojfipoaaGreatDoorDeepW
/- The fixed fact of the layer's laws. -/
namespace Go.Proofs.YtodibjpojfipoaaGreatDoor
open Go Go.RowKit
set_option linter.unusedVariables false
set_option linter.unusedSimpArgs false
set_option maxRecDepth 10000

theorem hdAt_one {w : World} {b : Nat} {x y : ByteArray} {t : TypeId} (h : Box w b #[.string x, .string y] t) : HdAt w b 0 [(x, y)] := by
  refine ⟨h.lt, fun i z hz => ?_, fun i z hz => ?_⟩
  all_goals
    cases i with
    | zero =>
      have e : (x, y) = z := by simpa using hz
      subst e
      first | exact h.cell 0 | exact h.cell 1
    | succ i => simp at hz
theorem fw_v : Valid 1994 11 6 := by unfold Valid; rw [lenI_30 _ _ (by omega)]; omega
theorem fw_n : num 1994 11 6 = 9075 := by decide
theorem fw_s : secI ⟨6, 1994, 11, 6, 8, 49, 37⟩ = some 784111777 := by
  unfold secI
  rw [if_pos ⟨fw_v, by rw [fw_n]; decide⟩]
  unfold secN
  rw [fw_n]
  decide
def fwD : ByteArray := ⟨#[83, 117, 110, 44, 32, 48, 54, 32, 78, 111, 118, 32, 49, 57, 57, 52, 32, 48, 56, 58, 52, 57, 58, 51, 55, 32, 71, 77, 84]⟩
theorem fw_a (Y : Int) : parI Y (btL fwD) = some 784111777 := by rw [parI_fix (m := ⟨6, 1994, 11, 6, 8, 49, 37⟩) rfl, fw_s]
theorem fw_120 (Y : Int) : retF Y 5000 (btL (strL (trL (btL ⟨#[32, 49, 50, 48, 32]⟩)))) = some 125000 := by
  have e : btL (strL (trL (btL ⟨#[32, 49, 50, 48, 32]⟩))) = [49, 50, 48] := by decide
  rw [e]
  unfold retF
  rw [if_pos (by decide)]
  decide
theorem fw_res : resO 1000 [(⟨#[82, 97, 116, 101, 76, 105, 109, 105, 116]⟩, ⟨#[114, 101, 109, 97, 105, 110, 105, 110, 103, 61, 48, 44, 32, 114, 101, 115, 101, 116, 61, 55]⟩)] = some 8000 := by
  decide
theorem fw_ret (Y : Int) : retO Y 0 [(⟨#[114, 101, 116, 114, 121, 45, 97, 102, 116, 101, 114]⟩, fwD)] = some 784111777000 := by
  have e1 : valH kRa [(⟨#[114, 101, 116, 114, 121, 45, 97, 102, 116, 101, 114]⟩, fwD)] = fwD := by decide
  have e2 : strL (trL (btL fwD)) = fwD := by decide
  unfold retO
  rw [e1, e2]
  unfold retF
  rw [if_neg (by decide), fw_a]
  decide
theorem fw_non : resO 0 [(⟨#[114, 101, 116, 114, 121, 45, 97, 102, 116, 101, 114]⟩, fwD)] = none := by
  decide
def fwH1 : HL := [(⟨#[82, 97, 116, 101, 76, 105, 109, 105, 116]⟩, ⟨#[114, 101, 109, 97, 105, 110, 105, 110, 103, 61, 48, 44, 32, 114, 101, 115, 101, 116, 61, 55]⟩)]
def fwH2 : HL := [(⟨#[114, 101, 116, 114, 121, 45, 97, 102, 116, 101, 114]⟩, fwD)]
theorem fwH1_z : ∀ x ∈ fwH1, x.1.size ≤ 1000000 ∧ x.2.size ≤ 1000000 := by unfold fwH1; decide
theorem fwH2_z : ∀ x ∈ fwH2, x.1.size ≤ 1000000 ∧ x.2.size ≤ 1000000 := by unfold fwH2; decide
theorem fw_r2 (g : Nat) (W : World) (hA : HdAt W g 0 fwH1) : Calls Tryz.prog 13 #[.slice (some ⟨g, 0, none⟩) 1 1, .int .i64 1000] W fun e w' => e = .returned (.tuple #[.int .i64 8000, .bool true]) ∧ Below W.heap.size W w' := by
  have := freset_at (some ⟨g, 0, none⟩) g 0 1 fwH1 (by decide) fwH1_z 1000 W (fun _ => hA) (fun _ => rfl)
  rw [show resO 1000 fwH1 = some 8000 from fw_res] at this
  exact this
theorem fw_r3 (g : Nat) (W : World) (hT : TabD W) (hA : HdAt W g 0 fwH2) : Calls Tryz.prog 15 #[.int .i64 503, .slice (some ⟨g, 0, none⟩) 1 1, .int .i64 0] W fun e w' => e = .returned (.agg #[.int .i64 3, .int .i64 784111777000, .int .i64 0]) ∧ Below W.heap.size W w' := by
  obtain ⟨Y, hY⟩ := YearIs.some_ (nowD (capI 0 / 1000)) (nowD_bd _).1 (nowD_bd _).2
  have := ffrom_at 503 (some ⟨g, 0, none⟩) g 0 1 fwH2 (by decide) fwH2_z 0 Y hY W hT (fun _ => hA) (fun _ => rfl)
  rw [show retO Y 0 fwH2 = some 784111777000 from fw_ret Y, show resO 0 fwH2 = none from fw_non, show classI 503 = 3 from by decide] at this
  exact this
theorem fw_r1 (W : World) (hT : TabD W) : Calls Tryz.prog 10 #[.string ⟨#[32, 49, 50, 48, 32]⟩, .int .i64 5000] W fun e w' => e = .returned (.tuple #[.int .i64 125000, .bool true]) ∧ Below W.heap.size W w' := by
  obtain ⟨Y, hY⟩ := YearIs.some_ (nowD (capI 5000 / 1000)) (nowD_bd _).1 (nowD_bd _).2
  have := fretry_at ⟨#[32, 49, 50, 48, 32]⟩ (by decide) 5000 Y hY W hT
  rw [fw_120 Y] at this
  exact this
theorem fw_r4 (W : World) : Calls Tryz.prog 8 #[.int .i64 304] W fun e w' => e = .returned (.int .i64 1) ∧ w' = W := by
  have := fclass_at 304 W
  rw [show classI 304 = 1 from by decide] at this
  exact this
set_option maxHeartbeats 4000000 in
theorem fawake_at (w : World) (hT : TabD w) : Calls Tryz.prog 7 #[] w fun e w' => e = .returned (.bool true) ∧ Below w.heap.size w w' := by
  have HT := Lib.hid hT
  clear hT
  go_enter Tryz.func7, Tryz.ntmps7
  go_wp2_with fail
  refine (fw_r1 _ HT.out).mono ?_
  rintro e w1 ⟨rfl, hb⟩
  have HB1 := Lib.hid hb
  clear hb
  go_wp2_with fail
  refine (fw_r2 w1.heap.size _ (hdAt_one (Box.new w1 _ _))).mono ?_
  rintro e w2 ⟨rfl, hb⟩
  have HB2 := Lib.hid ((HB1.out.alloc HB1.out.size _).trans (hb.mono (HB1.out.alloc HB1.out.size _).size))
  clear hb HB1
  go_wp2_with fail
  refine (fw_r3 w2.heap.size _ (HT.out.later (HB2.out.alloc HB2.out.size _)) (hdAt_one (Box.new w2 _ _))).mono ?_
  rintro e w3 ⟨rfl, hb⟩
  have HB3 := Lib.hid ((HB2.out.alloc HB2.out.size _).trans (hb.mono (HB2.out.alloc HB2.out.size _).size))
  clear hb HB2
  go_upto_region 4 with fail
  refine code_forget (fun W => Hid (Box W w3.heap.size #[.int .i64 3, .int .i64 784111777000, .int .i64 0] 25) ∧ Hid (Below w3.heap.size w3 W)) ⟨Lib.hid (Box.new w3 _ _), Lib.hid ((Below.refl w3.heap.size w3).alloc (Nat.le_refl _) _)⟩ ?_
  obtain ⟨rb, hrb⟩ : ∃ x, w3.heap.size = x := ⟨_, rfl⟩
  have HRB := Lib.hid hrb
  rintro w4 ⟨BX, BL⟩
  have HB4 := Lib.hid (HB3.out.trans (BL.out.mono HB3.out.size))
  rw [hrb] at BX ⊢
  clear hrb
  have c0 := BX.out.cell 0
  have c1 := BX.out.cell 1
  have c2 := BX.out.cell 2
  go_wp2_with fail
  refine (fw_r4 _).mono ?_
  rintro e w5 ⟨rfl, hw⟩
  subst w5
  go_wp2
  go_ret
  exact ⟨rfl, HB4.out⟩
end Go.Proofs.YtodibjpojfipoaaGreatDoor
namespace Go.Proofs.YtodibjpojfipoaaGreatDoor
open Go Go.RowKit
set_option linter.unusedVariables false
set_option linter.unusedSimpArgs false
set_option maxRecDepth 10000

def hdL (h : ByteArray × ByteArray) : List Value := [.string h.1, .string h.2]
def HdRd (w : World) (a : Option Addr) (hs : HL) : Prop := ∃ g off, (hs ≠ [] → a = some ⟨g, off, none⟩) ∧ (hs ≠ [] → HdAt w g off hs)
def IsHdrs (w : World) (x : Option Addr × Nat × Nat) : Prop := ∃ hs : HL, hs.length = x.2.1 ∧ x.2.1 ≤ x.2.2 ∧ x.2.1 ≤ 140737488351232 ∧ (∀ h ∈ hs, h.1.size ≤ 140737488351232 ∧ h.2.size ≤ 140737488351232) ∧ HdRd w x.1 hs
section
open Go.Joins Go.Deep Go.WideShapes
theorem FitsW.lenF {H : Type} {enc : TypeId × Value → H} {P : Program} {w : World} {base : Nat} {held : Bool} {N : Nat} {t e : TypeId} {a : Option Addr} {len cap : Nat} (h : FitsW enc P w base (fun _ => true) held N t [.slice a len cap]) (ht : P.underlying t = some (.slice e)) : len * P.bytesOf e ≤ N := by
  obtain ⟨m, x, h, hw⟩ := h
  rcases open_slice ht h with ⟨hcs, _⟩ | ⟨a', len', cap', m', n', D, Pl, hcs, _, hl, hm, hmm, hxe, hx⟩
  · simp at hcs
    rw [hcs.2.1]
    simp
  · simp at hcs
    obtain ⟨rfl, rfl, rfl⟩ := hcs
    rw [hxe] at hw
    simp only [DataW.weights, ht] at hw
    have := hw _ (List.mem_cons_self ..)
    rw [List.length_map, List.length_range] at this
    exact Nat.le_trans (Nat.mul_le_mul_right _ (Nat.le_add_right _ _)) this
variable {H : Type} {enc : TypeId × Value → H} {w : World} {base b0 : Nat} {held : Bool} {rr : Reach}
theorem hdrs_ofF {a : Option Addr} {len cap : Nat} (h : FitsW enc Tryz.prog w base (fun _ => true) held reachBytes 31 [.slice a len cap]) : IsHdrs w (a, len, cap) := by
  have hlen : len ≤ reachBytes := by
    have := h.lenF Tryz.underlying31
    have e : Tryz.prog.bytesOf 37 = 32 := by kernel_rfl
    rw [e] at this
    omega
  have RB : reachBytes = 140737488351232 := by simp [reachBytes]
  rw [RB] at hlen
  obtain ⟨C, ⟨rfl, rfl, rfl⟩ | ⟨x, rfl, hl, hm, hx⟩⟩ := h.elems Tryz.underlying31 (n := 2) (by kernel_rfl)
  · exact ⟨[], rfl, Nat.le_refl _, hlen, fun h hh => (by cases hh), 0, 0, fun h => absurd rfl h, fun h => absurd rfl h⟩
  · by_cases h0 : 0 < len
    · obtain ⟨b, off, rfl, hc⟩ := plain_at (by decide) (fun i hi => ⟨(hx i hi).1, (hx i hi).2.2⟩) (by omega : 0 < cap)
      have key : ∀ i, i < len → ∃ p : ByteArray × ByteArray, (C i)[0]? = some (.string p.1) ∧ (C i)[1]? = some (.string p.2) ∧ p.1.size ≤ reachBytes ∧ p.2.size ≤ reachBytes := fun i hi => by
        have hr := (hx i (by omega)).2.1.2 hi
        obtain ⟨x0, h0, w0⟩ := hr.string Tryz.underlying37 0 0 rfl rfl rfl Tryz.underlying9 (by kernel_rfl)
        obtain ⟨x1, h1, w1⟩ := hr.string Tryz.underlying37 1 1 rfl rfl rfl Tryz.underlying9 (by kernel_rfl)
        exact ⟨(x0, x1), h0, h1, w0, w1⟩
      let E : Nat → ByteArray × ByteArray := fun i => if hi : i < len then Classical.choose (key i hi) else (ByteArray.empty, ByteArray.empty)
      have hE : ∀ i, i < len → (C i)[0]? = some (.string (E i).1) ∧ (C i)[1]? = some (.string (E i).2) ∧ (E i).1.size ≤ reachBytes ∧ (E i).2.size ≤ reachBytes := fun i hi => by
        simp only [E, dif_pos hi]
        exact Classical.choose_spec (key i hi)
      have hat : ∀ i x, ((List.range len).map E)[i]? = some x → w.cell? ⟨b, off + i * 2, none⟩ = some (.string x.1) ∧ w.cell? ⟨b, off + i * 2 + 1, none⟩ = some (.string x.2) := fun i x hi => by
        have hil := (List.getElem?_eq_some_iff.1 hi).1
        simp at hil
        have he : E i = x := by simpa [hil] using hi
        subst he
        have h1 := hc i (by omega) 0 _ (hE i hil).1
        have h2 := hc i (by omega) 1 _ (hE i hil).2.1
        exact ⟨by simpa using h1, h2⟩
      refine ⟨(List.range len).map E, by simp, hl, hlen, fun e he => ?_, b, off, fun _ => rfl, fun _ => ⟨?_, fun i x hx => (hat i x hx).1, fun i x hx => (hat i x hx).2⟩⟩
      · obtain ⟨i, hi, rfl⟩ := List.mem_map.1 he
        have := (hE i (List.mem_range.1 hi)).2.2
        rw [RB] at this
        exact this
      · have h1 := hc 0 (by omega) 0 _ (hE 0 h0).1
        exact block_lt_of_cell h1
    · obtain rfl : len = 0 := by omega
      exact ⟨[], rfl, Nat.zero_le _, hlen, fun h hh => (by cases hh), 0, 0, fun h => absurd rfl h, fun h => absurd rfl h⟩
theorem open_hdrs {v : Value} {d : DataW H} {p : List MemPlace} (hv : Value.okWide Tryz.prog w rr b0 31 v) (hd : DataW.Trod enc Tryz.prog w base (fun _ => true) held 31 v d p) (hwt : ∀ k ∈ d.weights Tryz.prog 31, k ≤ reachBytes) :
    ∃ x : Option Addr × Nat × Nat, v = .slice x.1 x.2.1 x.2.2 ∧ IsHdrs w x := by
  obtain ⟨a, len, cap, rfl⟩ := okWide_slice Tryz.underlying31 hv
  obtain ⟨fu, hfu⟩ := hd
  exact ⟨(a, len, cap), rfl, hdrs_ofF (enc := enc) (base := base) (held := held) ⟨fu, _, hfu, hwt⟩⟩
end
def bulkH : HL → Nat
  | [] => 0
  | h :: t => h.1.size + h.2.size + 10 + bulkH t
theorem bulkH_app (a b : HL) : bulkH (a ++ b) = bulkH a + bulkH b := by
  induction a with
  | nil => simp [bulkH]
  | cons x a ih => rw [List.cons_append, bulkH, bulkH, ih]; omega
theorem bulkH_take (hs : HL) (i : Nat) : bulkH (hs.take i) ≤ bulkH hs := by
  have := bulkH_app (hs.take i) (hs.drop i)
  rw [List.take_append_drop] at this
  omega
theorem bulkH_few : ∀ hs : HL, hs.length * 10 ≤ bulkH hs ∧ ∀ x ∈ hs, x.1.size ≤ bulkH hs ∧ x.2.size ≤ bulkH hs
  | [] => ⟨Nat.le_refl _, fun x h => by cases h⟩
  | y :: t => by
    obtain ⟨h1, h2⟩ := bulkH_few t
    refine ⟨by rw [List.length_cons, bulkH]; omega, fun x hx => ?_⟩
    rw [bulkH]
    rcases List.mem_cons.1 hx with rfl | hx
    · omega
    · have := h2 x hx
      omega
attribute [local go_sem] Oper.semAt_some
set_option maxHeartbeats 4000000 in
theorem fsmall_at (sa : Option Addr) (g off c : Nat) (hs : HL) (hl : hs.length ≤ 140737488351232) (hz : ∀ x ∈ hs, x.1.size ≤ 140737488351232 ∧ x.2.size ≤ 140737488351232) (w : World) (hA : hs ≠ [] → HdAt w g off hs) (hSa : hs ≠ [] → sa = some ⟨g, off, none⟩) :
    Calls Tryz.prog 12 #[.slice sa hs.length c] w fun e w' => e = .returned (.bool (decide (bulkH hs < 3000))) ∧ Below w.heap.size w w' := by
  obtain ⟨q, hq⟩ : ∃ q, decide (bulkH hs < 3000) = q := ⟨_, rfl⟩
  have HQ := Lib.hid hq
  rw [hq]
  clear hq
  obtain ⟨m, hm⟩ : ∃ m, hs.length = m := ⟨_, rfl⟩
  have HM := Lib.hid hm
  have HZ := Lib.hid hz
  have HA := Lib.hid hA
  have HSA := Lib.hid hSa
  rw [hm] at hl ⊢
  clear hm hz hA hSa
  go_enter Tryz.func12, Tryz.ntmps12
  go_wp2_with fail
  go_loopw [3, 4] (fun n j wr => ∃ i a : Nat, i ≤ m ∧ n = .int .i64 (a : Int) ∧ j = .int .i64 (i : Int) ∧ a ≤ 300000000000000 ∧ Hid (bulkH (hs.take i) = a) ∧ Hid (Below w.heap.size w wr)) (fun _ j _ => m - (intOf j).toNat)
  case atStart => exact ⟨0, 0, by omega, rfl, rfl, by omega, Lib.hid rfl, Lib.hid (Below.refl _ _)⟩
  case round =>
    obtain ⟨i, a, hi, rfl, rfl, ha, HB, HW⟩ := hrel
    by_cases hlt : i < m
    · have kd : decide ((i : Int) < (m : Int)) = true := decide_eq_true (by omega)
      by_cases h3 : a < 3000
      · have kd2 : decide ((a : Int) < 3000) = true := decide_eq_true (by omega)
        obtain ⟨z, hzz⟩ : ∃ z, hs[i]? = some z := ⟨_, List.getElem?_eq_getElem (by rw [HM.out]; exact hlt)⟩
        have hne : hs ≠ [] := fun h => by rw [h] at hzz; simp at hzz
        obtain rfl := HSA.out hne
        have hA1 := HA.out hne
        have c0 := (HW.out.cell hA1.lt).trans (hA1.nm i z hzz)
        have c1 := (HW.out.cell hA1.lt).trans (hA1.vl i z hzz)
        have hzs := HZ.out z (List.mem_of_getElem? hzz)
        have hstep : bulkH (hs.take (i + 1)) = a + (z.1.size + z.2.size + 10) := by
          have e : hs.take (i + 1) = hs.take i ++ [z] := by rw [List.take_add_one, hzz]; rfl
          rw [e, bulkH_app, HB.out]
          simp [bulkH]
        obtain ⟨x, y⟩ := z
        dsimp only at c0 c1 hzs hstep
        obtain ⟨sx, hsx⟩ : ∃ n, x.size = n := ⟨_, rfl⟩
        obtain ⟨sy, hsy⟩ : ∃ n, y.size = n := ⟨_, rfl⟩
        have hw1 : IntKind.i64.wrap ((sx : Int) + (sy : Int)) = (sx : Int) + (sy : Int) := IntWalk.i64_in _ (by omega)
        have hw2 : IntKind.i64.wrap ((sx : Int) + (sy : Int) + 10) = (sx : Int) + (sy : Int) + 10 := IntWalk.i64_in _ (by omega)
        have hw3 : IntKind.i64.wrap ((a : Int) + ((sx : Int) + (sy : Int) + 10)) = (a : Int) + ((sx : Int) + (sy : Int) + 10) := IntWalk.i64_in _ (by omega)
        have ix0 : (0 : Int) ≤ (i : Int) := by omega
        have ix1 : (i : Int) < (m : Int) := by omega
        rw [hsx, hsy] at hzs hstep
        have HST := Lib.hid hstep
        clear hstep hne hA1 hzz HSA
        go_upto_region 5 with fail
        go_quiet (fail)
        obtain ⟨w1, hw1'⟩ : ∃ W, wr.drewN nq = W := ⟨_, rfl⟩
        have B1 : Hid (Below w.heap.size w w1) := Lib.hid (by rw [← hw1']; exact below_dn HW.out nq)
        rw [hw1']
        clear hw1' c0 c1 HW
        go_wp2
        go_roundw
        case rel => exact ⟨i + 1, a + (sx + sy + 10), by omega, by go_num, by go_num, by omega, HST, B1⟩
        case measure => simp [intOf]; omega
      · have kd2 : decide ((a : Int) < 3000) = false := decide_eq_false (by omega)
        have hQ : q = false := by rw [← HQ.out, decide_eq_false_iff_not]; have := bulkH_take hs i; have := HB.out; omega
        go_wp2
        go_ret
        exact ⟨by rw [hQ]; rfl, HW.out⟩
    · have kd : decide ((i : Int) < (m : Int)) = false := decide_eq_false (by omega)
      have hf : bulkH hs = a := by rw [← HB.out, List.take_of_length_le (by rw [HM.out]; omega)]
      have hQ : decide ((a : Int) < 3000) = q := by rw [← HQ.out, hf]; simp only [decide_eq_decide]; omega
      clear hf
      go_wp2
      go_ret
      exact ⟨rfl, HW.out⟩
end Go.Proofs.YtodibjpojfipoaaGreatDoor
