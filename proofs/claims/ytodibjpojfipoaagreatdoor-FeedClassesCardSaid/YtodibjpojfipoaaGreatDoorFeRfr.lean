/- The document's Reset, From. -/
import Derived.Test.YtodibjpojfipoaaGreatDoorFeRnm
namespace Go.Proofs.YtodibjpojfipoaaGreatDoor
open Go Go.RowKit
set_option linter.unusedVariables false
set_option linter.unusedSimpArgs false
set_option maxRecDepth 10000

theorem valH_none {k : ByteArray} {hs : HL} (h : hasH k hs = false) : valH k hs = ByteArray.empty := by
  refine valB_none (fun z hz => ?_)
  have := bkL_mem _ z hz
  unfold hasH at h
  rw [List.any_eq_false] at h
  have := h _ this
  simpa using this
def LimIs (hs : HL) (z0 : Int) (z1 : Bool) : Prop := z1 = (limT (btL (valH kRl hs))).2 ∧ (z1 = true → z0 = (limT (btL (valH kRl hs))).1)
set_option maxHeartbeats 4000000 in
theorem rreset_at (sa : Option Addr) (g off c : Nat) (hs : HL) (hl : hs.length ≤ 1000000) (hz : ∀ x ∈ hs, x.1.size ≤ 1000000 ∧ x.2.size ≤ 1000000) (now : Int) (w : World) (hA : hs ≠ [] → HdAt w g off hs) (hSa : hs ≠ [] → sa = some ⟨g, off, none⟩)
    (z0 : Int) (z1 : Bool) (hLM : LimIs hs z0 z1) (hL : ∀ W, Below w.heap.size w W → Calls Tryz.prog 31 #[.slice sa hs.length c] W fun e w' => e = .returned (.tuple #[.int .i64 z0, .bool z1]) ∧ Below W.heap.size W w') :
    Calls Tryz.prog 14 #[.slice sa hs.length c, .int .i64 now] w (OptP (resO now hs) w) := by
  obtain ⟨R, hR⟩ : ∃ R, resO now hs = R := ⟨_, rfl⟩
  have HR := Lib.hid hR
  rw [hR]
  clear hR
  have hA' : ∀ (W : World), Below w.heap.size w W → hs ≠ [] → HdAt W g off hs := fun W hW h => ⟨Nat.lt_of_lt_of_le (hA h).lt hW.size, fun i x hx => (hW.cell (hA h).lt).trans ((hA h).nm i x hx), fun i x hx => (hW.cell (hA h).lt).trans ((hA h).vl i x hx)⟩
  have V2 := Lib.hid (fun (W : World) (hW : Below w.heap.size w W) => rfield_at sa g off c hs hl hz ⟨#[88, 45, 82, 97, 116, 101, 76, 105, 109, 105, 116, 45, 82, 101, 109, 97, 105, 110, 105, 110, 103]⟩ kXm (by decide) (by decide) W (hA' W hW) hSa)
  have V3 := Lib.hid (fun (W : World) (hW : Below w.heap.size w W) => rfield_at sa g off c hs hl hz ⟨#[88, 45, 82, 97, 116, 101, 76, 105, 109, 105, 116, 45, 82, 101, 115, 101, 116]⟩ kXr (by decide) (by decide) W (hA' W hW) hSa)
  have LM := Lib.hid hL
  have hz2 := valH_size kXm hs hz
  have hz3 := valH_size kXr hs hz
  have HN2 : Hid (hasH kXm hs = false → valH kXm hs = ByteArray.empty) := Lib.hid valH_none
  have HN3 : Hid (hasH kXr hs = false → valH kXr hs = ByteArray.empty) := Lib.hid valH_none
  obtain ⟨v2, hv2⟩ : ∃ v, valH kXm hs = v := ⟨_, rfl⟩
  obtain ⟨v3, hv3⟩ : ∃ v, valH kXr hs = v := ⟨_, rfl⟩
  obtain ⟨a2, ha2⟩ : ∃ v, hasH kXm hs = v := ⟨_, rfl⟩
  obtain ⟨a3, ha3⟩ : ∃ v, hasH kXr hs = v := ⟨_, rfl⟩
  rw [hv2, ha2] at V2 HN2
  rw [hv3, ha3] at V3 HN3
  rw [hv2] at hz2
  rw [hv3] at hz3
  have D2 := Lib.hid (fun W : World => rdigits_at v2 (by omega) W)
  have D3 := Lib.hid (fun W : World => rdigits_at v3 (by omega) W)
  obtain ⟨⟨x0, x1⟩, hx⟩ : ∃ z, digP (btL v2) = z := ⟨_, rfl⟩
  obtain ⟨⟨y0, y1⟩, hy⟩ : ∃ z, digP (btL v3) = z := ⟨_, rfl⟩
  have HX : Hid (a2 = false → x1 = false) := Lib.hid (fun h => by rw [HN2.out h] at hx; exact (congrArg Prod.snd hx).symm)
  have HY : Hid (a3 = false → y1 = false) := Lib.hid (fun h => by rw [HN3.out h] at hy; exact (congrArg Prod.snd hy).symm)
  rw [hx] at D2
  rw [hy] at D3
  dsimp only at D2 D3
  have HOF : Hid (oldF (btL (valH kXm hs)) (btL (valH kXr hs)) = if x1 = true ∧ y1 = true ∧ x0 = 0 then some y0 else none) := Lib.hid (by rw [hv2, hv3]; unfold oldF; rw [hx, hy])
  have HT : Hid (z1 = true → (if z0 < 0 then none else some (afterI now z0)) = R) := Lib.hid (fun h => by
    have e : secO hs = some (limT (btL (valH kRl hs))).1 := by unfold secO; rw [if_pos (by rw [← hLM.1]; exact h)]
    rw [← HR.out, hLM.2 h]
    unfold resO
    rw [e])
  have HF : Hid (z1 = false → (match (if x1 = true ∧ y1 = true ∧ x0 = 0 then some y0 else none) with
    | none => none
    | some n => if n < 0 then none else some (afterI now n)) = R) := Lib.hid (fun h => by
    have e : secO hs = oldF (btL (valH kXm hs)) (btL (valH kXr hs)) := by unfold secO; rw [if_neg (by rw [← hLM.1, h]; decide)]
    rw [← HR.out]
    unfold resO
    rw [e, HOF.out]
    rfl)
  obtain ⟨N, hN⟩ : ∃ N, hs.length = N := ⟨_, rfl⟩
  rw [hN] at V2 V3 LM ⊢
  obtain ⟨C, hC⟩ : ∃ C, capI now = C := ⟨_, rfl⟩
  have HC := Lib.hid hC
  have MO := Lib.hid (fun W : World => rmoment7_at now W)
  rw [hC] at MO
  clear hN hC hx hy hv2 hv3 ha2 ha3 hz2 hz3 hLM HOF HN2 HN3 hA hSa hA' hL hl hz HR
  go_enter Tryz.func14, Tryz.ntmps14
  go_wp2_with fail
  refine (MO.out _).mono ?_
  rintro e w0 ⟨rfl, hw⟩
  subst w0
  go_wp2_with fail
  refine (LM.out _ (Below.refl _ _)).mono ?_
  rintro e w1 ⟨rfl, hb⟩
  have HB1 := Lib.hid hb
  clear hb LM MO
  cases z1 with
  | true =>
    have HT2 := Lib.hid (HT.out rfl)
    clear HT HF V2 V3 D2 D3 HX HY
    by_cases hn : z0 < 0
    · have hd : decide (z0 < 0) = true := decide_eq_true hn
      have HO : Hid (R = none) := Lib.hid (by rw [← HT2.out]; exact if_pos hn)
      clear hn HT2
      go_wp2
      go_ret2
      exact ⟨by rw [HO.out]; rfl, HB1.out⟩
    · have hd : decide (z0 < 0) = false := decide_eq_false hn
      have HO : Hid (R = some (afterI now z0)) := Lib.hid (by rw [← HT2.out]; exact if_neg hn)
      have ON := Lib.hid (fun W : World => ron_at now z0 W)
      rw [HC.out] at ON
      obtain ⟨af, haf⟩ : ∃ a, afterI now z0 = a := ⟨_, rfl⟩
      rw [haf] at HO ON
      clear haf hn HT2
      go_wp2_with fail
      refine (ON.out _).mono ?_
      rintro e w9 ⟨rfl, hw⟩
      subst w9
      go_wp2
      go_ret2
      exact ⟨by rw [HO.out]; rfl, HB1.out⟩
  | false =>
    have HF2 := Lib.hid (HF.out rfl)
    clear HT HF
    go_wp2_with fail
    refine (V2.out _ HB1.out).mono ?_
    rintro e w2 ⟨rfl, hb⟩
    have HB2 := Lib.hid (HB1.out.trans (hb.mono HB1.out.size))
    clear hb HB1 V2
    go_wp2_with fail
    refine (V3.out _ HB2.out).mono ?_
    rintro e w3 ⟨rfl, hb⟩
    have HB3 := Lib.hid (HB2.out.trans (hb.mono HB2.out.size))
    clear hb HB2 V3
    go_wp2_with fail
    refine (D2.out _).mono ?_
    rintro e w4 ⟨rfl, hb⟩
    have HB4 := Lib.hid (HB3.out.trans (hb.mono HB3.out.size))
    clear hb HB3 D2
    go_wp2_with fail
    refine (D3.out _).mono ?_
    rintro e w5 ⟨rfl, hb⟩
    have HB5 := Lib.hid (HB4.out.trans (hb.mono HB4.out.size))
    clear hb HB4 D3
    go_upto_region 8 with fail
    obtain ⟨Q, hQ⟩ : ∃ q : Bool, decide (x1 = true ∧ y1 = true ∧ x0 = 0) = q := ⟨_, rfl⟩
    have HQ := Lib.hid hQ
    clear hQ
    go_cut [6, 7] from 16 (fun n o wx => n = .int .i64 y0 ∧ o = .bool Q ∧ wx = w5)
    case first =>
      cases a2 with
      | false =>
        have e1 := HX.out rfl
        have e : Q = false := by rw [← HQ.out, e1]; simp
        subst e
        clear e1
        go_wp2
        go_meet
        exact ⟨rfl, rfl, rfl⟩
      | true =>
        cases a3 with
        | false =>
          have e1 := HY.out rfl
          have e : Q = false := by rw [← HQ.out, e1]; simp
          subst e
          clear e1
          go_wp2
          go_meet
          exact ⟨rfl, rfl, rfl⟩
        | true =>
          cases x1 with
          | false =>
            have e : Q = false := by rw [← HQ.out]; simp
            subst e
            go_wp2
            go_meet
            exact ⟨rfl, rfl, rfl⟩
          | true =>
            cases y1 with
            | false =>
              have e : Q = false := by rw [← HQ.out]; simp
              subst e
              go_wp2
              go_meet
              exact ⟨rfl, rfl, rfl⟩
            | true =>
              have e : (x0 == 0) = Q := by rw [← HQ.out]; by_cases h : x0 = 0 <;> simp [h]
              have E := Lib.hid e
              cases Q with
              | true =>
                go_wp2
                go_meet
                exact ⟨rfl, rfl, rfl⟩
              | false =>
                go_wp2
                go_meet
                exact ⟨rfl, rfl, rfl⟩
    case rest =>
    obtain ⟨rfl, rfl, he⟩ := hcut
    have he := he.symm
    subst he
    cases Q with
    | false =>
      have HO : Hid (R = none) := Lib.hid (by rw [← HF2.out, if_neg (of_decide_eq_false HQ.out)])
      clear HF2
      go_wp2
      go_ret2
      exact ⟨by rw [HO.out]; rfl, HB5.out⟩
    | true =>
      have HF3 : Hid ((if y0 < 0 then none else some (afterI now y0)) = R) := Lib.hid (by rw [← HF2.out, if_pos (of_decide_eq_true HQ.out)])
      clear HF2
      by_cases hn : y0 < 0
      · have hd : decide (y0 < 0) = true := decide_eq_true hn
        have HO : Hid (R = none) := Lib.hid (by rw [← HF3.out]; exact if_pos hn)
        clear hn HF3
        go_wp2
        go_ret2
        exact ⟨by rw [HO.out]; rfl, HB5.out⟩
      · have hd : decide (y0 < 0) = false := decide_eq_false hn
        have HO : Hid (R = some (afterI now y0)) := Lib.hid (by rw [← HF3.out]; exact if_neg hn)
        have ON := Lib.hid (fun W : World => ron_at now y0 W)
        rw [HC.out] at ON
        obtain ⟨af, haf⟩ : ∃ a, afterI now y0 = a := ⟨_, rfl⟩
        rw [haf] at HO ON
        clear haf hn HF3
        go_wp2_with fail
        refine (ON.out _).mono ?_
        rintro e w9 ⟨rfl, hw⟩
        subst w9
        go_wp2
        go_ret2
        exact ⟨by rw [HO.out]; rfl, HB5.out⟩
end Go.Proofs.YtodibjpojfipoaaGreatDoor
