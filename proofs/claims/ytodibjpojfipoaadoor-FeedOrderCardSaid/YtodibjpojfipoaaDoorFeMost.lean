/- FeedMost: whatever is told, moments are from 0 to the end; nothing is told of nothing. -/
import Derived.Test.YtodibjpojfipoaaDoorFeHdr
import Derived.Laws.StructEq
namespace Go.Proofs.YtodibjpojfipoaaDoor
open Go Go.RowKit
set_option linter.unusedVariables false
set_option linter.unusedSimpArgs false
set_option maxRecDepth 10000

theorem fbk_eq (a b c a' b' c' : Int) (w : World) : (binOp .eql 34 (.agg #[.int .i64 a, .int .i64 b, .int .i64 c]) (.agg #[.int .i64 a', .int .i64 b', .int .i64 c'])).run Tryd.prog w = .ok (.bool (a == a' && b == b' && c == c')) w := by
  have ht : Tryd.prog.underlying 34 = some (.struct (Tryd.prog.fieldsOf 34)) := by kernel_rfl
  have hp : Tryd.prog.stoodInHeld 34 = false := by kernel_rfl
  have _hm : Tryd.prog.eqGuardType Tryd.prog.depth 34 = false := by kernel_rfl
  rw [run_eql_struct, run_equalIn_agg w 9999 _ _ _ ht hp]
  simp only [Program.fieldsOf, Tryd.underlying34]
  simp [go_sem, Tryd.underlying3]
  repeat' split
  all_goals simp_all
theorem afterI_in (n s : Int) : 0 ≤ afterI n s ∧ afterI n s ≤ 1099511627776 := capI_in _
theorem retF_in (Y now : Int) (t : List Int) : 0 ≤ (retF Y now t).getD 0 ∧ (retF Y now t).getD 0 ≤ 1099511627776 := by
  unfold retF
  split
  · exact afterI_in _ _
  · split
    · split
      · exact ⟨Int.le_refl _, by decide⟩
      · exact capI_in _
    · exact ⟨Int.le_refl _, by decide⟩
theorem retO_in (Y now : Int) (hs : HL) : 0 ≤ (retO Y now hs).getD 0 ∧ (retO Y now hs).getD 0 ≤ 1099511627776 := retF_in _ _ _
theorem resO_in (now : Int) (hs : HL) : 0 ≤ (resO now hs).getD 0 ∧ (resO now hs).getD 0 ≤ 1099511627776 := by
  unfold resO
  split
  · exact ⟨Int.le_refl _, by decide⟩
  · split
    · exact ⟨Int.le_refl _, by decide⟩
    · exact afterI_in _ _
theorem retO_nil (Y now : Int) : retO Y now [] = none := by rfl
theorem resO_nil (now : Int) : resO now [] = none := by rfl
theorem classI_in (s : Int) : 1 ≤ classI s ∧ classI s ≤ 4 := by
  unfold classI
  split
  · omega
  · split
    · omega
    · split <;> omega
set_option maxHeartbeats 4000000 in
theorem feedMost_walk (st : Int) (x : Option Addr × Nat × Nat) (now : Int) (w : World) (_w0 : (Lit.int .i64 st).wf = true) (hx : IsHdrs w x) (_w2 : (Lit.int .i64 now).wf = true) (hT : TabD w) :
    Calls Tryd.prog 5 #[.int .i64 st, .slice x.1 x.2.1 x.2.2, .int .i64 now] w fun e w' => e = .returned (.bool true) ∧ Below w.heap.size w w' := by
  obtain ⟨sa, n, c⟩ := x
  obtain ⟨hs, hl, _, hb, hz, g, off, hsa, hat⟩ := hx
  dsimp only at hl hb hsa ⊢
  subst hl
  have SM := Lib.hid (fsmall_at sa g off c hs hb hz w hat hsa)
  have AW := Lib.hid (fun (W : World) (hW : Below w.heap.size w W) => fawake_at W (hT.later hW))
  obtain ⟨Y, hY⟩ := YearIs.some_ (nowD (capI now / 1000)) (nowD_bd _).1 (nowD_bd _).2
  have hat' : ∀ (W : World), Below w.heap.size w W → hs ≠ [] → HdAt W g off hs := fun W hW h => ⟨Nat.lt_of_lt_of_le (hat h).lt hW.size, fun i x hx => (hW.cell (hat h).lt).trans ((hat h).nm i x hx), fun i x hx => (hW.cell (hat h).lt).trans ((hat h).vl i x hx)⟩
  obtain ⟨q, hq⟩ : ∃ q, decide (bulkH hs < 3000) = q := ⟨_, rfl⟩
  rw [hq] at SM
  obtain ⟨C, hC⟩ : ∃ C, classI st = C := ⟨_, rfl⟩
  obtain ⟨R, hR⟩ : ∃ R, (retO Y now hs).getD 0 = R := ⟨_, rfl⟩
  obtain ⟨S, hS⟩ : ∃ S, (resO now hs).getD 0 = S := ⟨_, rfl⟩
  have r1 := retO_in Y now hs
  have s1 := resO_in now hs
  have c1 := classI_in st
  rw [hR] at r1
  rw [hS] at s1
  rw [hC] at c1
  have FR : Hid (q = true → ∀ (W : World), Below w.heap.size w W → Calls Tryd.prog 10 #[.int .i64 st, .slice sa hs.length c, .int .i64 now] W fun e w' => e = .returned (.agg #[.int .i64 C, .int .i64 R, .int .i64 S]) ∧ Below W.heap.size W w') := Lib.hid (fun hq' W hW => by
    rw [hq'] at hq
    have hf := of_decide_eq_true hq
    obtain ⟨f1, f2⟩ := bulkH_few hs
    have := ffrom_at st sa g off c hs (by omega) (fun x hx => by have := f2 x hx; omega) now Y hY W (hT.later hW) (hat' W hW) hsa
    rw [hC, hR, hS] at this
    exact this)
  have FN : Hid (∀ (W : World), Below w.heap.size w W → Calls Tryd.prog 10 #[.int .i64 st, .slice none 0 0, .int .i64 now] W fun e w' => e = .returned (.agg #[.int .i64 C, .int .i64 0, .int .i64 0]) ∧ Below W.heap.size W w') := Lib.hid (fun W hW => by
    have := ffrom_at st none 0 0 0 [] (by decide) (fun x hx => by cases hx) now Y hY W (hT.later hW) (fun h => absurd rfl h) (fun h => absurd rfl h)
    rw [hC, retO_nil, resO_nil] at this
    exact this)
  obtain ⟨N, hN⟩ : ∃ N, hs.length = N := ⟨_, rfl⟩
  rw [hN] at SM FR ⊢
  clear hN hq hC hR hS hY hat hat' hsa hb hz hT _w0 _w2
  have EQ : ∀ W, (binOp .eql 34 (.agg #[.int .i64 C, .int .i64 0, .int .i64 0]) (.agg #[.int .i64 C, .int .i64 0, .int .i64 0])).run Tryd.prog W = .ok (.bool true) W := fun W => by rw [fbk_eq]; simp
  have k1 : decide (0 ≤ R) = true := decide_eq_true r1.1
  have k2 : decide (R ≤ 1099511627776) = true := decide_eq_true r1.2
  have k3 : decide (0 ≤ S) = true := decide_eq_true s1.1
  have k4 : decide (S ≤ 1099511627776) = true := decide_eq_true s1.2
  have k5 : decide (1 ≤ C) = true := decide_eq_true c1.1
  have k6 : decide (C ≤ 4) = true := decide_eq_true c1.2
  clear r1 s1 c1
  go_enter Tryd.func5, Tryd.ntmps5
  go_wp2_with fail
  refine SM.out.mono ?_
  rintro e w1 ⟨rfl, hb⟩
  have HB1 := Lib.hid hb
  clear hb SM
  cases q with
  | false =>
    go_wp2_with fail
    refine (AW.out _ HB1.out).mono ?_
    rintro e w2 ⟨rfl, hb⟩
    have HB2 := Lib.hid (HB1.out.trans (hb.mono HB1.out.size))
    clear hb
    go_wp2
    go_ret
    exact ⟨rfl, HB2.out⟩
  | true =>
    go_wp2_with fail
    refine (FR.out (by simp) _ HB1.out).mono ?_
    rintro e w2 ⟨rfl, hb⟩
    have HB2 := Lib.hid (HB1.out.trans (hb.mono HB1.out.size))
    clear hb HB1 FR
    go_upto_region 4 with fail
    refine code_forget (fun W => Hid (Box W w2.heap.size #[.int .i64 C, .int .i64 R, .int .i64 S] 34) ∧ Hid (Below w2.heap.size w2 W)) ⟨Lib.hid (Box.new w2 _ _), Lib.hid ((Below.refl w2.heap.size w2).alloc (Nat.le_refl _) _)⟩ ?_
    obtain ⟨rb, hrb⟩ : ∃ x, w2.heap.size = x := ⟨_, rfl⟩
    have HRB := Lib.hid hrb
    rintro w3 ⟨BX, BL⟩
    have HB3 := Lib.hid (HB2.out.trans (BL.out.mono HB2.out.size))
    rw [hrb] at BX ⊢
    clear hrb HB2 BL
    go_wp2_with fail
    refine (FN.out _ HB3.out).mono ?_
    rintro e w4 ⟨rfl, hb⟩
    have HB4 := Lib.hid (HB3.out.trans (hb.mono HB3.out.size))
    have BX4 := Lib.hid (BX.out.later hb)
    clear hb HB3 BX FN
    go_upto_region 5 with fail
    refine code_forget (fun W => Hid (Box W w4.heap.size #[.int .i64 C, .int .i64 0, .int .i64 0] 34) ∧ Hid (Below w4.heap.size w4 W)) ⟨Lib.hid (Box.new w4 _ _), Lib.hid ((Below.refl w4.heap.size w4).alloc (Nat.le_refl _) _)⟩ ?_
    obtain ⟨rc, hrc⟩ : ∃ x, w4.heap.size = x := ⟨_, rfl⟩
    have HRC := Lib.hid hrc
    rintro w5 ⟨CX, BL⟩
    have HB5 := Lib.hid (HB4.out.trans (BL.out.mono HB4.out.size))
    have BX5 := Lib.hid (BX4.out.later BL.out)
    rw [hrc] at CX ⊢
    clear hrc HB4 BL BX4
    go_wp2_with fail
    refine (AW.out _ HB5.out).mono ?_
    rintro e w6 ⟨rfl, hb⟩
    have HB6 := Lib.hid (HB5.out.trans (hb.mono HB5.out.size))
    have b0 := (BX5.out.later hb).cell 0
    have b1 := (BX5.out.later hb).cell 1
    have b2 := (BX5.out.later hb).cell 2
    have d0 := (CX.out.later hb).cell 0
    have d1 := (CX.out.later hb).cell 1
    have d2 := (CX.out.later hb).cell 2
    clear hb HB5 BX5 CX
    go_wp2
    go_ret
    exact ⟨rfl, HB6.out⟩
end Go.Proofs.YtodibjpojfipoaaDoor
