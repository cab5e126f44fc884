/- The document's fields: value, behind. -/
import Derived.Test.YtodibjpojfipoaaGreatDoorFxKy
namespace Go.Proofs.YtodibjpojfipoaaGreatDoor
open Go Go.RowKit
set_option linter.unusedVariables false
set_option linter.unusedSimpArgs false
set_option maxRecDepth 10000

theorem fval_app : ∀ (l : List Int) (v c : Int), fval v (l ++ [c]) = 10 * fval v l + (c - 48)
  | [], v, c => rfl
  | x :: t, v, c => fval_app t _ c
theorem numF_ne {c : Int} (h : c ≠ 45) (q : List Int) : numF (c :: q) = digF false (c :: q) := by
  unfold numF
  split
  · rename_i e
    injection e with e1 e2
    exact absurd e1 h
  · rfl
/-- A value, and its end. -/
def VlP (s : ByteArray) (i : Nat) (w : World) (e : Ending) (w' : World) : Prop := ∃ (v : VB) (r : Int), e = .returned (.tuple #[.agg #[.int .i64 v.k, .int .i64 v.n, .string v.s], .int .i64 r]) ∧ Below w.heap.size w w' ∧ v.s.size ≤ 1000000 ∧
  ((valF ((btL s).drop i) = none ∧ r = -1) ∨ ∃ k : Nat, i ≤ k ∧ k ≤ s.size ∧ r = (k : Int) ∧ valF ((btL s).drop i) = some (v.f, (btL s).drop k))
set_option maxHeartbeats 8000000 in
theorem rvalue_at (s : ByteArray) (hz : s.size ≤ 1000000) (i : Nat) (hi : i ≤ s.size) (w : World) : Calls Tryz.prog 133 #[.string s, .int .i64 (i : Int)] w (VlP s i w) := by
  have AT := Lib.hid (fun W : World => rat7_at s hz i (by omega) W)
  have AT2 := Lib.hid (fun W : World => rat7_at s hz (i + 1) (by omega) W)
  obtain ⟨c0, hc0⟩ : ∃ c, hdI ((btL s).drop i) = c := ⟨_, rfl⟩
  obtain ⟨ok, hok⟩ : ∃ b, decide (i < s.size) = b := ⟨_, rfl⟩
  rw [hc0, hok] at AT
  have HOK := Lib.hid hok
  have HCD : Hid (ok = true → (btL s).drop i = c0 :: (btL s).drop (i + 1)) := Lib.hid (fun h => by
    rw [h] at hok
    have hlt := of_decide_eq_true hok
    rw [← hc0, ln_cons s i hlt]
    rfl)
  have HC0 := Lib.hid hc0
  clear hc0 hok
  go_enter Tryz.func133, Tryz.ntmps133
  go_upto_region 1 with fail
  refine code_forget (fun W => Hid (Box W w.heap.size #[.int .i64 0, .int .i64 0, .string ⟨#[]⟩] 70) ∧ Hid (Below w.heap.size w W)) ⟨Lib.hid (Box.new w _ _), Lib.hid ((Below.refl w.heap.size w).alloc (Nat.le_refl _) _)⟩ ?_
  obtain ⟨rb, hrb⟩ : ∃ x, w.heap.size = x := ⟨_, rfl⟩
  have hrw : Hid (w.heap.size ≤ rb) := Lib.hid (Nat.le_of_eq hrb)
  rintro w1 ⟨BX, HB1⟩
  rw [hrb] at BX ⊢
  clear hrb
  go_wp2_with fail
  refine (AT.out _).mono ?_
  rintro e wx ⟨rfl, hw⟩
  subst wx
  clear AT
  cases ok with
  | false =>
    have HF : Hid (valF ((btL s).drop i) = none) := Lib.hid (by
      rw [List.drop_eq_nil_of_le (by have := of_decide_eq_false HOK.out; rw [btL_length]; omega)]
      rfl)
    have l0 := BX.out.lt
    have c0 := BX.out.cell 0
    have c1 := BX.out.cell 1
    have c2 := BX.out.cell 2
    have f0 := BX.out.free 0
    have f1 := BX.out.free 1
    have f2 := BX.out.free 2
    go_wp2
    have BX9 := Lib.hid (((BX.out.set 0 (.int .i64 0)).set 1 (.int .i64 0)).set 2 (.string ⟨#[]⟩))
    have HB9 := Lib.hid (((HB1.out.setCell (p := ⟨rb, 0, none⟩) hrw.out (.int .i64 0)).setCell (p := ⟨rb, 1, none⟩) hrw.out (.int .i64 0)).setCell (p := ⟨rb, 2, none⟩) hrw.out (.string ⟨#[]⟩))
    obtain ⟨w9, hw9⟩ : ∃ W, ((w1.setCell ⟨rb, 0, none⟩ (.int .i64 0)).setCell ⟨rb, 1, none⟩ (.int .i64 0)).setCell ⟨rb, 2, none⟩ (.string ⟨#[]⟩) = W := ⟨_, rfl⟩
    rw [hw9] at BX9 HB9 ⊢
    have s0 := BX9.out.cell 0
    have s1 := BX9.out.cell 1
    have s2 := BX9.out.cell 2
    exact bodyPost_ret (v := .tuple #[.agg #[.int .i64 0, .int .i64 0, .string ⟨#[]⟩], .int .i64 (-1)]) (by simp [results, Tryz.results133, go_sem, s0, s1, s2]) rfl ⟨⟨0, 0, ⟨#[]⟩⟩, (-1), rfl, HB9.out, by decide, Or.inl ⟨HF.out, rfl⟩⟩
  | true =>
    have hlt : i < s.size := of_decide_eq_true HOK.out
    have HL := Lib.hid (HCD.out rfl)
    clear HCD HOK
    by_cases c34 : c0 = 34
    · have d1 : (c0 == 34) = true := beq_iff_eq.2 c34
      have QT := Lib.hid (rquoted_at s hz i hlt w1)
      have HV : Hid (valF ((btL s).drop i) = (textG ((btL s).drop (i + 1))).map fun p => (⟨2, 0, p.1⟩, p.2)) := Lib.hid (by rw [HL.out, c34, valF_text])
      clear c34 AT2
      go_wp2_with fail
      refine QT.out.mono ?_
      rintro e w2 ⟨t, r, rfl, hb, htz, hn, hy⟩
      have HB2 := Lib.hid (HB1.out.trans (hb.mono HB1.out.size))
      have BX2 := Lib.hid (BX.out.later hb)
      have HN := Lib.hid hn
      have HY := Lib.hid hy
      clear hb hn hy HB1 BX QT
      have l0 := BX2.out.lt
      have c0 := BX2.out.cell 0
      have c1 := BX2.out.cell 1
      have c2 := BX2.out.cell 2
      have f0 := BX2.out.free 0
      have f1 := BX2.out.free 1
      have f2 := BX2.out.free 2
      go_wp2
      have BX9 := Lib.hid (((BX2.out.set 0 (.int .i64 2)).set 1 (.int .i64 0)).set 2 (.string t))
      have HB9 := Lib.hid (((HB2.out.setCell (p := ⟨rb, 0, none⟩) hrw.out (.int .i64 2)).setCell (p := ⟨rb, 1, none⟩) hrw.out (.int .i64 0)).setCell (p := ⟨rb, 2, none⟩) hrw.out (.string t))
      obtain ⟨w9, hw9⟩ : ∃ W, ((w2.setCell ⟨rb, 0, none⟩ (.int .i64 2)).setCell ⟨rb, 1, none⟩ (.int .i64 0)).setCell ⟨rb, 2, none⟩ (.string t) = W := ⟨_, rfl⟩
      rw [hw9] at BX9 HB9 ⊢
      have s0 := BX9.out.cell 0
      have s1 := BX9.out.cell 1
      have s2 := BX9.out.cell 2
      exact bodyPost_ret (v := .tuple #[.agg #[.int .i64 2, .int .i64 0, .string t], .int .i64 r]) (by simp [results, Tryz.results133, go_sem, s0, s1, s2]) rfl ⟨⟨2, 0, t⟩, r, rfl, HB9.out, by dsimp only; omega, (by
        cases ho : textG ((btL s).drop (i + 1)) with
        | none =>
          obtain ⟨e1, _⟩ := HN.out ho
          exact Or.inl ⟨by rw [HV.out, ho]; rfl, e1⟩
        | some p =>
          obtain ⟨k, k1, k2, k3, k4⟩ := HY.out p ho
          have hk : i ≤ k := by
            have h1 := textG_len _ _ _ _ (Nat.le_refl _) ho
            rw [k3, List.length_drop, List.length_drop, btL_length] at h1
            omega
          exact Or.inr ⟨k, hk, k1, k2, by rw [HV.out, ho, Option.map_some, k3, k4]; rfl⟩)⟩
    · have d1 : (c0 == 34) = false := beq_eq_false_iff_ne.2 c34
      have H34 := Lib.hid c34
      clear c34
      by_cases c63 : c0 = 63
      · have d2 : (c0 == 63) = true := beq_iff_eq.2 c63
        have HV : Hid (valF ((btL s).drop i) = (flagF (63 :: (btL s).drop (i + 1))).map fun p => (flagV p.1, p.2)) := Lib.hid (by rw [HL.out, c63, valF_flag])
        obtain ⟨d, hd⟩ : ∃ c, hdI ((btL s).drop (i + 1)) = c := ⟨_, rfl⟩
        obtain ⟨more, hmore⟩ : ∃ b, decide (i + 1 < s.size) = b := ⟨_, rfl⟩
        rw [hd, hmore] at AT2
        have e1 : ((i + 1 : Nat) : Int) = (i : Int) + 1 := by omega
        rw [e1] at AT2
        have hw1 : IntKind.i64.wrap ((i : Int) + 1) = (i : Int) + 1 := IntWalk.i64_in _ (by omega)
        have hw2 : IntKind.i64.wrap ((i : Int) + 2) = (i : Int) + 2 := IntWalk.i64_in _ (by omega)
        have HM := Lib.hid hmore
        have HDD : Hid (more = true → (btL s).drop (i + 1) = d :: (btL s).drop (i + 2)) := Lib.hid (fun h => by
          rw [h] at hmore
          have h2 := of_decide_eq_true hmore
          rw [← hd, ln_cons s (i + 1) h2]
          rfl)
        clear c63 hd hmore e1
        go_wp2_with fail
        refine (AT2.out _).mono ?_
        rintro e wx ⟨rfl, hw⟩
        subst wx
        clear AT2
        cases more with
        | false =>
          have HF : Hid (valF ((btL s).drop i) = none) := Lib.hid (by
            rw [HV.out, List.drop_eq_nil_of_le (by have := of_decide_eq_false HM.out; rw [btL_length]; omega)]
            rfl)
          have l0 := BX.out.lt
          have c0 := BX.out.cell 0
          have c1 := BX.out.cell 1
          have c2 := BX.out.cell 2
          have f0 := BX.out.free 0
          have f1 := BX.out.free 1
          have f2 := BX.out.free 2
          go_wp2
          have BX9 := Lib.hid (((BX.out.set 0 (.int .i64 0)).set 1 (.int .i64 0)).set 2 (.string ⟨#[]⟩))
          have HB9 := Lib.hid (((HB1.out.setCell (p := ⟨rb, 0, none⟩) hrw.out (.int .i64 0)).setCell (p := ⟨rb, 1, none⟩) hrw.out (.int .i64 0)).setCell (p := ⟨rb, 2, none⟩) hrw.out (.string ⟨#[]⟩))
          obtain ⟨w9, hw9⟩ : ∃ W, ((w1.setCell ⟨rb, 0, none⟩ (.int .i64 0)).setCell ⟨rb, 1, none⟩ (.int .i64 0)).setCell ⟨rb, 2, none⟩ (.string ⟨#[]⟩) = W := ⟨_, rfl⟩
          rw [hw9] at BX9 HB9 ⊢
          have s0 := BX9.out.cell 0
          have s1 := BX9.out.cell 1
          have s2 := BX9.out.cell 2
          exact bodyPost_ret (v := .tuple #[.agg #[.int .i64 0, .int .i64 0, .string ⟨#[]⟩], .int .i64 (-1)]) (by simp [results, Tryz.results133, go_sem, s0, s1, s2]) rfl ⟨⟨0, 0, ⟨#[]⟩⟩, (-1), rfl, HB9.out, by decide, Or.inl ⟨HF.out, rfl⟩⟩
        | true =>
          have HD2 := Lib.hid (HDD.out rfl)
          have hl2 : i + 2 ≤ s.size := of_decide_eq_true HM.out
          clear HDD HM
          by_cases d48 : d = 48
          · have x1 : (d != 48) = false := by rw [d48]; rfl
            have HF : Hid (valF ((btL s).drop i) = some (flagV 0, (btL s).drop (i + 2))) := Lib.hid (by rw [HV.out, HD2.out, d48]; rfl)
            subst d48
            have l0 := BX.out.lt
            have c0 := BX.out.cell 0
            have c1 := BX.out.cell 1
            have c2 := BX.out.cell 2
            have f0 := BX.out.free 0
            have f1 := BX.out.free 1
            have f2 := BX.out.free 2
            go_wp2
            have BX9 := Lib.hid (((BX.out.set 0 (.int .i64 4)).set 1 (.int .i64 0)).set 2 (.string ⟨#[]⟩))
            have HB9 := Lib.hid (((HB1.out.setCell (p := ⟨rb, 0, none⟩) hrw.out (.int .i64 4)).setCell (p := ⟨rb, 1, none⟩) hrw.out (.int .i64 0)).setCell (p := ⟨rb, 2, none⟩) hrw.out (.string ⟨#[]⟩))
            obtain ⟨w9, hw9⟩ : ∃ W, ((w1.setCell ⟨rb, 0, none⟩ (.int .i64 4)).setCell ⟨rb, 1, none⟩ (.int .i64 0)).setCell ⟨rb, 2, none⟩ (.string ⟨#[]⟩) = W := ⟨_, rfl⟩
            rw [hw9] at BX9 HB9 ⊢
            have s0 := BX9.out.cell 0
            have s1 := BX9.out.cell 1
            have s2 := BX9.out.cell 2
            exact bodyPost_ret (v := .tuple #[.agg #[.int .i64 4, .int .i64 0, .string ⟨#[]⟩], .int .i64 ((i : Int) + 2)]) (by simp [results, Tryz.results133, go_sem, s0, s1, s2]) rfl ⟨⟨4, 0, ⟨#[]⟩⟩, ((i : Int) + 2), rfl, HB9.out, by decide, Or.inr ⟨i + 2, by omega, hl2, by omega, HF.out⟩⟩
          · have x1 : (d != 48) = true := by simpa using d48
            by_cases d49 : d = 49
            · have x2 : (d != 49) = false := by rw [d49]; rfl
              have HF : Hid (valF ((btL s).drop i) = some (flagV 1, (btL s).drop (i + 2))) := Lib.hid (by rw [HV.out, HD2.out, d49]; rfl)
              subst d49
              have l0 := BX.out.lt
              have c0 := BX.out.cell 0
              have c1 := BX.out.cell 1
              have c2 := BX.out.cell 2
              have f0 := BX.out.free 0
              have f1 := BX.out.free 1
              have f2 := BX.out.free 2
              go_wp2
              have BX9 := Lib.hid (((BX.out.set 0 (.int .i64 4)).set 1 (.int .i64 1)).set 2 (.string ⟨#[]⟩))
              have HB9 := Lib.hid (((HB1.out.setCell (p := ⟨rb, 0, none⟩) hrw.out (.int .i64 4)).setCell (p := ⟨rb, 1, none⟩) hrw.out (.int .i64 1)).setCell (p := ⟨rb, 2, none⟩) hrw.out (.string ⟨#[]⟩))
              obtain ⟨w9, hw9⟩ : ∃ W, ((w1.setCell ⟨rb, 0, none⟩ (.int .i64 4)).setCell ⟨rb, 1, none⟩ (.int .i64 1)).setCell ⟨rb, 2, none⟩ (.string ⟨#[]⟩) = W := ⟨_, rfl⟩
              rw [hw9] at BX9 HB9 ⊢
              have s0 := BX9.out.cell 0
              have s1 := BX9.out.cell 1
              have s2 := BX9.out.cell 2
              exact bodyPost_ret (v := .tuple #[.agg #[.int .i64 4, .int .i64 1, .string ⟨#[]⟩], .int .i64 ((i : Int) + 2)]) (by simp [results, Tryz.results133, go_sem, s0, s1, s2]) rfl ⟨⟨4, 1, ⟨#[]⟩⟩, ((i : Int) + 2), rfl, HB9.out, by decide, Or.inr ⟨i + 2, by omega, hl2, by omega, HF.out⟩⟩
            · have x2 : (d != 49) = true := by simpa using d49
              have HF : Hid (valF ((btL s).drop i) = none) := Lib.hid (by
                rw [HV.out, HD2.out]
                have : flagF (63 :: d :: (btL s).drop (i + 2)) = none := by
                  unfold flagF
                  split
                  · rename_i e
                    injection e with _ e
                    injection e with e _
                    exact absurd e d49
                  · rename_i e
                    injection e with _ e
                    injection e with e _
                    exact absurd e d48
                  · rfl
                rw [this]
                rfl)
              clear d48 d49
              have l0 := BX.out.lt
              have c0 := BX.out.cell 0
              have c1 := BX.out.cell 1
              have c2 := BX.out.cell 2
              have f0 := BX.out.free 0
              have f1 := BX.out.free 1
              have f2 := BX.out.free 2
              go_wp2
              have BX9 := Lib.hid (((BX.out.set 0 (.int .i64 0)).set 1 (.int .i64 0)).set 2 (.string ⟨#[]⟩))
              have HB9 := Lib.hid (((HB1.out.setCell (p := ⟨rb, 0, none⟩) hrw.out (.int .i64 0)).setCell (p := ⟨rb, 1, none⟩) hrw.out (.int .i64 0)).setCell (p := ⟨rb, 2, none⟩) hrw.out (.string ⟨#[]⟩))
              obtain ⟨w9, hw9⟩ : ∃ W, ((w1.setCell ⟨rb, 0, none⟩ (.int .i64 0)).setCell ⟨rb, 1, none⟩ (.int .i64 0)).setCell ⟨rb, 2, none⟩ (.string ⟨#[]⟩) = W := ⟨_, rfl⟩
              rw [hw9] at BX9 HB9 ⊢
              have s0 := BX9.out.cell 0
              have s1 := BX9.out.cell 1
              have s2 := BX9.out.cell 2
              exact bodyPost_ret (v := .tuple #[.agg #[.int .i64 0, .int .i64 0, .string ⟨#[]⟩], .int .i64 (-1)]) (by simp [results, Tryz.results133, go_sem, s0, s1, s2]) rfl ⟨⟨0, 0, ⟨#[]⟩⟩, (-1), rfl, HB9.out, by decide, Or.inl ⟨HF.out, rfl⟩⟩
      · have d2 : (c0 == 63) = false := beq_eq_false_iff_ne.2 c63
        have HV : Hid (valF ((btL s).drop i) = if (c0 == 45 || fNum c0) = true then (numF ((btL s).drop i)).map fun p => (⟨1, p.1, []⟩, p.2) else (wordF ((btL s).drop i)).map fun p => (⟨3, 0, p.1⟩, p.2)) := Lib.hid (by rw [HL.out]; exact valF_oth _ H34.out c63)
        clear c63 AT2 H34
        obtain ⟨Q, hQ⟩ : ∃ b : Bool, (c0 == 45 || fNum c0) = b := ⟨_, rfl⟩
        have HQ := Lib.hid hQ
        clear hQ
        go_upto_region 12 with fail
        go_cut [67] from 16 (fun v wx => v = .bool Q ∧ wx = w1)
        case first =>
          by_cases c45 : c0 = 45
          · have d3 : (c0 == 45) = true := beq_iff_eq.2 c45
            have e : Q = true := by rw [← HQ.out, d3]; rfl
            subst e
            clear c45
            go_wp2
            go_meet
            exact ⟨rfl, rfl⟩
          · have d3 : (c0 == 45) = false := beq_eq_false_iff_ne.2 c45
            have e : fNum c0 = Q := by rw [← HQ.out, d3]; rfl
            have CT := Lib.hid (fun W : World => rnumc_at c0 Q e W)
            clear c45 e
            go_wp2_with fail
            refine (CT.out _).mono ?_
            rintro e wx ⟨rfl, hw⟩
            subst wx
            go_wp2
            go_meet
            exact ⟨rfl, rfl⟩
        case rest =>
        obtain ⟨rfl, he⟩ := hcut
        have he := he.symm
        subst he
        cases Q with
        | true =>
          have HV2 : Hid (valF ((btL s).drop i) = (numF ((btL s).drop i)).map fun p => (⟨1, p.1, []⟩, p.2)) := Lib.hid (by rw [HV.out, if_pos HQ.out])
          clear HV HQ
          obtain ⟨neg, hneg⟩ : ∃ b, (c0 == 45) = b := ⟨_, rfl⟩
          obtain ⟨F, hF⟩ : ∃ F, (if neg = true then i + 1 else i) = F := ⟨_, rfl⟩
          have HNF : Hid (numF ((btL s).drop i) = digF neg ((btL s).drop F)) := Lib.hid (by
            rw [← hF]
            cases neg with
            | true =>
              rw [if_pos rfl, HL.out, beq_iff_eq.1 hneg]
              rfl
            | false =>
              rw [if_neg (by decide), HL.out]
              exact numF_ne (beq_eq_false_iff_ne.1 hneg) _)
          have hFi : i ≤ F ∧ F ≤ s.size := by rw [← hF]; split <;> omega
          have HFF := Lib.hid hF
          clear hF
          go_upto_if 70 with fail
          go_cut [1] from 16 (fun v wx => v = .int .i64 (F : Int) ∧ wx = w1)
          case first =>
            cases neg with
            | true =>
              have e : (i : Int) + 1 = (F : Int) := by rw [← HFF.out, if_pos rfl]; omega
              have hw1 : IntKind.i64.wrap ((i : Int) + 1) = (F : Int) := by rw [e]; exact IntWalk.i64_in _ (by omega)
              go_wp2
              go_meet
              exact ⟨rfl, rfl⟩
            | false =>
              have e : (F : Int) = (i : Int) := by rw [← HFF.out, if_neg (by decide)]
              go_wp2
              go_meet
              exact ⟨by rw [e], rfl⟩
          case rest =>
          obtain ⟨rfl, he⟩ := hcut
          have he := he.symm
          subst he
          have HNG := Lib.hid hneg
          clear hneg HFF
          go_wp2_with fail
          go_loop [1, 13] (fun j n => ∃ (k : Nat) (v : Nat), j = .int .i64 (k : Int) ∧ n = .int .i64 (v : Int) ∧ F ≤ k ∧ k ≤ s.size ∧ v < 10 ^ 16 ∧ Hid (k - F ≤ 16 → (v : Int) = fval 0 (((btL s).drop F).take (k - F)) ∧ v < 10 ^ (k - F)) ∧ Hid (((btL s).drop F).dropWhile fNum = ((btL s).drop k).dropWhile fNum)) (fun j _ => s.size - (intOf j).toNat)
          case atStart => exact ⟨F, 0, rfl, rfl, by omega, by omega, by decide, Lib.hid (fun _ => by rw [Nat.sub_self]; exact ⟨rfl, by decide⟩), Lib.hid rfl⟩
          case round =>
            obtain ⟨k, v, rfl, rfl, hik, hks, hv16, HVV, HD⟩ := hrel
            have hwkF : IntKind.i64.wrap ((k : Int) - (F : Int)) = (k : Int) - (F : Int) := IntWalk.i64_in _ (by omega)
            by_cases hlt2 : k < s.size
            · have kd : decide ((k : Int) < (s.size : Int)) = true := decide_eq_true (by omega)
              have kd2 : decide (k < s.size) = true := decide_eq_true hlt2
              obtain ⟨c, hc⟩ : ∃ d : Int, (s[k].toNat : Int) = d := ⟨_, rfl⟩
              have HDR : Hid ((btL s).drop k = c :: (btL s).drop (k + 1)) := Lib.hid (by rw [← hc]; exact ln_cons s k hlt2)
              have kx0 : (0 : Int) ≤ (k : Int) := by omega
              have kx1 : (k : Int) < (s.size : Int) := by omega
              cases hq : fNum c with
              | true =>
                have hcd := fNum_is hq
                have CT := Lib.hid (fun W : World => rnumc_at c true hq W)
                have HD2 : Hid (((btL s).drop F).dropWhile fNum = ((btL s).drop (k + 1)).dropWhile fNum) := Lib.hid (by rw [HD.out, HDR.out, List.dropWhile_cons, if_pos hq])
                have HTK : Hid (((btL s).drop F).take (k + 1 - F) = ((btL s).drop F).take (k - F) ++ [c]) := Lib.hid (by
                  have e : k + 1 - F = (k - F) + 1 := by omega
                  rw [e, List.take_add_one, List.getElem?_drop]
                  have e2 : (btL s)[F + (k - F)]? = some c := by
                    have := congrArg List.head? HDR.out
                    rw [List.head?_drop] at this
                    rw [show F + (k - F) = k from by omega, this]
                    rfl
                  rw [e2]
                  rfl)
                clear hq
                go_wp2_with fail
                refine (CT.out _).mono ?_
                rintro e wx ⟨rfl, hw⟩
                subst wx
                by_cases h16 : k - F < 16
                · have x16 : decide ((k : Int) - (F : Int) < 16) = true := decide_eq_true (by omega)
                  obtain ⟨hv1, hv2⟩ := HVV.out (by omega)
                  obtain ⟨u, hu⟩ : ∃ u : Nat, (u : Int) = 10 * (v : Int) + (c - 48) := ⟨(10 * (v : Int) + (c - 48)).toNat, by omega⟩
                  have w1 : IntKind.u8.wrap (c - 48) = c - 48 := by rw [IntKind.wrap_u8]; omega
                  have w2 : IntKind.i64.wrap (c - 48) = c - 48 := by rw [IntKind.wrap_i64]; omega
                  have w3 : IntKind.i64.wrap (10 * (v : Int)) = 10 * (v : Int) := IntWalk.i64_in _ (by omega)
                  have w4 : IntKind.i64.wrap (10 * (v : Int) + (c - 48)) = (u : Int) := by rw [← hu]; exact IntWalk.i64_in _ (by omega)
                  have hp : u < 10 ^ (k + 1 - F) := by
                    have e : k + 1 - F = (k - F) + 1 := by omega
                    rw [e, Nat.pow_succ]
                    omega
                  have hu16 : u < 10 ^ 16 := Nat.lt_of_lt_of_le hp (Nat.pow_le_pow_right (by decide) (by omega))
                  have HV3 : Hid (k + 1 - F ≤ 16 → (u : Int) = fval 0 (((btL s).drop F).take (k + 1 - F)) ∧ u < 10 ^ (k + 1 - F)) := Lib.hid (fun _ => ⟨by rw [HTK.out, fval_app, ← hv1, hu], hp⟩)
                  clear hv1 hv2 hp
                  go_wp2
                  go_round
                  case rel => exact ⟨k + 1, u, by go_num, by rw [hu], by omega, by omega, hu16, HV3, HD2⟩
                  case measure => simp [intOf]; omega
                · have x16 : decide ((k : Int) - (F : Int) < 16) = false := decide_eq_false (by omega)
                  have HV3 : Hid (k + 1 - F ≤ 16 → (v : Int) = fval 0 (((btL s).drop F).take (k + 1 - F)) ∧ v < 10 ^ (k + 1 - F)) := Lib.hid (fun h => by omega)
                  go_wp2
                  go_round
                  case rel => exact ⟨k + 1, v, by go_num, rfl, by omega, by omega, hv16, HV3, HD2⟩
                  case measure => simp [intOf]; omega
              | false =>
                have CT := Lib.hid (fun W : World => rnumc_at c false hq W)
                have HE : Hid (((btL s).drop F).dropWhile fNum = (btL s).drop k) := Lib.hid (by rw [HD.out, HDR.out, List.dropWhile_cons, if_neg (by rw [hq]; decide)])
                clear hq
                go_wp2_with fail
                refine (CT.out _).mono ?_
                rintro e wx ⟨rfl, hw⟩
                subst wx
                have HTW := Lib.hid (tw_of_dw (p := fNum) (l := (btL s).drop F) (m := k - F) (by rw [List.length_drop, btL_length]; omega) (by rw [HE.out, List.drop_drop]; congr 1; omega))
                have htl : (((btL s).drop F).take (k - F)).length = k - F := by rw [List.length_take, List.length_drop, btL_length]; omega
                have HTL := Lib.hid htl
                clear htl
                by_cases hm : k - F = 0 ∨ 15 < k - F
                · have HF : Hid (valF ((btL s).drop i) = none) := Lib.hid (by
                    rw [HV2.out, HNF.out]
                    unfold digF
                    rw [HTW.out, HTL.out, if_pos hm]
                    rfl)
                  by_cases hkF : k = F
                  · have x1 : ((k : Int) == (F : Int)) = true := beq_iff_eq.2 (by omega)
                    clear hm
                    have l0 := BX.out.lt
                    have c0 := BX.out.cell 0
                    have c1 := BX.out.cell 1
                    have c2 := BX.out.cell 2
                    have f0 := BX.out.free 0
                    have f1 := BX.out.free 1
                    have f2 := BX.out.free 2
                    go_wp2
                    have BX9 := Lib.hid (((BX.out.set 0 (.int .i64 0)).set 1 (.int .i64 0)).set 2 (.string ⟨#[]⟩))
                    have HB9 := Lib.hid (((HB1.out.setCell (p := ⟨rb, 0, none⟩) hrw.out (.int .i64 0)).setCell (p := ⟨rb, 1, none⟩) hrw.out (.int .i64 0)).setCell (p := ⟨rb, 2, none⟩) hrw.out (.string ⟨#[]⟩))
                    obtain ⟨w9, hw9⟩ : ∃ W, ((w1.setCell ⟨rb, 0, none⟩ (.int .i64 0)).setCell ⟨rb, 1, none⟩ (.int .i64 0)).setCell ⟨rb, 2, none⟩ (.string ⟨#[]⟩) = W := ⟨_, rfl⟩
                    rw [hw9] at BX9 HB9 ⊢
                    have s0 := BX9.out.cell 0
                    have s1 := BX9.out.cell 1
                    have s2 := BX9.out.cell 2
                    exact bodyPost_ret (v := .tuple #[.agg #[.int .i64 0, .int .i64 0, .string ⟨#[]⟩], .int .i64 (-1)]) (by simp [results, Tryz.results133, go_sem, s0, s1, s2]) rfl ⟨⟨0, 0, ⟨#[]⟩⟩, (-1), rfl, HB9.out, by decide, Or.inl ⟨HF.out, rfl⟩⟩
                  · have x1 : ((k : Int) == (F : Int)) = false := beq_eq_false_iff_ne.2 (by omega)
                    have x2 : decide (15 < (k : Int) - (F : Int)) = true := decide_eq_true (by omega)
                    clear hm hkF
                    have l0 := BX.out.lt
                    have c0 := BX.out.cell 0
                    have c1 := BX.out.cell 1
                    have c2 := BX.out.cell 2
                    have f0 := BX.out.free 0
                    have f1 := BX.out.free 1
                    have f2 := BX.out.free 2
                    go_wp2
                    have BX9 := Lib.hid (((BX.out.set 0 (.int .i64 0)).set 1 (.int .i64 0)).set 2 (.string ⟨#[]⟩))
                    have HB9 := Lib.hid (((HB1.out.setCell (p := ⟨rb, 0, none⟩) hrw.out (.int .i64 0)).setCell (p := ⟨rb, 1, none⟩) hrw.out (.int .i64 0)).setCell (p := ⟨rb, 2, none⟩) hrw.out (.string ⟨#[]⟩))
                    obtain ⟨w9, hw9⟩ : ∃ W, ((w1.setCell ⟨rb, 0, none⟩ (.int .i64 0)).setCell ⟨rb, 1, none⟩ (.int .i64 0)).setCell ⟨rb, 2, none⟩ (.string ⟨#[]⟩) = W := ⟨_, rfl⟩
                    rw [hw9] at BX9 HB9 ⊢
                    have s0 := BX9.out.cell 0
                    have s1 := BX9.out.cell 1
                    have s2 := BX9.out.cell 2
                    exact bodyPost_ret (v := .tuple #[.agg #[.int .i64 0, .int .i64 0, .string ⟨#[]⟩], .int .i64 (-1)]) (by simp [results, Tryz.results133, go_sem, s0, s1, s2]) rfl ⟨⟨0, 0, ⟨#[]⟩⟩, (-1), rfl, HB9.out, by decide, Or.inl ⟨HF.out, rfl⟩⟩
                · have hm2 : 0 < k - F ∧ k - F ≤ 15 := by omega
                  obtain ⟨hv1, _⟩ := HVV.out (by omega)
                  have HF : Hid (valF ((btL s).drop i) = some (⟨1, if neg = true then -(v : Int) else (v : Int), []⟩, (btL s).drop k)) := Lib.hid (by
                    rw [HV2.out, HNF.out]
                    unfold digF
                    rw [HTW.out, HTL.out, if_neg hm, HE.out, ← hv1]
                    rfl)
                  have x1 : ((k : Int) == (F : Int)) = false := beq_eq_false_iff_ne.2 (by omega)
                  have x2 : decide (15 < (k : Int) - (F : Int)) = false := decide_eq_false (by omega)
                  have ix0 : (0 : Int) ≤ (i : Int) := by omega
                  have ix1 : (i : Int) < (s.size : Int) := by omega
                  have si : (s[i].toNat : Int) = c0 := by
                    have := congrArg List.head? (HL.out.symm.trans (ln_cons s i hlt))
                    injection this with this
                    exact this.symm
                  have HNG2 := HNG.out
                  clear hm hv1 HVV
                  cases neg with
                  | true =>
                    have w5 : IntKind.i64.wrap (-(v : Int)) = -(v : Int) := IntWalk.i64_in _ (by omega)
                    have l0 := BX.out.lt
                    have c0 := BX.out.cell 0
                    have c1 := BX.out.cell 1
                    have c2 := BX.out.cell 2
                    have f0 := BX.out.free 0
                    have f1 := BX.out.free 1
                    have f2 := BX.out.free 2
                    go_wp2
                    have BX9 := Lib.hid (((BX.out.set 0 (.int .i64 1)).set 1 (.int .i64 (-(v : Int)))).set 2 (.string ⟨#[]⟩))
                    have HB9 := Lib.hid (((HB1.out.setCell (p := ⟨rb, 0, none⟩) hrw.out (.int .i64 1)).setCell (p := ⟨rb, 1, none⟩) hrw.out (.int .i64 (-(v : Int)))).setCell (p := ⟨rb, 2, none⟩) hrw.out (.string ⟨#[]⟩))
                    obtain ⟨w9, hw9⟩ : ∃ W, ((w1.setCell ⟨rb, 0, none⟩ (.int .i64 1)).setCell ⟨rb, 1, none⟩ (.int .i64 (-(v : Int)))).setCell ⟨rb, 2, none⟩ (.string ⟨#[]⟩) = W := ⟨_, rfl⟩
                    rw [hw9] at BX9 HB9 ⊢
                    have s0 := BX9.out.cell 0
                    have s1 := BX9.out.cell 1
                    have s2 := BX9.out.cell 2
                    exact bodyPost_ret (v := .tuple #[.agg #[.int .i64 1, .int .i64 (-(v : Int)), .string ⟨#[]⟩], .int .i64 (k : Int)]) (by simp [results, Tryz.results133, go_sem, s0, s1, s2]) rfl ⟨⟨1, (-(v : Int)), ⟨#[]⟩⟩, (k : Int), rfl, HB9.out, Nat.zero_le 1000000, Or.inr ⟨k, by omega, hks, rfl, HF.out⟩⟩
                  | false =>
                    have l0 := BX.out.lt
                    have c0 := BX.out.cell 0
                    have c1 := BX.out.cell 1
                    have c2 := BX.out.cell 2
                    have f0 := BX.out.free 0
                    have f1 := BX.out.free 1
                    have f2 := BX.out.free 2
                    go_wp2
                    have BX9 := Lib.hid (((BX.out.set 0 (.int .i64 1)).set 1 (.int .i64 (v : Int))).set 2 (.string ⟨#[]⟩))
                    have HB9 := Lib.hid (((HB1.out.setCell (p := ⟨rb, 0, none⟩) hrw.out (.int .i64 1)).setCell (p := ⟨rb, 1, none⟩) hrw.out (.int .i64 (v : Int))).setCell (p := ⟨rb, 2, none⟩) hrw.out (.string ⟨#[]⟩))
                    obtain ⟨w9, hw9⟩ : ∃ W, ((w1.setCell ⟨rb, 0, none⟩ (.int .i64 1)).setCell ⟨rb, 1, none⟩ (.int .i64 (v : Int))).setCell ⟨rb, 2, none⟩ (.string ⟨#[]⟩) = W := ⟨_, rfl⟩
                    rw [hw9] at BX9 HB9 ⊢
                    have s0 := BX9.out.cell 0
                    have s1 := BX9.out.cell 1
                    have s2 := BX9.out.cell 2
                    exact bodyPost_ret (v := .tuple #[.agg #[.int .i64 1, .int .i64 (v : Int), .string ⟨#[]⟩], .int .i64 (k : Int)]) (by simp [results, Tryz.results133, go_sem, s0, s1, s2]) rfl ⟨⟨1, (v : Int), ⟨#[]⟩⟩, (k : Int), rfl, HB9.out, Nat.zero_le 1000000, Or.inr ⟨k, by omega, hks, rfl, HF.out⟩⟩
            · have kd : decide ((k : Int) < (s.size : Int)) = false := decide_eq_false (by omega)
              have kd2 : decide (k < s.size) = false := decide_eq_false hlt2
              have HE : Hid (((btL s).drop F).dropWhile fNum = (btL s).drop k) := Lib.hid (by rw [HD.out, List.drop_eq_nil_of_le (by rw [btL_length]; omega)]; rfl)
              have HTW := Lib.hid (tw_of_dw (p := fNum) (l := (btL s).drop F) (m := k - F) (by rw [List.length_drop, btL_length]; omega) (by rw [HE.out, List.drop_drop]; congr 1; omega))
              have htl : (((btL s).drop F).take (k - F)).length = k - F := by rw [List.length_take, List.length_drop, btL_length]; omega
              have HTL := Lib.hid htl
              clear htl
              by_cases hm : k - F = 0 ∨ 15 < k - F
              · have HF : Hid (valF ((btL s).drop i) = none) := Lib.hid (by
                  rw [HV2.out, HNF.out]
                  unfold digF
                  rw [HTW.out, HTL.out, if_pos hm]
                  rfl)
                by_cases hkF : k = F
                · have x1 : ((k : Int) == (F : Int)) = true := beq_iff_eq.2 (by omega)
                  clear hm
                  have l0 := BX.out.lt
                  have c0 := BX.out.cell 0
                  have c1 := BX.out.cell 1
                  have c2 := BX.out.cell 2
                  have f0 := BX.out.free 0
                  have f1 := BX.out.free 1
                  have f2 := BX.out.free 2
                  go_wp2
                  have BX9 := Lib.hid (((BX.out.set 0 (.int .i64 0)).set 1 (.int .i64 0)).set 2 (.string ⟨#[]⟩))
                  have HB9 := Lib.hid (((HB1.out.setCell (p := ⟨rb, 0, none⟩) hrw.out (.int .i64 0)).setCell (p := ⟨rb, 1, none⟩) hrw.out (.int .i64 0)).setCell (p := ⟨rb, 2, none⟩) hrw.out (.string ⟨#[]⟩))
                  obtain ⟨w9, hw9⟩ : ∃ W, ((w1.setCell ⟨rb, 0, none⟩ (.int .i64 0)).setCell ⟨rb, 1, none⟩ (.int .i64 0)).setCell ⟨rb, 2, none⟩ (.string ⟨#[]⟩) = W := ⟨_, rfl⟩
                  rw [hw9] at BX9 HB9 ⊢
                  have s0 := BX9.out.cell 0
                  have s1 := BX9.out.cell 1
                  have s2 := BX9.out.cell 2
                  exact bodyPost_ret (v := .tuple #[.agg #[.int .i64 0, .int .i64 0, .string ⟨#[]⟩], .int .i64 (-1)]) (by simp [results, Tryz.results133, go_sem, s0, s1, s2]) rfl ⟨⟨0, 0, ⟨#[]⟩⟩, (-1), rfl, HB9.out, by decide, Or.inl ⟨HF.out, rfl⟩⟩
                · have x1 : ((k : Int) == (F : Int)) = false := beq_eq_false_iff_ne.2 (by omega)
                  have x2 : decide (15 < (k : Int) - (F : Int)) = true := decide_eq_true (by omega)
                  clear hm hkF
                  have l0 := BX.out.lt
                  have c0 := BX.out.cell 0
                  have c1 := BX.out.cell 1
                  have c2 := BX.out.cell 2
                  have f0 := BX.out.free 0
                  have f1 := BX.out.free 1
                  have f2 := BX.out.free 2
                  go_wp2
                  have BX9 := Lib.hid (((BX.out.set 0 (.int .i64 0)).set 1 (.int .i64 0)).set 2 (.string ⟨#[]⟩))
                  have HB9 := Lib.hid (((HB1.out.setCell (p := ⟨rb, 0, none⟩) hrw.out (.int .i64 0)).setCell (p := ⟨rb, 1, none⟩) hrw.out (.int .i64 0)).setCell (p := ⟨rb, 2, none⟩) hrw.out (.string ⟨#[]⟩))
                  obtain ⟨w9, hw9⟩ : ∃ W, ((w1.setCell ⟨rb, 0, none⟩ (.int .i64 0)).setCell ⟨rb, 1, none⟩ (.int .i64 0)).setCell ⟨rb, 2, none⟩ (.string ⟨#[]⟩) = W := ⟨_, rfl⟩
                  rw [hw9] at BX9 HB9 ⊢
                  have s0 := BX9.out.cell 0
                  have s1 := BX9.out.cell 1
                  have s2 := BX9.out.cell 2
                  exact bodyPost_ret (v := .tuple #[.agg #[.int .i64 0, .int .i64 0, .string ⟨#[]⟩], .int .i64 (-1)]) (by simp [results, Tryz.results133, go_sem, s0, s1, s2]) rfl ⟨⟨0, 0, ⟨#[]⟩⟩, (-1), rfl, HB9.out, by decide, Or.inl ⟨HF.out, rfl⟩⟩
              · have hm2 : 0 < k - F ∧ k - F ≤ 15 := by omega
                obtain ⟨hv1, _⟩ := HVV.out (by omega)
                have HF : Hid (valF ((btL s).drop i) = some (⟨1, if neg = true then -(v : Int) else (v : Int), []⟩, (btL s).drop k)) := Lib.hid (by
                  rw [HV2.out, HNF.out]
                  unfold digF
                  rw [HTW.out, HTL.out, if_neg hm, HE.out, ← hv1]
                  rfl)
                have x1 : ((k : Int) == (F : Int)) = false := beq_eq_false_iff_ne.2 (by omega)
                have x2 : decide (15 < (k : Int) - (F : Int)) = false := decide_eq_false (by omega)
                have ix0 : (0 : Int) ≤ (i : Int) := by omega
                have ix1 : (i : Int) < (s.size : Int) := by omega
                have si : (s[i].toNat : Int) = c0 := by
                  have := congrArg List.head? (HL.out.symm.trans (ln_cons s i hlt))
                  injection this with this
                  exact this.symm
                have HNG2 := HNG.out
                clear hm hv1 HVV
                cases neg with
                | true =>
                  have w5 : IntKind.i64.wrap (-(v : Int)) = -(v : Int) := IntWalk.i64_in _ (by omega)
                  have l0 := BX.out.lt
                  have c0 := BX.out.cell 0
                  have c1 := BX.out.cell 1
                  have c2 := BX.out.cell 2
                  have f0 := BX.out.free 0
                  have f1 := BX.out.free 1
                  have f2 := BX.out.free 2
                  go_wp2
                  have BX9 := Lib.hid (((BX.out.set 0 (.int .i64 1)).set 1 (.int .i64 (-(v : Int)))).set 2 (.string ⟨#[]⟩))
                  have HB9 := Lib.hid (((HB1.out.setCell (p := ⟨rb, 0, none⟩) hrw.out (.int .i64 1)).setCell (p := ⟨rb, 1, none⟩) hrw.out (.int .i64 (-(v : Int)))).setCell (p := ⟨rb, 2, none⟩) hrw.out (.string ⟨#[]⟩))
                  obtain ⟨w9, hw9⟩ : ∃ W, ((w1.setCell ⟨rb, 0, none⟩ (.int .i64 1)).setCell ⟨rb, 1, none⟩ (.int .i64 (-(v : Int)))).setCell ⟨rb, 2, none⟩ (.string ⟨#[]⟩) = W := ⟨_, rfl⟩
                  rw [hw9] at BX9 HB9 ⊢
                  have s0 := BX9.out.cell 0
                  have s1 := BX9.out.cell 1
                  have s2 := BX9.out.cell 2
                  exact bodyPost_ret (v := .tuple #[.agg #[.int .i64 1, .int .i64 (-(v : Int)), .string ⟨#[]⟩], .int .i64 (k : Int)]) (by simp [results, Tryz.results133, go_sem, s0, s1, s2]) rfl ⟨⟨1, (-(v : Int)), ⟨#[]⟩⟩, (k : Int), rfl, HB9.out, Nat.zero_le 1000000, Or.inr ⟨k, by omega, hks, rfl, HF.out⟩⟩
                | false =>
                  have l0 := BX.out.lt
                  have c0 := BX.out.cell 0
                  have c1 := BX.out.cell 1
                  have c2 := BX.out.cell 2
                  have f0 := BX.out.free 0
                  have f1 := BX.out.free 1
                  have f2 := BX.out.free 2
                  go_wp2
                  have BX9 := Lib.hid (((BX.out.set 0 (.int .i64 1)).set 1 (.int .i64 (v : Int))).set 2 (.string ⟨#[]⟩))
                  have HB9 := Lib.hid (((HB1.out.setCell (p := ⟨rb, 0, none⟩) hrw.out (.int .i64 1)).setCell (p := ⟨rb, 1, none⟩) hrw.out (.int .i64 (v : Int))).setCell (p := ⟨rb, 2, none⟩) hrw.out (.string ⟨#[]⟩))
                  obtain ⟨w9, hw9⟩ : ∃ W, ((w1.setCell ⟨rb, 0, none⟩ (.int .i64 1)).setCell ⟨rb, 1, none⟩ (.int .i64 (v : Int))).setCell ⟨rb, 2, none⟩ (.string ⟨#[]⟩) = W := ⟨_, rfl⟩
                  rw [hw9] at BX9 HB9 ⊢
                  have s0 := BX9.out.cell 0
                  have s1 := BX9.out.cell 1
                  have s2 := BX9.out.cell 2
                  exact bodyPost_ret (v := .tuple #[.agg #[.int .i64 1, .int .i64 (v : Int), .string ⟨#[]⟩], .int .i64 (k : Int)]) (by simp [results, Tryz.results133, go_sem, s0, s1, s2]) rfl ⟨⟨1, (v : Int), ⟨#[]⟩⟩, (k : Int), rfl, HB9.out, Nat.zero_le 1000000, Or.inr ⟨k, by omega, hks, rfl, HF.out⟩⟩
        | false =>
          have HV2 : Hid (valF ((btL s).drop i) = (wordF ((btL s).drop i)).map fun p => (⟨3, 0, p.1⟩, p.2)) := Lib.hid (by rw [HV.out, if_neg (by rw [HQ.out]; decide)])
          clear HV HQ
          obtain ⟨Q, hQ⟩ : ∃ b : Bool, (!((fLow c0 || fUp c0) || c0 == 42)) = b := ⟨_, rfl⟩
          have HQ := Lib.hid hQ
          clear hQ
          go_upto_region 26 with fail
          go_cut [132] from 16 (fun v wx => v = .bool Q ∧ wx = w1)
          case first =>
            cases hq : fLow c0 with
            | true =>
              have e : Q = false := by rw [← HQ.out, hq]; rfl
              subst e
              have CT := Lib.hid (fun W : World => rlow_at c0 true hq W)
              clear hq
              go_wp2_with fail
              refine (CT.out _).mono ?_
              rintro e wx ⟨rfl, hw⟩
              subst wx
              go_wp2
              go_meet
              exact ⟨rfl, rfl⟩
            | false =>
              have CT := Lib.hid (fun W : World => rlow_at c0 false hq W)
              obtain ⟨p1, hp1⟩ : ∃ b, decide (65 ≤ c0) = b := ⟨_, rfl⟩
              obtain ⟨p2, hp2⟩ : ∃ b, decide (c0 ≤ 90) = b := ⟨_, rfl⟩
              obtain ⟨p3, hp3⟩ : ∃ b, (c0 == 42) = b := ⟨_, rfl⟩
              have e : (!((p1 && p2) || p3)) = Q := by rw [← HQ.out, hq, ← hp1, ← hp2, ← hp3]; rfl
              have E := Lib.hid e
              have hne : (c0 != 42) = !p3 := by rw [← hp3]; rfl
              clear hq e
              go_wp2_with fail
              refine (CT.out _).mono ?_
              rintro e wx ⟨rfl, hw⟩
              subst wx
              cases p1 with
              | true =>
                cases p2 with
                | true =>
                  have e : Q = false := by rw [← E.out]; rfl
                  subst e
                  go_wp2
                  go_meet
                  exact ⟨rfl, rfl⟩
                | false =>
                  cases p3 with
                  | true =>
                    have e : Q = false := by rw [← E.out]; rfl
                    subst e
                    go_wp2
                    go_meet
                    exact ⟨rfl, rfl⟩
                  | false =>
                    have e : Q = true := by rw [← E.out]; rfl
                    subst e
                    go_wp2
                    go_meet
                    exact ⟨rfl, rfl⟩
              | false =>
                cases p3 with
                | true =>
                  have e : Q = false := by rw [← E.out]; simp
                  subst e
                  go_wp2
                  go_meet
                  exact ⟨rfl, rfl⟩
                | false =>
                  have e : Q = true := by rw [← E.out]; simp
                  subst e
                  go_wp2
                  go_meet
                  exact ⟨rfl, rfl⟩
          case rest =>
          obtain ⟨rfl, he⟩ := hcut
          have he := he.symm
          subst he
          cases Q with
          | true =>
            have HF : Hid (valF ((btL s).drop i) = none) := Lib.hid (by
              rw [HV2.out, HL.out]
              have hn : ((fLow c0 || fUp c0) || c0 == 42) = false := by
                have := HQ.out
                cases hh : ((fLow c0 || fUp c0) || c0 == 42) with
                | true => rw [hh] at this; cases this
                | false => rfl
              have : wordF (c0 :: (btL s).drop (i + 1)) = none := by
                show (if ((fLow c0 || fUp c0) || c0 == 42) = true then _ else none) = _
                rw [if_neg (by rw [hn]; decide)]
              rw [this]
              rfl)
            have l0 := BX.out.lt
            have c0 := BX.out.cell 0
            have c1 := BX.out.cell 1
            have c2 := BX.out.cell 2
            have f0 := BX.out.free 0
            have f1 := BX.out.free 1
            have f2 := BX.out.free 2
            go_wp2
            have BX9 := Lib.hid (((BX.out.set 0 (.int .i64 0)).set 1 (.int .i64 0)).set 2 (.string ⟨#[]⟩))
            have HB9 := Lib.hid (((HB1.out.setCell (p := ⟨rb, 0, none⟩) hrw.out (.int .i64 0)).setCell (p := ⟨rb, 1, none⟩) hrw.out (.int .i64 0)).setCell (p := ⟨rb, 2, none⟩) hrw.out (.string ⟨#[]⟩))
            obtain ⟨w9, hw9⟩ : ∃ W, ((w1.setCell ⟨rb, 0, none⟩ (.int .i64 0)).setCell ⟨rb, 1, none⟩ (.int .i64 0)).setCell ⟨rb, 2, none⟩ (.string ⟨#[]⟩) = W := ⟨_, rfl⟩
            rw [hw9] at BX9 HB9 ⊢
            have s0 := BX9.out.cell 0
            have s1 := BX9.out.cell 1
            have s2 := BX9.out.cell 2
            exact bodyPost_ret (v := .tuple #[.agg #[.int .i64 0, .int .i64 0, .string ⟨#[]⟩], .int .i64 (-1)]) (by simp [results, Tryz.results133, go_sem, s0, s1, s2]) rfl ⟨⟨0, 0, ⟨#[]⟩⟩, (-1), rfl, HB9.out, by decide, Or.inl ⟨HF.out, rfl⟩⟩
          | false =>
            have HWF : Hid (wordF ((btL s).drop i) = some (((btL s).drop i).takeWhile wordC, ((btL s).drop i).dropWhile wordC)) := Lib.hid (by
              have hn : ((fLow c0 || fUp c0) || c0 == 42) = true := by
                have := HQ.out
                cases hh : ((fLow c0 || fUp c0) || c0 == 42) with
                | false => rw [hh] at this; cases this
                | true => rfl
              rw [HL.out]
              show (if ((fLow c0 || fUp c0) || c0 == 42) = true then _ else none) = _
              rw [if_pos hn])
            clear HQ
            go_wp2_with fail
            go_loop [1] (fun j => ∃ k : Nat, j = .int .i64 (k : Int) ∧ i ≤ k ∧ k ≤ s.size ∧ Hid (((btL s).drop i).dropWhile wordC = ((btL s).drop k).dropWhile wordC)) (fun j => s.size - (intOf j).toNat)
            case atStart => exact ⟨i, rfl, by omega, by omega, Lib.hid rfl⟩
            case round =>
              obtain ⟨k, rfl, hik, hks, HD⟩ := hrel
              by_cases hlt : k < s.size
              · have kd : decide ((k : Int) < (s.size : Int)) = true := decide_eq_true (by omega)
                have kd2 : decide (k < s.size) = true := decide_eq_true hlt
                obtain ⟨c, hc⟩ : ∃ d : Int, (s[k].toNat : Int) = d := ⟨_, rfl⟩
                have HDR : Hid ((btL s).drop k = c :: (btL s).drop (k + 1)) := Lib.hid (by rw [← hc]; exact ln_cons s k hlt)
                have kx0 : (0 : Int) ≤ (k : Int) := by omega
                have kx1 : (k : Int) < (s.size : Int) := by omega
                obtain ⟨b0, hb0⟩ : ∃ b, fLow c = b := ⟨_, rfl⟩
                obtain ⟨p1, hp1⟩ : ∃ b, decide (65 ≤ c) = b := ⟨_, rfl⟩
                obtain ⟨p2, hp2⟩ : ∃ b, decide (c ≤ 90) = b := ⟨_, rfl⟩
                obtain ⟨b2, hb2⟩ : ∃ b, fNum c = b := ⟨_, rfl⟩
                obtain ⟨b3, hb3⟩ : ∃ b, ([95, 45, 46, 42, 33, 35, 36, 37, 38, 39, 43, 94, 124, 126, 58, 47] : List Int).contains c = b := ⟨_, rfl⟩
                have HWC : Hid (wordC c = (b0 || (p1 && p2) || b2 || b3)) := Lib.hid (by rw [← hb0, ← hp1, ← hp2, ← hb2, ← hb3]; rfl)
                have C0 := Lib.hid (fun W : World => rlow_at c b0 hb0 W)
                have C2 := Lib.hid (fun W : World => rnumc_at c b2 hb2 W)
                have C3 := Lib.hid (fun W : World => rin_at ⟨#[95, 45, 46, 42, 33, 35, 36, 37, 38, 39, 43, 94, 124, 126, 58, 47]⟩ (by decide) c b3 hb3 W)
                clear hb0 hb2 hb3
                go_wp2_with fail
                refine (C0.out _).mono ?_
                rintro e wx ⟨rfl, hw⟩
                subst wx
                cases b0 with
                | true =>
                  have HK : Hid (wordC c = true) := Lib.hid (by rw [HWC.out]; rfl)
                  clear C2 C3
                  have HD2 : Hid (((btL s).drop i).dropWhile wordC = ((btL s).drop (k + 1)).dropWhile wordC) := Lib.hid (by rw [HD.out, HDR.out, List.dropWhile_cons, if_pos HK.out])
                  go_wp2
                  go_round
                  case rel => exact ⟨k + 1, by go_num, by omega, by omega, HD2⟩
                  case measure => simp [intOf]; omega
                | false =>
                  cases p1 with
                  | true =>
                    cases p2 with
                    | true =>
                      have HK : Hid (wordC c = true) := Lib.hid (by rw [HWC.out]; rfl)
                      have HD2 : Hid (((btL s).drop i).dropWhile wordC = ((btL s).drop (k + 1)).dropWhile wordC) := Lib.hid (by rw [HD.out, HDR.out, List.dropWhile_cons, if_pos HK.out])
                      go_wp2
                      go_round
                      case rel => exact ⟨k + 1, by go_num, by omega, by omega, HD2⟩
                      case measure => simp [intOf]; omega
                    | false =>
                      go_wp2_with fail
                      refine (C2.out _).mono ?_
                      rintro e wx ⟨rfl, hw⟩
                      subst wx
                      cases b2 with
                      | true =>
                        have HK : Hid (wordC c = true) := Lib.hid (by rw [HWC.out]; simp)
                        have HD2 : Hid (((btL s).drop i).dropWhile wordC = ((btL s).drop (k + 1)).dropWhile wordC) := Lib.hid (by rw [HD.out, HDR.out, List.dropWhile_cons, if_pos HK.out])
                        go_wp2
                        go_round
                        case rel => exact ⟨k + 1, by go_num, by omega, by omega, HD2⟩
                        case measure => simp [intOf]; omega
                      | false =>
                        go_wp2_with fail
                        refine (C3.out _).mono ?_
                        rintro e wx ⟨rfl, hw⟩
                        subst wx
                        cases b3 with
                        | true =>
                          have HK : Hid (wordC c = true) := Lib.hid (by rw [HWC.out]; simp)
                          have HD2 : Hid (((btL s).drop i).dropWhile wordC = ((btL s).drop (k + 1)).dropWhile wordC) := Lib.hid (by rw [HD.out, HDR.out, List.dropWhile_cons, if_pos HK.out])
                          go_wp2
                          go_round
                          case rel => exact ⟨k + 1, by go_num, by omega, by omega, HD2⟩
                          case measure => simp [intOf]; omega
                        | false =>
                          have HNW : Hid (¬ wordC c = true) := Lib.hid (by rw [HWC.out]; simp)
                          have HE : Hid (((btL s).drop i).dropWhile wordC = (btL s).drop k) := Lib.hid (by rw [HD.out, HDR.out, List.dropWhile_cons, if_neg (by exact HNW.out)])
                          have HF : Hid (valF ((btL s).drop i) = some (⟨3, 0, btL (s.extract i k)⟩, (btL s).drop k)) := Lib.hid (by rw [HV2.out, HWF.out, HE.out, dw_drop hik hks HE.out]; rfl)
                          have hez : (s.extract i k).size ≤ 1000000 := by simp; omega
                          obtain ⟨x, hx⟩ : ∃ x, s.extract i k = x := ⟨_, rfl⟩
                          rw [hx] at HF hez
                          have hkn : (k : Int) ≤ (s.size : Int) := by omega
                          have hin : (i : Int) ≤ (k : Int) := by omega
                          have i0 : (0 : Int) ≤ (i : Int) := by omega
                          have l0 := BX.out.lt
                          have c0 := BX.out.cell 0
                          have c1 := BX.out.cell 1
                          have c2 := BX.out.cell 2
                          have f0 := BX.out.free 0
                          have f1 := BX.out.free 1
                          have f2 := BX.out.free 2
                          go_wp2
                          have BX9 := Lib.hid (((BX.out.set 0 (.int .i64 3)).set 1 (.int .i64 0)).set 2 (.string x))
                          have HB9 := Lib.hid (((HB1.out.setCell (p := ⟨rb, 0, none⟩) hrw.out (.int .i64 3)).setCell (p := ⟨rb, 1, none⟩) hrw.out (.int .i64 0)).setCell (p := ⟨rb, 2, none⟩) hrw.out (.string x))
                          obtain ⟨w9, hw9⟩ : ∃ W, ((w1.setCell ⟨rb, 0, none⟩ (.int .i64 3)).setCell ⟨rb, 1, none⟩ (.int .i64 0)).setCell ⟨rb, 2, none⟩ (.string x) = W := ⟨_, rfl⟩
                          rw [hw9] at BX9 HB9 ⊢
                          have s0 := BX9.out.cell 0
                          have s1 := BX9.out.cell 1
                          have s2 := BX9.out.cell 2
                          exact bodyPost_ret (v := .tuple #[.agg #[.int .i64 3, .int .i64 0, .string x], .int .i64 (k : Int)]) (by simp [results, Tryz.results133, go_sem, s0, s1, s2]) rfl ⟨⟨3, 0, x⟩, (k : Int), rfl, HB9.out, hez, Or.inr ⟨k, hik, hks, rfl, HF.out⟩⟩
                  | false =>
                    go_wp2_with fail
                    refine (C2.out _).mono ?_
                    rintro e wx ⟨rfl, hw⟩
                    subst wx
                    cases b2 with
                    | true =>
                      have HK : Hid (wordC c = true) := Lib.hid (by rw [HWC.out]; simp)
                      have HD2 : Hid (((btL s).drop i).dropWhile wordC = ((btL s).drop (k + 1)).dropWhile wordC) := Lib.hid (by rw [HD.out, HDR.out, List.dropWhile_cons, if_pos HK.out])
                      go_wp2
                      go_round
                      case rel => exact ⟨k + 1, by go_num, by omega, by omega, HD2⟩
                      case measure => simp [intOf]; omega
                    | false =>
                      go_wp2_with fail
                      refine (C3.out _).mono ?_
                      rintro e wx ⟨rfl, hw⟩
                      subst wx
                      cases b3 with
                      | true =>
                        have HK : Hid (wordC c = true) := Lib.hid (by rw [HWC.out]; simp)
                        have HD2 : Hid (((btL s).drop i).dropWhile wordC = ((btL s).drop (k + 1)).dropWhile wordC) := Lib.hid (by rw [HD.out, HDR.out, List.dropWhile_cons, if_pos HK.out])
                        go_wp2
                        go_round
                        case rel => exact ⟨k + 1, by go_num, by omega, by omega, HD2⟩
                        case measure => simp [intOf]; omega
                      | false =>
                        have HNW : Hid (¬ wordC c = true) := Lib.hid (by rw [HWC.out]; simp)
                        have HE : Hid (((btL s).drop i).dropWhile wordC = (btL s).drop k) := Lib.hid (by rw [HD.out, HDR.out, List.dropWhile_cons, if_neg (by exact HNW.out)])
                        have HF : Hid (valF ((btL s).drop i) = some (⟨3, 0, btL (s.extract i k)⟩, (btL s).drop k)) := Lib.hid (by rw [HV2.out, HWF.out, HE.out, dw_drop hik hks HE.out]; rfl)
                        have hez : (s.extract i k).size ≤ 1000000 := by simp; omega
                        obtain ⟨x, hx⟩ : ∃ x, s.extract i k = x := ⟨_, rfl⟩
                        rw [hx] at HF hez
                        have hkn : (k : Int) ≤ (s.size : Int) := by omega
                        have hin : (i : Int) ≤ (k : Int) := by omega
                        have i0 : (0 : Int) ≤ (i : Int) := by omega
                        have l0 := BX.out.lt
                        have c0 := BX.out.cell 0
                        have c1 := BX.out.cell 1
                        have c2 := BX.out.cell 2
                        have f0 := BX.out.free 0
                        have f1 := BX.out.free 1
                        have f2 := BX.out.free 2
                        go_wp2
                        have BX9 := Lib.hid (((BX.out.set 0 (.int .i64 3)).set 1 (.int .i64 0)).set 2 (.string x))
                        have HB9 := Lib.hid (((HB1.out.setCell (p := ⟨rb, 0, none⟩) hrw.out (.int .i64 3)).setCell (p := ⟨rb, 1, none⟩) hrw.out (.int .i64 0)).setCell (p := ⟨rb, 2, none⟩) hrw.out (.string x))
                        obtain ⟨w9, hw9⟩ : ∃ W, ((w1.setCell ⟨rb, 0, none⟩ (.int .i64 3)).setCell ⟨rb, 1, none⟩ (.int .i64 0)).setCell ⟨rb, 2, none⟩ (.string x) = W := ⟨_, rfl⟩
                        rw [hw9] at BX9 HB9 ⊢
                        have s0 := BX9.out.cell 0
                        have s1 := BX9.out.cell 1
                        have s2 := BX9.out.cell 2
                        exact bodyPost_ret (v := .tuple #[.agg #[.int .i64 3, .int .i64 0, .string x], .int .i64 (k : Int)]) (by simp [results, Tryz.results133, go_sem, s0, s1, s2]) rfl ⟨⟨3, 0, x⟩, (k : Int), rfl, HB9.out, hez, Or.inr ⟨k, hik, hks, rfl, HF.out⟩⟩
              · have kd : decide ((k : Int) < (s.size : Int)) = false := decide_eq_false (by omega)
                have kd2 : decide (k < s.size) = false := decide_eq_false hlt
                have HE : Hid (((btL s).drop i).dropWhile wordC = (btL s).drop k) := Lib.hid (by rw [HD.out, List.drop_eq_nil_of_le (by rw [btL_length]; omega)]; rfl)
                have HF : Hid (valF ((btL s).drop i) = some (⟨3, 0, btL (s.extract i k)⟩, (btL s).drop k)) := Lib.hid (by rw [HV2.out, HWF.out, HE.out, dw_drop hik hks HE.out]; rfl)
                have hez : (s.extract i k).size ≤ 1000000 := by simp; omega
                obtain ⟨x, hx⟩ : ∃ x, s.extract i k = x := ⟨_, rfl⟩
                rw [hx] at HF hez
                have hkn : (k : Int) ≤ (s.size : Int) := by omega
                have hin : (i : Int) ≤ (k : Int) := by omega
                have i0 : (0 : Int) ≤ (i : Int) := by omega
                have l0 := BX.out.lt
                have c0 := BX.out.cell 0
                have c1 := BX.out.cell 1
                have c2 := BX.out.cell 2
                have f0 := BX.out.free 0
                have f1 := BX.out.free 1
                have f2 := BX.out.free 2
                go_wp2
                have BX9 := Lib.hid (((BX.out.set 0 (.int .i64 3)).set 1 (.int .i64 0)).set 2 (.string x))
                have HB9 := Lib.hid (((HB1.out.setCell (p := ⟨rb, 0, none⟩) hrw.out (.int .i64 3)).setCell (p := ⟨rb, 1, none⟩) hrw.out (.int .i64 0)).setCell (p := ⟨rb, 2, none⟩) hrw.out (.string x))
                obtain ⟨w9, hw9⟩ : ∃ W, ((w1.setCell ⟨rb, 0, none⟩ (.int .i64 3)).setCell ⟨rb, 1, none⟩ (.int .i64 0)).setCell ⟨rb, 2, none⟩ (.string x) = W := ⟨_, rfl⟩
                rw [hw9] at BX9 HB9 ⊢
                have s0 := BX9.out.cell 0
                have s1 := BX9.out.cell 1
                have s2 := BX9.out.cell 2
                exact bodyPost_ret (v := .tuple #[.agg #[.int .i64 3, .int .i64 0, .string x], .int .i64 (k : Int)]) (by simp [results, Tryz.results133, go_sem, s0, s1, s2]) rfl ⟨⟨3, 0, x⟩, (k : Int), rfl, HB9.out, hez, Or.inr ⟨k, hik, hks, rfl, HF.out⟩⟩
/-- What is behind a key. -/
def behF (l : List Int) : Option (FVal × List Int) := match l with
  | 61 :: r => valF r
  | r => some (flagV 1, r)
end Go.Proofs.YtodibjpojfipoaaGreatDoor
