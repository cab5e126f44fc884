/- The document's From. -/
import Derived.Test.YtodibjpojfipoaaGreatDoorFeRfr
import Derived.Test.YtodibjpojfipoaaGreatDoorRow
namespace Go.Proofs.YtodibjpojfipoaaGreatDoor
open Go Go.RowKit
set_option linter.unusedVariables false
set_option linter.unusedSimpArgs false
set_option maxRecDepth 10000

theorem retO_no {Y now : Int} {hs : HL} (h : hasH kRa hs = false) : retO Y now hs = none := by
  unfold retO
  rw [valH_none h]
  rfl
theorem class_is (s : Int) : classI s = if s = 429 ∨ s = 503 then 3 else if 400 ≤ s ∧ s < 500 then 2 else if 200 ≤ s ∧ s < 400 then 1 else 4 := by
  unfold classI
  split
  · rfl
  · split
    · rw [if_neg (by omega)]
    · rfl
set_option maxHeartbeats 4000000 in
theorem rfrom_at (st : Int) (sa : Option Addr) (g off c : Nat) (hs : HL) (hl : hs.length ≤ 1000000) (hz : ∀ x ∈ hs, x.1.size ≤ 1000000 ∧ x.2.size ≤ 1000000) (now Y : Int) (w : World) (hA : hs ≠ [] → HdAt w g off hs) (hSa : hs ≠ [] → sa = some ⟨g, off, none⟩)
    (hRS : ∀ W, Below w.heap.size w W → Calls Tryz.prog 14 #[.slice sa hs.length c, .int .i64 now] W (OptP (resO now hs) W))
    (hRT : hasH kRa hs = true → ∀ W, Below w.heap.size w W → Calls Tryz.prog 11 #[.string (valH kRa hs), .int .i64 now] W (OptP (retO Y now hs) W)) :
    Calls Tryz.prog 9 #[.int .i64 st, .slice sa hs.length c, .int .i64 now] w fun e w' => e = .returned (.agg #[.int .i64 (classI st), .int .i64 ((retO Y now hs).getD 0), .int .i64 ((resO now hs).getD 0)]) ∧ Below w.heap.size w w' := by
  have hA' : ∀ (W : World), Below w.heap.size w W → hs ≠ [] → HdAt W g off hs := fun W hW h => ⟨Nat.lt_of_lt_of_le (hA h).lt hW.size, fun i x hx => (hW.cell (hA h).lt).trans ((hA h).nm i x hx), fun i x hx => (hW.cell (hA h).lt).trans ((hA h).vl i x hx)⟩
  have V := Lib.hid (fun (W : World) (hW : Below w.heap.size w W) => rfield_at sa g off c hs hl hz ⟨#[82, 101, 116, 114, 121, 45, 65, 102, 116, 101, 114]⟩ kRa (by decide) (by decide) W (hA' W hW) hSa)
  have RS := Lib.hid hRS
  have RT := Lib.hid hRT
  have HN : Hid (hasH kRa hs = false → (retO Y now hs).getD 0 = 0) := Lib.hid (fun h => by rw [retO_no h]; rfl)
  obtain ⟨v, hv⟩ : ∃ v, valH kRa hs = v := ⟨_, rfl⟩
  obtain ⟨h, hh⟩ : ∃ v, hasH kRa hs = v := ⟨_, rfl⟩
  rw [hv, hh] at V
  rw [hv, hh] at RT
  rw [hh] at HN
  obtain ⟨a, ha⟩ : ∃ a, retO Y now hs = a := ⟨_, rfl⟩
  obtain ⟨b, hb⟩ : ∃ a, resO now hs = a := ⟨_, rfl⟩
  rw [ha] at RT HN ⊢
  rw [hb] at RS ⊢
  obtain ⟨C1, hC1⟩ : ∃ C : Int, (if 200 ≤ st ∧ st < 400 then 1 else 4) = C := ⟨_, rfl⟩
  obtain ⟨C2, hC2⟩ : ∃ C : Int, (if 400 ≤ st ∧ st < 500 then 2 else C1) = C := ⟨_, rfl⟩
  obtain ⟨C3, hC3⟩ : ∃ C : Int, (if st = 429 ∨ st = 503 then 3 else C2) = C := ⟨_, rfl⟩
  have e : classI st = C3 := by rw [class_is, hC1, hC2, hC3]
  have H1 := Lib.hid hC1
  have H2 := Lib.hid hC2
  have H3 := Lib.hid hC3
  rw [e]
  obtain ⟨N, hN⟩ : ∃ N, hs.length = N := ⟨_, rfl⟩
  rw [hN] at V RS ⊢
  clear hN e hC1 hC2 hC3 ha hb hv hh hRS hRT hA' hA hSa hl hz
  go_enter Tryz.func9, Tryz.ntmps9
  go_upto_region 2 with fail
  refine code_forget (fun W => Hid (Box W w.heap.size #[.int .i64 0, .int .i64 0, .int .i64 0] 25) ∧ Hid (Box W (w.heap.size + 1) #[.int .i64 4, .int .i64 0, .int .i64 0] 25) ∧ Hid (Below w.heap.size w W)) ⟨Lib.hid ((Box.new w _ _).alloc _), Lib.hid (by
    have h := Box.new (w.alloc (.cells #[.int .i64 0, .int .i64 0, .int .i64 0] 25)) #[.int .i64 4, .int .i64 0, .int .i64 0] 25
    rw [World.size_alloc] at h
    exact h), Lib.hid (((Below.refl w.heap.size w).alloc (Nat.le_refl _) _).alloc (by simp) _)⟩ ?_
  obtain ⟨rb, hrb⟩ : ∃ x, w.heap.size = x := ⟨_, rfl⟩
  have HRB := Lib.hid hrb
  obtain ⟨qb, hqb⟩ : ∃ x, rb + 1 = x := ⟨_, rfl⟩
  have HQB := Lib.hid hqb
  rintro w1 ⟨RX, QX, HB1⟩
  rw [hrb] at RX QX ⊢
  rw [hqb] at QX ⊢
  clear hrb hqb
  have hne : rb ≠ qb := by have := HQB.out; omega
  have hqw : Hid (w.heap.size ≤ qb) := Lib.hid (by have := HQB.out; have := HRB.out; omega)
  go_upto_region 2 with fail
  obtain ⟨Q, hQ⟩ : ∃ q : Bool, decide (200 ≤ st ∧ st < 400) = q := ⟨_, rfl⟩
  have HQ := Lib.hid hQ
  clear hQ
  go_cut [20] from 14 (fun v wx => v = .bool Q ∧ wx = w1)
  case first =>
    by_cases p0 : 200 ≤ st
    · have d0 : decide (200 ≤ st) = true := decide_eq_true p0
      by_cases p1 : st < 400
      · have d1 : decide (st < 400) = true := decide_eq_true p1
        have e : Q = true := by rw [← HQ.out]; exact decide_eq_true ⟨p0, p1⟩
        subst e
        go_wp2
        go_meet
        exact ⟨rfl, rfl⟩
      · have d1 : decide (st < 400) = false := decide_eq_false p1
        have e : Q = false := by rw [← HQ.out]; exact decide_eq_false (fun h => p1 h.2)
        subst e
        go_wp2
        go_meet
        exact ⟨rfl, rfl⟩
    · have d0 : decide (200 ≤ st) = false := decide_eq_false p0
      have e : Q = false := by rw [← HQ.out]; exact decide_eq_false (fun h => p0 h.1)
      subst e
      go_wp2
      go_meet
      exact ⟨rfl, rfl⟩
  case rest =>
  obtain ⟨rfl, he⟩ := hcut
  have he := he.symm
  subst he
  go_upto_if 20 with fail
  go_cut [14] from 14 (fun v14 wx => Hid (Box wx qb #[.int .i64 C1, .int .i64 0, .int .i64 0] 25) ∧ Hid (Box wx rb #[.int .i64 0, .int .i64 0, .int .i64 0] 25) ∧ Hid (Below w.heap.size w wx))
  case first =>
    have c0 := QX.out.cell 0
    have f0 := QX.out.free 0
    have l0 := QX.out.lt
    cases Q with
    | true =>
      have e : C1 = 1 := by rw [← H1.out, if_pos (of_decide_eq_true HQ.out)]
      subst e
      go_wp2
      go_meet
      exact ⟨Lib.hid (QX.out.set 0 (.int .i64 1)), Lib.hid (RX.out.other (a := ⟨qb, 0, none⟩) hne _), Lib.hid (HB1.out.setCell (p := ⟨qb, 0, none⟩) hqw.out _)⟩
    | false =>
      have E : Hid (C1 = 4) := Lib.hid (by rw [← H1.out, if_neg (of_decide_eq_false HQ.out)])
      go_wp2
      go_meet
      exact ⟨by rw [E.out]; exact QX, RX, HB1⟩
  case rest =>
  obtain ⟨QX2, RX2, HB2⟩ := hcut
  obtain ⟨w2, hw2⟩ : ∃ W, W = wc := ⟨_, rfl⟩
  subst hw2
  clear HQ QX RX HB1
  go_upto_region 4 with fail
  obtain ⟨Q, hQ⟩ : ∃ q : Bool, decide (400 ≤ st ∧ st < 500) = q := ⟨_, rfl⟩
  have HQ := Lib.hid hQ
  clear hQ
  go_cut [27] from 14 (fun v wx => v = .bool Q ∧ wx = w2)
  case first =>
    by_cases p0 : 400 ≤ st
    · have d0 : decide (400 ≤ st) = true := decide_eq_true p0
      by_cases p1 : st < 500
      · have d1 : decide (st < 500) = true := decide_eq_true p1
        have e : Q = true := by rw [← HQ.out]; exact decide_eq_true ⟨p0, p1⟩
        subst e
        go_wp2
        go_meet
        exact ⟨rfl, rfl⟩
      · have d1 : decide (st < 500) = false := decide_eq_false p1
        have e : Q = false := by rw [← HQ.out]; exact decide_eq_false (fun h => p1 h.2)
        subst e
        go_wp2
        go_meet
        exact ⟨rfl, rfl⟩
    · have d0 : decide (400 ≤ st) = false := decide_eq_false p0
      have e : Q = false := by rw [← HQ.out]; exact decide_eq_false (fun h => p0 h.1)
      subst e
      go_wp2
      go_meet
      exact ⟨rfl, rfl⟩
  case rest =>
  obtain ⟨rfl, he⟩ := hcut
  have he := he.symm
  subst he
  go_upto_if 27 with fail
  go_cut [14] from 14 (fun v14 wx => Hid (Box wx qb #[.int .i64 C2, .int .i64 0, .int .i64 0] 25) ∧ Hid (Box wx rb #[.int .i64 0, .int .i64 0, .int .i64 0] 25) ∧ Hid (Below w.heap.size w wx))
  case first =>
    have c0 := QX2.out.cell 0
    have f0 := QX2.out.free 0
    have l0 := QX2.out.lt
    cases Q with
    | true =>
      have e : C2 = 2 := by rw [← H2.out, if_pos (of_decide_eq_true HQ.out)]
      subst e
      go_wp2
      go_meet
      exact ⟨Lib.hid (QX2.out.set 0 (.int .i64 2)), Lib.hid (RX2.out.other (a := ⟨qb, 0, none⟩) hne _), Lib.hid (HB2.out.setCell (p := ⟨qb, 0, none⟩) hqw.out _)⟩
    | false =>
      have E : Hid (C2 = C1) := Lib.hid (by rw [← H2.out, if_neg (of_decide_eq_false HQ.out)])
      go_wp2
      go_meet
      exact ⟨by rw [E.out]; exact QX2, RX2, HB2⟩
  case rest =>
  obtain ⟨QX3, RX3, HB3⟩ := hcut
  obtain ⟨w3, hw3⟩ : ∃ W, W = wc := ⟨_, rfl⟩
  subst hw3
  clear HQ QX2 RX2 HB2
  go_upto_region 6 with fail
  obtain ⟨Q, hQ⟩ : ∃ q : Bool, decide (st = 429 ∨ st = 503) = q := ⟨_, rfl⟩
  have HQ := Lib.hid hQ
  clear hQ
  go_cut [34] from 14 (fun v wx => v = .bool Q ∧ wx = w3)
  case first =>
    by_cases p0 : st = 429
    · have d0 : (st == 429) = true := by simpa using p0
      have e : Q = true := by rw [← HQ.out]; exact decide_eq_true (Or.inl p0)
      subst e
      clear p0
      go_wp2
      go_meet
      exact ⟨rfl, rfl⟩
    · have d0 : (st == 429) = false := by simpa using p0
      by_cases p1 : st = 503
      · have d1 : (st == 503) = true := by simpa using p1
        have e : Q = true := by rw [← HQ.out]; exact decide_eq_true (Or.inr p1)
        subst e
        clear p0 p1
        go_wp2
        go_meet
        exact ⟨rfl, rfl⟩
      · have d1 : (st == 503) = false := by simpa using p1
        have e : Q = false := by rw [← HQ.out]; exact decide_eq_false (fun h => h.elim p0 p1)
        subst e
        clear p0 p1
        go_wp2
        go_meet
        exact ⟨rfl, rfl⟩
  case rest =>
  obtain ⟨rfl, he⟩ := hcut
  have he := he.symm
  subst he
  go_upto_if 34 with fail
  go_cut [14] from 14 (fun v14 wx => Hid (Box wx qb #[.int .i64 C3, .int .i64 0, .int .i64 0] 25) ∧ Hid (Box wx rb #[.int .i64 0, .int .i64 0, .int .i64 0] 25) ∧ Hid (Below w.heap.size w wx))
  case first =>
    have c0 := QX3.out.cell 0
    have f0 := QX3.out.free 0
    have l0 := QX3.out.lt
    cases Q with
    | true =>
      have e : C3 = 3 := by rw [← H3.out, if_pos (of_decide_eq_true HQ.out)]
      subst e
      go_wp2
      go_meet
      exact ⟨Lib.hid (QX3.out.set 0 (.int .i64 3)), Lib.hid (RX3.out.other (a := ⟨qb, 0, none⟩) hne _), Lib.hid (HB3.out.setCell (p := ⟨qb, 0, none⟩) hqw.out _)⟩
    | false =>
      have E : Hid (C3 = C2) := Lib.hid (by rw [← H3.out, if_neg (of_decide_eq_false HQ.out)])
      go_wp2
      go_meet
      exact ⟨by rw [E.out]; exact QX3, RX3, HB3⟩
  case rest =>
  obtain ⟨QX4, RX4, HB4⟩ := hcut
  obtain ⟨w4, hw4⟩ : ∃ W, W = wc := ⟨_, rfl⟩
  subst hw4
  clear HQ QX3 RX3 HB3
  clear H1 H2 H3
  go_wp2_with fail
  refine (V.out _ HB4.out).mono ?_
  rintro e w5 ⟨rfl, hb⟩
  have HB5 := Lib.hid (HB4.out.trans (hb.mono HB4.out.size))
  have QX5 := Lib.hid (QX4.out.later hb)
  have RX5 := Lib.hid (RX4.out.later hb)
  clear hb HB4 QX4 RX4 V
  obtain ⟨A, hA⟩ : ∃ x, a.getD 0 = x := ⟨_, rfl⟩
  have HAA := Lib.hid hA
  have HN2 : Hid (h = false → A = 0) := Lib.hid (fun e => by rw [← hA]; exact HN.out e)
  clear HN
  go_upto_if 41 with fail
  go_cut [14] from 14 (fun v14 wx => Hid (Box wx qb #[.int .i64 C3, .int .i64 A, .int .i64 0] 25) ∧ Hid (Box wx rb #[.int .i64 0, .int .i64 0, .int .i64 0] 25) ∧ Hid (Below w.heap.size w wx))
  case first =>
    cases h with
    | false =>
      have e := HN2.out rfl
      subst e
      clear hA
      go_wp2
      go_meet
      exact ⟨QX5, RX5, HB5⟩
    | true =>
      have RT2 := Lib.hid (RT.out (by simp))
      clear RT hA
      go_wp2_with fail
      refine (RT2.out _ HB5.out).mono ?_
      rintro e w6 ⟨rfl, hb⟩
      have HB6 := Lib.hid (HB5.out.trans (hb.mono HB5.out.size))
      have QX6 := Lib.hid (QX5.out.later hb)
      have RX6 := Lib.hid (RX5.out.later hb)
      clear hb HB5 QX5 RX5 RT2
      have c1 := QX6.out.cell 1
      have f1 := QX6.out.free 1
      have l0 := QX6.out.lt
      cases a with
      | none =>
        have e : A = 0 := HAA.out.symm
        subst e
        go_wp2
        go_meet
        exact ⟨QX6, RX6, HB6⟩
      | some z =>
        have e : A = z := HAA.out.symm
        subst e
        go_wp2
        go_meet
        exact ⟨Lib.hid (QX6.out.set 1 (.int .i64 A)), Lib.hid (RX6.out.other (a := ⟨qb, 1, none⟩) hne _), Lib.hid (HB6.out.setCell (p := ⟨qb, 1, none⟩) hqw.out _)⟩
  case rest =>
  obtain ⟨QX6, RX6, HB6⟩ := hcut
  obtain ⟨w6, hw6⟩ : ∃ W, W = wc := ⟨_, rfl⟩
  subst hw6
  clear HN2 RT HB5 QX5 RX5
  go_wp2_with fail
  refine (RS.out _ HB6.out).mono ?_
  rintro e w7 ⟨rfl, hb⟩
  have HB7 := Lib.hid (HB6.out.trans (hb.mono HB6.out.size))
  have QX7 := Lib.hid (QX6.out.later hb)
  have RX7 := Lib.hid (RX6.out.later hb)
  clear hb HB6 QX6 RX6 RS
  obtain ⟨B, hB⟩ : ∃ x, b.getD 0 = x := ⟨_, rfl⟩
  have HBB := Lib.hid hB
  go_upto_if 57 with fail
  go_cut [14] from 14 (fun v14 wx => Hid (Box wx qb #[.int .i64 C3, .int .i64 A, .int .i64 B] 25) ∧ Hid (Box wx rb #[.int .i64 0, .int .i64 0, .int .i64 0] 25) ∧ Hid (Below w.heap.size w wx))
  case first =>
    have c2 := QX7.out.cell 2
    have f2 := QX7.out.free 2
    have l0 := QX7.out.lt
    clear hB hA
    cases b with
    | none =>
      have e : B = 0 := HBB.out.symm
      subst e
      go_wp2
      go_meet
      exact ⟨QX7, RX7, HB7⟩
    | some z =>
      have e : B = z := HBB.out.symm
      subst e
      go_wp2
      go_meet
      exact ⟨Lib.hid (QX7.out.set 2 (.int .i64 B)), Lib.hid (RX7.out.other (a := ⟨qb, 2, none⟩) hne _), Lib.hid (HB7.out.setCell (p := ⟨qb, 2, none⟩) hqw.out _)⟩
  case rest =>
  obtain ⟨QX8, RX8, HB8⟩ := hcut
  obtain ⟨w8, hw8⟩ : ∃ W, W = wc := ⟨_, rfl⟩
  subst hw8
  clear hA hB HB7 QX7 RX7
  have q0 := QX8.out.cell 0
  have q1 := QX8.out.cell 1
  have q2 := QX8.out.cell 2
  have c0 := RX8.out.cell 0
  have c1 := RX8.out.cell 1
  have c2 := RX8.out.cell 2
  have f0 := RX8.out.free 0
  have f1 := RX8.out.free 1
  have f2 := RX8.out.free 2
  have l0 := RX8.out.lt
  go_wp2
  have BX5 := Lib.hid (((RX8.out.set 0 (.int .i64 C3)).set 1 (.int .i64 A)).set 2 (.int .i64 B))
  have hrw : w.heap.size ≤ rb := by rw [HRB.out]; exact Nat.le_refl _
  have HB9 := Lib.hid (((HB8.out.setCell (p := ⟨rb, 0, none⟩) hrw (.int .i64 C3)).setCell (p := ⟨rb, 1, none⟩) hrw (.int .i64 A)).setCell (p := ⟨rb, 2, none⟩) hrw (.int .i64 B))
  obtain ⟨w9, hw9⟩ : ∃ W, ((w8.setCell ⟨rb, 0, none⟩ (.int .i64 C3)).setCell ⟨rb, 1, none⟩ (.int .i64 A)).setCell ⟨rb, 2, none⟩ (.int .i64 B) = W := ⟨_, rfl⟩
  rw [hw9] at BX5 HB9 ⊢
  have s0 := BX5.out.cell 0
  have s1 := BX5.out.cell 1
  have s2 := BX5.out.cell 2
  exact bodyPost_ret (v := .agg #[.int .i64 C3, .int .i64 A, .int .i64 B]) (by simp [results, Tryz.results9, go_sem, s0, s1, s2]) rfl ⟨by rw [HAA.out, HBB.out], HB9.out⟩
end Go.Proofs.YtodibjpojfipoaaGreatDoor
