/- A time written in the first form. -/
import Derived.Test.YtcbllfbhifimnaaDoorDtPad
namespace Go.Proofs.YtcbllfbhifimnaaDoor
open Go.RowKit
set_option linter.unusedVariables false
set_option linter.unusedSimpArgs false
set_option maxRecDepth 10000

def clkL (m : Mo) : List Int := padN 2 m.h.toNat ++ [58] ++ padN 2 m.mi.toNat ++ [58] ++ padN 2 m.s.toNat
/-- The first form. -/
def firstL (m : Mo) : List Int := dayH.getD m.wd.toNat [] ++ [44, 32] ++ padN 2 m.d.toNat ++ [32] ++ monN.getD (m.mo - 1).toNat [] ++ [32] ++ padN 4 m.y.toNat ++ [32] ++ clkL m ++ [32, 71, 77, 84]
/-- The moment of some seconds, if its day is known. -/
def moS (sec y mo d : Int) : Mo := ⟨(sec / 86400 + 3) % 7, y, mo, d, sec % 86400 / 3600, sec % 86400 / 60 % 60, sec % 86400 % 60⟩
theorem pad2_as (v : Int) (t : ByteArray) (ht : strL (padN 2 v.toNat) = t) (h0 : 0 ≤ v) (h1 : v < 100) (w : World) (hT : TabT w) :
    Calls Tryd.prog 28 #[.int .i64 v, .int .i64 2] w fun e w' => e = .returned (.string t) ∧ Below w.heap.size w w' := by
  have := padded_at 1 v.toNat t ht (by omega) (by show v.toNat < 100; omega) (by omega) w hT
  rw [Int.toNat_of_nonneg h0] at this
  exact this
theorem pad4_as (v : Int) (t : ByteArray) (ht : strL (padN 4 v.toNat) = t) (h0 : 0 ≤ v) (h1 : v < 10000) (w : World) (hT : TabT w) :
    Calls Tryd.prog 28 #[.int .i64 v, .int .i64 4] w fun e w' => e = .returned (.string t) ∧ Below w.heap.size w w' := by
  have := padded_at 3 v.toNat t ht (by omega) (by show v.toNat < 10000; omega) (by omega) w hT
  rw [Int.toNat_of_nonneg h0] at this
  exact this
theorem btD_app (a b : ByteArray) : btL (a ++ b) = btL a ++ btL b := by simp [btL, ByteArray.data_append]
theorem padN_byts : ∀ k n, Byts (padN k n)
  | 0, _ => Byts.nil
  | k + 1, n => by unfold padN; exact (padN_byts k _).append (Byts.mk ⟨by omega, by omega⟩ Byts.nil)
theorem btD_pad (k n : Nat) : btL (strL (padN k n)) = padN k n := btL_strL (padN_byts k n)
theorem pad_size (k n : Nat) (t : ByteArray) (ht : strL (padN k n) = t) : t.size = k := by rw [← ht, strL_size, padN_len]
theorem tdm_neg (sec : Int) (h : sec < 0) : sec.tdiv 86400 = -((-sec) / 86400) ∧ sec.tmod 86400 = -((-sec) % 86400) := by
  obtain ⟨m, rfl⟩ : ∃ m, sec = -m := ⟨-sec, by omega⟩
  rw [Int.neg_tdiv, Int.neg_tmod, Int.neg_neg, Int.tdiv_eq_ediv_of_nonneg (by omega), Int.tmod_eq_emod_of_nonneg (by omega)]
  exact ⟨rfl, rfl⟩
set_option maxHeartbeats 4000000 in
theorem format_yes (sec y mo d : Int) (t : ByteArray) (hv : Valid y mo d) (hn : num y mo d = sec / 86400) (ht : strL (firstL (moS sec y mo d)) = t) (w : World) (hT : TabT w) :
    Calls Tryd.prog 12 #[.int .i64 sec] w fun e w' => e = .returned (.tuple #[.string t, .bool true]) ∧ Below w.heap.size w w' := by
  have HT := Lib.hid hT
  obtain ⟨n, hnn⟩ : ∃ n, sec / 86400 = n := ⟨_, rfl⟩
  obtain ⟨r, hrr⟩ : ∃ r, sec % 86400 = r := ⟨_, rfl⟩
  obtain ⟨h, hh⟩ : ∃ h, r / 3600 = h := ⟨_, rfl⟩
  obtain ⟨q, hq⟩ : ∃ q, r / 60 = q := ⟨_, rfl⟩
  obtain ⟨mi, hmi⟩ : ∃ mi, q % 60 = mi := ⟨_, rfl⟩
  obtain ⟨s, hs⟩ : ∃ s, r % 60 = s := ⟨_, rfl⟩
  obtain ⟨K, hK⟩ : ∃ K : Nat, (n + 3) % 7 = (K : Int) := ⟨((n + 3) % 7).toNat, by omega⟩
  obtain ⟨J, hJJ⟩ : ∃ J : Nat, mo - 1 = (J : Int) := ⟨(mo - 1).toNat, by have := hv.2.2.1; omega⟩
  have hK7 : K < 7 := by omega
  have hJ : J < 12 := by have := hv.2.2.2.1; omega
  obtain ⟨x, g1, g2, g3, g4⟩ := day_get K hK7
  obtain ⟨mn, hmn, g5⟩ := mon_get J hJ
  obtain ⟨nm, hnm⟩ : ∃ nm, x.extract 0 3 = nm := ⟨_, rfl⟩
  have zn : nm.size = 3 := by rw [← hnm]; simp; omega
  have zm : mn.size ≤ 100 := by
    have hk : J = 0 ∨ J = 1 ∨ J = 2 ∨ J = 3 ∨ J = 4 ∨ J = 5 ∨ J = 6 ∨ J = 7 ∨ J = 8 ∨ J = 9 ∨ J = 10 ∨ J = 11 := by omega
    rcases hk with rfl | rfl | rfl | rfl | rfl | rfl | rfl | rfl | rfl | rfl | rfl | rfl <;> (injection hmn with e; injection e with e; rw [← e]; decide)
  obtain ⟨ph, hph⟩ : ∃ t, strL (padN 2 h.toNat) = t := ⟨_, rfl⟩
  obtain ⟨pm, hpm⟩ : ∃ t, strL (padN 2 mi.toNat) = t := ⟨_, rfl⟩
  obtain ⟨ps, hps⟩ : ∃ t, strL (padN 2 s.toNat) = t := ⟨_, rfl⟩
  obtain ⟨pd, hpd⟩ : ∃ t, strL (padN 2 d.toNat) = t := ⟨_, rfl⟩
  obtain ⟨py, hpy⟩ : ∃ t, strL (padN 4 y.toNat) = t := ⟨_, rfl⟩
  have zph := pad_size 2 _ ph hph
  have zpm := pad_size 2 _ pm hpm
  have zps := pad_size 2 _ ps hps
  have zpd := pad_size 2 _ pd hpd
  have zpy := pad_size 4 _ py hpy
  have b1 := hv.1
  have b2 := hv.2.1
  have b3 := hv.2.2.2.2.1
  have b4 : d ≤ 31 := by have := hv.2.2.2.2.2; have := lenI_bd y mo; omega
  have hnr := num_range y mo d hv
  rw [hn, hnn] at hnr
  obtain ⟨n0, n1⟩ := hnr
  have PH := Lib.hid (fun W hW => pad2_as h ph hph (by omega) (by omega) W hW)
  have PM := Lib.hid (fun W hW => pad2_as mi pm hpm (by omega) (by omega) W hW)
  have PS := Lib.hid (fun W hW => pad2_as s ps hps (by omega) (by omega) W hW)
  have PD := Lib.hid (fun W hW => pad2_as d pd hpd (by omega) (by omega) W hW)
  have PY := Lib.hid (fun W hW => pad4_as y py hpy (by omega) (by omega) W hW)
  have DA : Hid (∀ W : World, Calls Tryd.prog 27 #[.int .i64 n] W fun e w' => e = .returned (.tuple #[.int .i64 y, .int .i64 mo, .int .i64 d, .bool true]) ∧ W = w') := Lib.hid (fun W => by have := date_as y mo d hv W; rw [hn, hnn] at this; exact this)
  have WK : Hid (∀ W : World, Calls Tryd.prog 29 #[.int .i64 n] W fun e w' => e = .returned (.int .i64 (K : Int)) ∧ W = w') := Lib.hid (fun W => by have := week_any n (by omega) (by omega) W; rw [hK] at this; exact this)
  obtain ⟨c1, hc1⟩ : ∃ c, ph ++ (⟨#[58]⟩ : ByteArray) = c := ⟨_, rfl⟩
  obtain ⟨c2, hc2⟩ : ∃ c, c1 ++ pm = c := ⟨_, rfl⟩
  obtain ⟨c3, hc3⟩ : ∃ c, c2 ++ (⟨#[58]⟩ : ByteArray) = c := ⟨_, rfl⟩
  obtain ⟨ck, hck⟩ : ∃ c, c3 ++ ps = c := ⟨_, rfl⟩
  obtain ⟨s1, hs1⟩ : ∃ c, nm ++ (⟨#[44, 32]⟩ : ByteArray) = c := ⟨_, rfl⟩
  obtain ⟨s2, hs2⟩ : ∃ c, s1 ++ pd = c := ⟨_, rfl⟩
  obtain ⟨s3, hs3⟩ : ∃ c, s2 ++ (⟨#[32]⟩ : ByteArray) = c := ⟨_, rfl⟩
  obtain ⟨s4, hs4⟩ : ∃ c, s3 ++ mn = c := ⟨_, rfl⟩
  obtain ⟨s5, hs5⟩ : ∃ c, s4 ++ (⟨#[32]⟩ : ByteArray) = c := ⟨_, rfl⟩
  obtain ⟨s6, hs6⟩ : ∃ c, s5 ++ py = c := ⟨_, rfl⟩
  obtain ⟨s7, hs7⟩ : ∃ c, s6 ++ (⟨#[32]⟩ : ByteArray) = c := ⟨_, rfl⟩
  obtain ⟨s8, hs8⟩ : ∃ c, s7 ++ ck = c := ⟨_, rfl⟩
  have ht2 : s8 ++ (⟨#[32, 71, 77, 84]⟩ : ByteArray) = t := by
    rw [← ht]
    rw [← strL_btL (s8 ++ _)]
    congr 1
    unfold firstL clkL moS
    dsimp only
    rw [hrr, hnn, hK, hh, hq, hmi, hs, hJJ, Int.toNat_natCast, Int.toNat_natCast]
    have eD : dayH.getD K [] = btL nm := by
      rw [← hnm]
      have := congrArg List.head? g3
      rw [List.head?_drop] at this
      rw [List.getD_eq_getElem?_getD, this]
      rfl
    have eM : monN.getD J [] = btL mn := by
      have := congrArg List.head? g5
      rw [List.head?_drop] at this
      rw [List.getD_eq_getElem?_getD, this]
      rfl
    rw [eD, eM, ← hs8, ← hs7, ← hs6, ← hs5, ← hs4, ← hs3, ← hs2, ← hs1, ← hck, ← hc3, ← hc2, ← hc1]
    rw [← hph, ← hpm, ← hps, ← hpd, ← hpy]
    simp only [btD_app, btD_pad]
    simp only [List.append_assoc]
    rfl
  have zz_c1 : (⟨#[58]⟩ : ByteArray).size = 1 := rfl
  have z_c1 : c1.size ≤ 3 := by rw [← hc1, ByteArray.size_append]; omega
  have A_c1 : ∀ wx : World, (Op.stringOp .add ph ⟨#[58]⟩).run Tryd.prog wx = .ok (.string c1) wx := fun wx => by rw [run_string_add_sum wx _ _ (by omega), hc1]
  have z_c2 : c2.size ≤ 5 := by rw [← hc2, ByteArray.size_append]; omega
  have A_c2 : ∀ wx : World, (Op.stringOp .add c1 pm).run Tryd.prog wx = .ok (.string c2) wx := fun wx => by rw [run_string_add_sum wx _ _ (by omega), hc2]
  have zz_c3 : (⟨#[58]⟩ : ByteArray).size = 1 := rfl
  have z_c3 : c3.size ≤ 6 := by rw [← hc3, ByteArray.size_append]; omega
  have A_c3 : ∀ wx : World, (Op.stringOp .add c2 ⟨#[58]⟩).run Tryd.prog wx = .ok (.string c3) wx := fun wx => by rw [run_string_add_sum wx _ _ (by omega), hc3]
  have z_ck : ck.size ≤ 8 := by rw [← hck, ByteArray.size_append]; omega
  have A_ck : ∀ wx : World, (Op.stringOp .add c3 ps).run Tryd.prog wx = .ok (.string ck) wx := fun wx => by rw [run_string_add_sum wx _ _ (by omega), hck]
  have zz_s1 : (⟨#[44, 32]⟩ : ByteArray).size = 2 := rfl
  have z_s1 : s1.size ≤ 5 := by rw [← hs1, ByteArray.size_append]; omega
  have A_s1 : ∀ wx : World, (Op.stringOp .add nm ⟨#[44, 32]⟩).run Tryd.prog wx = .ok (.string s1) wx := fun wx => by rw [run_string_add_sum wx _ _ (by omega), hs1]
  have z_s2 : s2.size ≤ 7 := by rw [← hs2, ByteArray.size_append]; omega
  have A_s2 : ∀ wx : World, (Op.stringOp .add s1 pd).run Tryd.prog wx = .ok (.string s2) wx := fun wx => by rw [run_string_add_sum wx _ _ (by omega), hs2]
  have zz_s3 : (⟨#[32]⟩ : ByteArray).size = 1 := rfl
  have z_s3 : s3.size ≤ 8 := by rw [← hs3, ByteArray.size_append]; omega
  have A_s3 : ∀ wx : World, (Op.stringOp .add s2 ⟨#[32]⟩).run Tryd.prog wx = .ok (.string s3) wx := fun wx => by rw [run_string_add_sum wx _ _ (by omega), hs3]
  have z_s4 : s4.size ≤ 108 := by rw [← hs4, ByteArray.size_append]; omega
  have A_s4 : ∀ wx : World, (Op.stringOp .add s3 mn).run Tryd.prog wx = .ok (.string s4) wx := fun wx => by rw [run_string_add_sum wx _ _ (by omega), hs4]
  have zz_s5 : (⟨#[32]⟩ : ByteArray).size = 1 := rfl
  have z_s5 : s5.size ≤ 109 := by rw [← hs5, ByteArray.size_append]; omega
  have A_s5 : ∀ wx : World, (Op.stringOp .add s4 ⟨#[32]⟩).run Tryd.prog wx = .ok (.string s5) wx := fun wx => by rw [run_string_add_sum wx _ _ (by omega), hs5]
  have z_s6 : s6.size ≤ 113 := by rw [← hs6, ByteArray.size_append]; omega
  have A_s6 : ∀ wx : World, (Op.stringOp .add s5 py).run Tryd.prog wx = .ok (.string s6) wx := fun wx => by rw [run_string_add_sum wx _ _ (by omega), hs6]
  have zz_s7 : (⟨#[32]⟩ : ByteArray).size = 1 := rfl
  have z_s7 : s7.size ≤ 114 := by rw [← hs7, ByteArray.size_append]; omega
  have A_s7 : ∀ wx : World, (Op.stringOp .add s6 ⟨#[32]⟩).run Tryd.prog wx = .ok (.string s7) wx := fun wx => by rw [run_string_add_sum wx _ _ (by omega), hs7]
  have z_s8 : s8.size ≤ 122 := by rw [← hs8, ByteArray.size_append]; omega
  have A_s8 : ∀ wx : World, (Op.stringOp .add s7 ck).run Tryd.prog wx = .ok (.string s8) wx := fun wx => by rw [run_string_add_sum wx _ _ (by omega), hs8]
  have zz_t : (⟨#[32, 71, 77, 84]⟩ : ByteArray).size = 4 := rfl
  have z_t : t.size ≤ 126 := by rw [← ht2, ByteArray.size_append]; omega
  have A_t : ∀ wx : World, (Op.stringOp .add s8 ⟨#[32, 71, 77, 84]⟩).run Tryd.prog wx = .ok (.string t) wx := fun wx => by rw [run_string_add_sum wx _ _ (by omega), ht2]
  clear zz_c1 zz_c3 zz_s1 zz_s3 zz_s5 zz_s7 zz_t z_c1 z_c2 z_c3 z_ck z_s1 z_s2 z_s3 z_s4 z_s5 z_s6 z_s7 z_s8 z_t
  have G1 : Hid (dayV[K]? = some (.string x)) := Lib.hid g1
  have G2 : Hid (monV[J]? = some (.string mn)) := Lib.hid hmn
  have NM := Lib.hid hnm
  have HS1 : 3 ≤ x.size := g4
  have HS2 : (3 : Int) ≤ (x.size : Int) := by omega
  have eh1 : r.tdiv 3600 = h := by rw [Int.tdiv_eq_ediv_of_nonneg (by omega), hh]
  have eq1 : r.tdiv 60 = q := by rw [Int.tdiv_eq_ediv_of_nonneg (by omega), hq]
  have em1 : q.tmod 60 = mi := by rw [Int.tmod_eq_emod_of_nonneg (by omega), hmi]
  have es1 : r.tmod 60 = s := by rw [Int.tmod_eq_emod_of_nonneg (by omega), hs]
  have r0 : 0 ≤ r := by omega
  have r1 : r < 86400 := by omega
  have q0 : 0 ≤ q := by omega
  have h0 : 0 ≤ h := by omega
  have h1 : h < 24 := by omega
  have mi0 : 0 ≤ mi := by omega
  have mi1 : mi < 60 := by omega
  have s0' : 0 ≤ s := by omega
  have s1' : s < 60 := by omega
  have q1 : q < 1440 := by omega
  have l1 : -9223372036854775808 ≤ sec := by omega
  have l2 : sec ≤ 9223372036854775807 := by omega
  have HNN := Lib.hid hnn
  have HRR := Lib.hid hrr
  have HH := Lib.hid hh
  have HQ := Lib.hid hq
  have HMI := Lib.hid hmi
  have HSS := Lib.hid hs
  have HJJ := Lib.hid hJJ
  have H12 := Lib.hid hv.2.2.2.1
  have H11 := Lib.hid hv.2.2.1
  clear hv hn ht hT hnn hrr hh hq hmi hs hK hJJ g1 g2 g3 g4 g5 hmn hnm zm zn hph hpm hps hpd hpy zph zpm zps zpd zpy b1 b2 b3 b4 hc1 hc2 hc3 hck hs1 hs2 hs3 hs4 hs5 hs6 hs7 hs8 ht2
  go_enter Tryd.func12, Tryd.ntmps12
  go_upto_if 17 with fail
  go_cut [4, 5] (fun a b wx => a = .int .i64 n ∧ b = .int .i64 r ∧ wx = w)
  case first =>
    by_cases p0 : 0 ≤ sec
    · have e1 : sec.tdiv 86400 = n := by rw [Int.tdiv_eq_ediv_of_nonneg p0, HNN.out]
      have e2 : sec.tmod 86400 = r := by rw [Int.tmod_eq_emod_of_nonneg p0, HRR.out]
      have e3 : decide (r < 0) = false := decide_eq_false (by omega)
      go_wp2
      go_meet
      exact ⟨by first | rfl | rw [e1], by first | rfl | rw [e2], rfl⟩
    · have hx := tdm_neg sec (by omega)
      obtain ⟨qq, e1⟩ : ∃ z, sec.tdiv 86400 = z := ⟨_, rfl⟩
      obtain ⟨rr, e2⟩ : ∃ z, sec.tmod 86400 = z := ⟨_, rfl⟩
      have hx1 := hx.1
      have hx2 := hx.2
      have f1 := HNN.out
      have f2 := HRR.out
      rw [e1] at hx1
      rw [e2] at hx2
      by_cases p1 : rr < 0
      · have e3 : decide (rr < 0) = true := decide_eq_true p1
        have e4 : qq - 1 = n := by omega
        have e5 : rr + 86400 = r := by omega
        have u1 : -9223372036854775807 ≤ qq := by omega
        have u2 : qq ≤ 9223372036854775807 := by omega
        have u3 : -86400 ≤ rr := by omega
        clear hx hx1 hx2 f1 f2
        go_wp2
        go_meet
        exact ⟨rfl, rfl, rfl⟩
      · have e3 : decide (rr < 0) = false := decide_eq_false p1
        have e4 : qq = n := by omega
        have e5 : rr = r := by omega
        clear hx hx1 hx2 f1 f2
        subst e4 e5
        go_wp2
        go_meet
        exact ⟨rfl, rfl, rfl⟩
  case rest =>
    obtain ⟨rfl, rfl, hw0⟩ := hcut
    rw [hw0]
    clear hw0
    go_wp2_with fail
    refine (DA.out _).mono ?_
    rintro e w1 ⟨rfl, hw1⟩
    subst w1
    go_wp2_with fail
    refine (PH.out _ HT.out).mono ?_
    rintro e w2 ⟨rfl, B2⟩
    have T2 := Lib.hid (HT.out.later B2)
    have B2 := Lib.hid B2
    go_wp2_with fail
    refine (PM.out _ T2.out).mono ?_
    rintro e w3 ⟨rfl, B3⟩
    have T3 := Lib.hid (T2.out.later B3)
    have B3 := Lib.hid (B2.out.trans (B3.mono B2.out.size))
    go_wp2_with fail
    refine (PS.out _ T3.out).mono ?_
    rintro e w4 ⟨rfl, B4⟩
    have T4 := Lib.hid (T3.out.later B4)
    have B4 := Lib.hid (B3.out.trans (B4.mono B3.out.size))
    go_wp2_with fail
    refine (WK.out _).mono ?_
    rintro e w5 ⟨rfl, hw5⟩
    subst w5
    have kd := T4.out.d.day K hK7
    rw [G1.out] at kd
    have nm2 : x.extract 0 3 = nm := NM.out
    go_wp2
    clear kd PH PM PS
    have m0 : 1 ≤ mo := H11.out
    have m1 : mo ≤ 12 := H12.out
    have hjj : (mo - 1).toNat = J := by have := HJJ.out; omega
    have hwr : IntKind.i64.wrap (mo - 1) = mo - 1 := by simp [IntKind.wrap, IntKind.signed, IntKind.bits]; omega
    have jl0 : 0 ≤ mo - 1 := by omega
    have jl1 : mo - 1 < 12 := by omega
    refine wp_region_last 20 (fun w' => TabT w' ∧ Below w.heap.size w w') (by kernel_rfl) (⟨T4.out.later ((Below.refl _ _).drew), B4.out.drew⟩) (fun hHeld hClosed => ?_)
    refine wpAnyL_take (i := 0) (v := ?_) rfl (by kernel_rfl) (by kernel_rfl) (by kernel_rfl) (by kernel_rfl) (fun _ _ _ h => h) (by kernel_rfl) hClosed (Or.inl ⟨by rfl, ?_⟩) hHeld (fun hClosed => ?_)
    rotate_left
    · intro wv hSw; go_simp; all_goals (with_reducible rfl)
    (try simp only [List.getElem_toArray, List.getElem_cons_zero, put_at, List.set])
    refine wpAnyL_take (i := 1) (v := ?_) rfl (by kernel_rfl) (by kernel_rfl) (by kernel_rfl) (by kernel_rfl) (fun _ _ _ h => h) (by kernel_rfl) hClosed (Or.inl ⟨by rfl, ?_⟩) hHeld (fun hClosed => ?_)
    rotate_left
    · intro wv hSw; go_simp; all_goals (with_reducible rfl)
    (try simp only [List.getElem_toArray, List.getElem_cons_succ, List.getElem_cons_zero, put_at, List.set])
    refine wpAnyL_take (i := 2) (v := ?_) rfl (by kernel_rfl) (by kernel_rfl) (by kernel_rfl) (by kernel_rfl) (fun _ _ _ h => h) (by kernel_rfl) hClosed (Or.inl ⟨by rfl, ?_⟩) hHeld (fun hClosed => ?_)
    rotate_left
    · intro wv hSw; go_simp; all_goals (with_reducible rfl)
    (try simp only [List.getElem_toArray, List.getElem_cons_succ, List.getElem_cons_zero, put_at, List.set])
    refine wpAnyL_take (i := 6) (v := ?_) rfl (by kernel_rfl) (by kernel_rfl) (by kernel_rfl) (by kernel_rfl) (fun _ _ _ h => h) (by kernel_rfl) hClosed (Or.inl ⟨by rfl, ?_⟩) hHeld (fun hClosed => ?_)
    rotate_left
    · intro wv hSw; go_simp; all_goals (with_reducible rfl)
    (try simp only [List.getElem_toArray, List.getElem_cons_succ, List.getElem_cons_zero, put_at, List.set])
    refine wpAnyL_take (i := 7) (v := ?_) rfl (by kernel_rfl) (by kernel_rfl) (by kernel_rfl) (by kernel_rfl) (fun _ _ _ h => h) (by kernel_rfl) hClosed (Or.inl ⟨by rfl, ?_⟩) hHeld (fun hClosed => ?_)
    rotate_left
    · intro wv hSw; go_simp; all_goals (with_reducible rfl)
    (try simp only [List.getElem_toArray, List.getElem_cons_succ, List.getElem_cons_zero, put_at, List.set])
    refine wpAnyL_take (i := 8) (v := ?_) rfl (by kernel_rfl) (by kernel_rfl) (by kernel_rfl) (by kernel_rfl) (fun _ _ _ h => h) (by kernel_rfl) hClosed (Or.inl ⟨by rfl, ?_⟩) hHeld (fun hClosed => ?_)
    rotate_left
    · intro wv hSw; go_simp; all_goals (with_reducible rfl)
    (try simp only [List.getElem_toArray, List.getElem_cons_succ, List.getElem_cons_zero, put_at, List.set])
    refine wpAnyL_take (i := 9) (v := ?_) rfl (by kernel_rfl) (by kernel_rfl) (by kernel_rfl) (by kernel_rfl) (fun _ _ _ h => h) (by kernel_rfl) hClosed (Or.inl ⟨by rfl, ?_⟩) hHeld (fun hClosed => ?_)
    rotate_left
    · intro wv hSw; have cm := hSw.1.d.mon J hJ; rw [G2.out] at cm; go_simp; all_goals (with_reducible rfl)
    (try simp only [List.getElem_toArray, List.getElem_cons_succ, List.getElem_cons_zero, put_at, List.set])
    refine wpAnyL_take (i := 12) (v := ?_) rfl (by kernel_rfl) (by kernel_rfl) (by kernel_rfl) (by kernel_rfl) (fun _ _ _ h => h) (by kernel_rfl) hClosed (Or.inl ⟨by rfl, ?_⟩) hHeld (fun hClosed => ?_)
    rotate_left
    · intro wv hSw; go_simp; all_goals (with_reducible rfl)
    (try simp only [List.getElem_toArray, List.getElem_cons_succ, List.getElem_cons_zero, put_at, List.set])
    refine wpAnyL_take (i := 16) (v := ?_) rfl (by kernel_rfl) (by kernel_rfl) (by kernel_rfl) (by kernel_rfl) (fun _ _ _ h => h) (by kernel_rfl) hClosed (Or.inl ⟨by rfl, ?_⟩) hHeld (fun hClosed => ?_)
    rotate_left
    · intro wv hSw; go_simp; all_goals (with_reducible rfl)
    (try simp only [List.getElem_toArray, List.getElem_cons_succ, List.getElem_cons_zero, put_at, List.set])
    refine wpAnyL_one (i := 3) rfl (by kernel_rfl) (by kernel_rfl) hClosed (fun KK hK => ?_)
    go_simp
    refine (PD.out _ hHeld.1).mono ?_
    rintro e wq ⟨rfl, hbq⟩
    go_wp2_with fail
    refine hK.out _ _ ?_ (fun hClosed hHeld => ?_)
    · exact ⟨hHeld.1.later hbq, hHeld.2.trans (hbq.mono hHeld.2.size)⟩
    clear hK KK
    (first | simp only [List.getElem_toArray, List.getElem_cons_succ, List.getElem_cons_zero, put_at, List.set] | (try simp only [put_at, List.set]))
    refine wpAnyL_take (i := 4) (v := ?_) rfl (by kernel_rfl) (by kernel_rfl) (by kernel_rfl) (by kernel_rfl) (fun _ _ _ h => h) (by kernel_rfl) hClosed (Or.inl ⟨by rfl, ?_⟩) hHeld (fun hClosed => ?_)
    rotate_left
    · intro wv hSw; go_simp; all_goals (with_reducible rfl)
    (try simp only [List.getElem_toArray, List.getElem_cons_succ, List.getElem_cons_zero, put_at, List.set])
    refine wpAnyL_take (i := 5) (v := ?_) rfl (by kernel_rfl) (by kernel_rfl) (by kernel_rfl) (by kernel_rfl) (fun _ _ _ h => h) (by kernel_rfl) hClosed (Or.inl ⟨by rfl, ?_⟩) hHeld (fun hClosed => ?_)
    rotate_left
    · intro wv hSw; go_simp; all_goals (with_reducible rfl)
    (try simp only [List.getElem_toArray, List.getElem_cons_succ, List.getElem_cons_zero, put_at, List.set])
    refine wpAnyL_take (i := 10) (v := ?_) rfl (by kernel_rfl) (by kernel_rfl) (by kernel_rfl) (by kernel_rfl) (fun _ _ _ h => h) (by kernel_rfl) hClosed (Or.inl ⟨by rfl, ?_⟩) hHeld (fun hClosed => ?_)
    rotate_left
    · intro wv hSw; go_simp; all_goals (with_reducible rfl)
    (try simp only [List.getElem_toArray, List.getElem_cons_succ, List.getElem_cons_zero, put_at, List.set])
    refine wpAnyL_take (i := 11) (v := ?_) rfl (by kernel_rfl) (by kernel_rfl) (by kernel_rfl) (by kernel_rfl) (fun _ _ _ h => h) (by kernel_rfl) hClosed (Or.inl ⟨by rfl, ?_⟩) hHeld (fun hClosed => ?_)
    rotate_left
    · intro wv hSw; go_simp; all_goals (with_reducible rfl)
    (try simp only [List.getElem_toArray, List.getElem_cons_succ, List.getElem_cons_zero, put_at, List.set])
    refine wpAnyL_one (i := 13) rfl (by kernel_rfl) (by kernel_rfl) hClosed (fun KK hK => ?_)
    go_simp
    refine (PY.out _ hHeld.1).mono ?_
    rintro e wq ⟨rfl, hbq⟩
    go_wp2_with fail
    refine hK.out _ _ ?_ (fun hClosed hHeld => ?_)
    · exact ⟨hHeld.1.later hbq, hHeld.2.trans (hbq.mono hHeld.2.size)⟩
    clear hK KK
    (first | simp only [List.getElem_toArray, List.getElem_cons_succ, List.getElem_cons_zero, put_at, List.set] | (try simp only [put_at, List.set]))
    refine wpAnyL_take (i := 14) (v := ?_) rfl (by kernel_rfl) (by kernel_rfl) (by kernel_rfl) (by kernel_rfl) (fun _ _ _ h => h) (by kernel_rfl) hClosed (Or.inl ⟨by rfl, ?_⟩) hHeld (fun hClosed => ?_)
    rotate_left
    · intro wv hSw; go_simp; all_goals (with_reducible rfl)
    (try simp only [List.getElem_toArray, List.getElem_cons_succ, List.getElem_cons_zero, put_at, List.set])
    refine wpAnyL_take (i := 15) (v := ?_) rfl (by kernel_rfl) (by kernel_rfl) (by kernel_rfl) (by kernel_rfl) (fun _ _ _ h => h) (by kernel_rfl) hClosed (Or.inl ⟨by rfl, ?_⟩) hHeld (fun hClosed => ?_)
    rotate_left
    · intro wv hSw; go_simp; all_goals (with_reducible rfl)
    (try simp only [List.getElem_toArray, List.getElem_cons_succ, List.getElem_cons_zero, put_at, List.set])
    refine wpAnyL_take (i := 17) (v := ?_) rfl (by kernel_rfl) (by kernel_rfl) (by kernel_rfl) (by kernel_rfl) (fun _ _ _ h => h) (by kernel_rfl) hClosed (Or.inl ⟨by rfl, ?_⟩) hHeld (fun hClosed => ?_)
    rotate_left
    · intro wv hSw; go_simp; all_goals (with_reducible rfl)
    (try simp only [List.getElem_toArray, List.getElem_cons_succ, List.getElem_cons_zero, put_at, List.set])
    refine wpAnyL_take (i := 18) (v := ?_) rfl (by kernel_rfl) (by kernel_rfl) (by kernel_rfl) (by kernel_rfl) (fun _ _ _ h => h) (by kernel_rfl) hClosed (Or.inl ⟨by rfl, ?_⟩) hHeld (fun hClosed => ?_)
    rotate_left
    · intro wv hSw; go_simp; all_goals (with_reducible rfl)
    (try simp only [List.getElem_toArray, List.getElem_cons_succ, List.getElem_cons_zero, put_at, List.set])
    refine wpAnyL_take (i := 19) (v := ?_) rfl (by kernel_rfl) (by kernel_rfl) (by kernel_rfl) (by kernel_rfl) (fun _ _ _ h => h) (by kernel_rfl) hClosed (Or.inl ⟨by rfl, ?_⟩) hHeld (fun hClosed => ?_)
    rotate_left
    · intro wv hSw; go_simp; all_goals (with_reducible rfl)
    (try simp only [List.getElem_toArray, List.getElem_cons_succ, List.getElem_cons_zero, put_at, List.set])
    refine wpAnyL_last rfl (by kernel_rfl) (by kernel_rfl) (fun KK hK => ?_)
    go_simp
    refine hK.out _ _ ?_
    (try simp only [put_at, List.set])
    go_wp2
    go_ret2
    exact ⟨rfl, hHeld.2⟩
end Go.Proofs.YtcbllfbhifimnaaDoor
