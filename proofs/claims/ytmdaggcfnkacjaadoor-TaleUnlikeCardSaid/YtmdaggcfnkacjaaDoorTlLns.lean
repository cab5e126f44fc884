/- TaleLines: the walk. -/
import Derived.Test.YtmdaggcfnkacjaaDoorTlAwk2
import Derived.Test.YtmdaggcfnkacjaaDoorTlOpn
namespace Go.Proofs.YtmdaggcfnkacjaaDoor
open Go Go.RowKit
set_option linter.unusedVariables false
set_option linter.unusedSimpArgs false
set_option maxRecDepth 10000

theorem rng_sp {x : Stp} (h : RgS x) : RngS (spOf x) := h
set_option maxHeartbeats 4000000 in
theorem taleLines_walk (X : Stp × Option Addr × Nat) (w : World) (hx : IsStp w X.1 X.2.1) (hT : TabT w) :
    Calls Tryd.prog 3 #[.agg (stA X.1.k X.1.a X.1.b X.1.c X.1.t X.2.1 X.1.hs.length X.2.2)] w fun e w' => e = .returned (.bool true) ∧ Below w.heap.size w w' := by
  obtain ⟨x, ha, hc⟩ := X
  obtain ⟨hz, hrg, hr⟩ := hx
  dsimp only at hz hrg hr ⊢
  obtain ⟨n, hn⟩ : ∃ n, x.hs.length = n := ⟨_, rfl⟩
  rw [hn]
  have HT := Lib.hid hT
  have HN := Lib.hid hn
  have HG := Lib.hid hrg
  have HR := Lib.hid hr
  have SZ := Lib.hid (fun W (h : RdC W ha (hdV x.hs)) => size_at x ha n hc hn hz W h)
  clear hn hrg hr hT hz
  unfold stA
  have BX0 := Box.new w #[.int .i64 x.k, .int .i64 x.a, .int .i64 x.b, .int .i64 x.c, .string x.t, .slice ha n hc] 24
  go_enter Tryd.func3, Tryd.ntmps3
  go_upto_region 1 with fail
  refine code_forget (fun W => Hid (Box W w.heap.size #[.int .i64 x.k, .int .i64 x.a, .int .i64 x.b, .int .i64 x.c, .string x.t, .slice ha n hc] 24) ∧ Hid (Below w.heap.size w W)) ⟨Lib.hid BX0, Lib.hid ((Below.refl w.heap.size w).alloc (Nat.le_refl _) _)⟩ ?_
  clear BX0
  obtain ⟨ax, hax⟩ : ∃ b, w.heap.size = b := ⟨_, rfl⟩
  rintro w1 ⟨BX, B1⟩
  have HAX := Lib.hid hax
  rw [hax] at BX ⊢
  clear hax
  have s0 := BX.out.cell 0
  have s1 := BX.out.cell 1
  have s2 := BX.out.cell 2
  have s3 := BX.out.cell 3
  have s4 := BX.out.cell 4
  have s5 := BX.out.cell 5
  have ls := BX.out.lt
  go_wp2_with fail
  refine (SZ.out _ (HR.out.later B1.out)).mono ?_
  rintro e w2 ⟨v, rfl, hb, hv, hvv⟩
  have HV := Lib.hid hvv
  have B2 := Lib.hid (B1.out.trans (hb.mono B1.out.size))
  have BX2 := Lib.hid (BX.out.later hb)
  clear hb B1 BX s0 s1 s2 s3 s4 s5 ls SZ hvv
  have s0 := BX2.out.cell 0
  have s1 := BX2.out.cell 1
  have s2 := BX2.out.cell 2
  have s3 := BX2.out.cell 3
  have s4 := BX2.out.cell 4
  have s5 := BX2.out.cell 5
  have ls := BX2.out.lt
  by_cases hbig : 2000 < v
  · have d1 : decide ((2000 : Int) < (v : Int)) = true := decide_eq_true (by omega)
    have d2 : decide ((v : Int) > 2000) = true := decide_eq_true (by omega)
    have AW := Lib.hid (awake24 w2 (HT.out.later B2.out))
    go_wp2_with fail
    refine AW.out.mono ?_
    rintro e w3 ⟨rfl, hb⟩
    have BE := Lib.hid (B2.out.trans (hb.mono B2.out.size))
    go_wp2
    go_ret
    exact ⟨rfl, HAX.out ▸ BE.out⟩
  have d1 : decide ((2000 : Int) < (v : Int)) = false := decide_eq_false (by omega)
  have d2 : decide ((v : Int) > 2000) = false := decide_eq_false (by omega)
  have HS : Hid (szS x ≤ 2000) := Lib.hid (by rw [← HV.out (by omega)]; omega)
  have HZ : Hid (SzS x) := Lib.hid (szS_szS (by have := HS.out; omega))
  clear hv hbig HV
  cases hL : lineS (spOf x) with
  | none =>
    have HL := Lib.hid hL
    clear hL
    go_wp2_with fail
    refine (line_no_as x HL.out HZ.out HG.out ha n hc HN.out _ (HR.out.later B2.out) (HT.out.later B2.out)).mono ?_
    rintro e w3 ⟨rfl, hb⟩
    have B3 := Lib.hid (B2.out.trans (hb.mono B2.out.size))
    have BX3 := Lib.hid (BX2.out.later hb)
    clear hb B2 BX2 s0 s1 s2 s3 s4 s5 ls
    have s0 := BX3.out.cell 0
    have s1 := BX3.out.cell 1
    have s2 := BX3.out.cell 2
    have s3 := BX3.out.cell 3
    have s4 := BX3.out.cell 4
    have s5 := BX3.out.cell 5
    have ls := BX3.out.lt
    go_wp2_with fail
    refine (lline_at x HZ.out HG.out ha n hc HN.out _ (HR.out.later B3.out)).mono ?_
    rintro e w4 ⟨hb, hh⟩
    obtain rfl : e = .returned (.tuple #[.string ⟨#[]⟩, .bool false]) := by
      rcases hh with ⟨_, h⟩ | ⟨l, h, _⟩
      · exact h
      · rw [HL.out] at h
        cases h
    have B4 := Lib.hid (B3.out.trans (hb.mono B3.out.size))
    clear hb hh B3 BX3 s0 s1 s2 s3 s4 s5 ls
    have AW := Lib.hid (awake24 w4 (HT.out.later B4.out))
    go_wp2_with fail
    refine AW.out.mono ?_
    rintro e w5 ⟨rfl, hb⟩
    have BE := Lib.hid (B4.out.trans (hb.mono B4.out.size))
    go_wp2
    go_ret
    exact ⟨rfl, HAX.out ▸ BE.out⟩
  | some l =>
    obtain ⟨L, rfl⟩ : ∃ L : ByteArray, bl L = l := ⟨stB l, rfl⟩
    have HL := Lib.hid hL
    have HST := Lib.hid (step_of_line hL (rng_sp HG.out))
    have HSZ : Hid (L.size ≤ 90000) := Lib.hid (by have h1 := line_len hL HG.out; have h2 := HS.out; have e : (bl L).length = L.size := rfl; omega)
    clear hL
    go_wp2_with fail
    refine (line_as x L HL.out HZ.out HG.out ha n hc HN.out _ (HR.out.later B2.out) (HT.out.later B2.out)).mono ?_
    rintro e w3 ⟨rfl, hb⟩
    have B3 := Lib.hid (B2.out.trans (hb.mono B2.out.size))
    have BX3 := Lib.hid (BX2.out.later hb)
    clear hb B2 BX2 s0 s1 s2 s3 s4 s5 ls
    have s0 := BX3.out.cell 0
    have s1 := BX3.out.cell 1
    have s2 := BX3.out.cell 2
    have s3 := BX3.out.cell 3
    have s4 := BX3.out.cell 4
    have s5 := BX3.out.cell 5
    have ls := BX3.out.lt
    go_wp2_with fail
    refine (lline_at x HZ.out HG.out ha n hc HN.out _ (HR.out.later B3.out)).mono ?_
    rintro e w4 ⟨hb, hh⟩
    obtain rfl : e = .returned (.tuple #[.string L, .bool true]) := by
      rcases hh with ⟨h, _⟩ | ⟨l, h, he⟩
      · rw [HL.out] at h
        cases h
      · rw [HL.out] at h
        rw [bl_eq (Option.some.inj h)]
        exact he
    have B4 := Lib.hid (B3.out.trans (hb.mono B3.out.size))
    have BX4 := Lib.hid (BX3.out.later hb)
    clear hb hh B3 BX3 s0 s1 s2 s3 s4 s5 ls
    go_wp2_with fail
    refine (step_as L x HST.out HSZ.out _ (HT.out.later B4.out)).mono ?_
    rintro e w5 ⟨hb5, hc5, rfl, ho, hb⟩
    rw [HN.out] at ho ⊢
    have RD5 : Hid (RdC w5 hb5 (hdV x.hs)) := Lib.hid (rdc_own ho (by decide))
    have B5 := Lib.hid (B4.out.trans (hb.mono B4.out.size))
    have BX5 := Lib.hid (BX4.out.later hb)
    clear hb ho B4 BX4
    unfold stA
    go_upto_region 8 with fail
    refine code_forget (fun W => Hid (Box W w5.heap.size #[.int .i64 x.k, .int .i64 x.a, .int .i64 x.b, .int .i64 x.c, .string x.t, .slice hb5 n hc5] 24) ∧ Hid (Below w5.heap.size w5 W)) ⟨Lib.hid (Box.new w5 _ _), Lib.hid ((Below.refl w5.heap.size w5).alloc (Nat.le_refl _) _)⟩ ?_
    obtain ⟨ay, hay⟩ : ∃ b, w5.heap.size = b := ⟨_, rfl⟩
    rintro w6 ⟨BY6, hb⟩
    have BX6 := Lib.hid (BX5.out.later hb.out)
    have RD6 := Lib.hid (RD5.out.later hb.out)
    have B6 := Lib.hid (B5.out.trans (hb.out.mono B5.out.size))
    rw [hay] at BY6 ⊢
    clear hay hb BX5 RD5 B5
    have AW := Lib.hid (awake24 w6 (HT.out.later B6.out))
    go_wp2_with fail
    refine AW.out.mono ?_
    rintro e w7 ⟨rfl, hb⟩
    have BX7 := Lib.hid (BX6.out.later hb)
    have BY7 := Lib.hid (BY6.out.later hb)
    have RD7 := Lib.hid (RD6.out.later hb)
    have B7 := Lib.hid (B6.out.trans (hb.mono B6.out.size))
    clear hb BX6 BY6 RD6 B6 AW
    have s0 := BX7.out.cell 0
    have s1 := BX7.out.cell 1
    have s2 := BX7.out.cell 2
    have s3 := BX7.out.cell 3
    have s4 := BX7.out.cell 4
    have s5 := BX7.out.cell 5
    have ls := BX7.out.lt
    have r0 := BY7.out.cell 0
    have r1 := BY7.out.cell 1
    have r2 := BY7.out.cell 2
    have r3 := BY7.out.cell 3
    have r4 := BY7.out.cell 4
    have r5 := BY7.out.cell 5
    have lr := BY7.out.lt
    go_wp2_with fail
    refine (same_at x x hb5 ha n n hc5 hc HN.out HN.out (by have := HZ.out.2.1; have := HN.out; omega) _ RD7.out (HR.out.later B7.out)).mono ?_
    rintro e w8 ⟨q, rfl, hq, hb⟩
    obtain rfl : q = true := hq.2 rfl
    have BE := Lib.hid (B7.out.trans (hb.mono B7.out.size))
    go_wp2
    go_ret
    exact ⟨rfl, HAX.out ▸ BE.out⟩
end Go.Proofs.YtmdaggcfnkacjaaDoor
