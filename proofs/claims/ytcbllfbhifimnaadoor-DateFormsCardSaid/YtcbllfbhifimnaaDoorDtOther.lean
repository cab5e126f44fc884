/- DateOther: the walk. -/
import Derived.Test.YtcbllfbhifimnaaDoorDtMom
namespace Go.Proofs.YtcbllfbhifimnaaDoor
open Go.RowKit
set_option linter.unusedVariables false
set_option linter.unusedSimpArgs false
set_option maxRecDepth 10000

theorem i64_wf {n : Int} (h : (Lit.int .i64 n).wf = true) : -9223372036854775808 ≤ n ∧ n ≤ 9223372036854775807 := by simp [Lit.wf, IntKind.min, IntKind.max, IntKind.signed, IntKind.bits] at h; omega
theorem u8_wf {n : Int} (h : (Lit.int .u8 n).wf = true) : 0 ≤ n ∧ n ≤ 255 := by simp [Lit.wf, IntKind.min, IntKind.max, IntKind.signed, IntKind.bits] at h; omega
theorem set_byts {l : List Int} (h : Byts l) (i : Nat) {c : Int} (hc : 0 ≤ c ∧ c < 256) : Byts (l.set i c) := by
  intro x hx
  rcases List.mem_or_eq_of_mem_set hx with h1 | h1
  · exact h x h1
  · rw [h1]; exact hc
set_option maxHeartbeats 4000000 in
theorem dateOther_walk (y mo d t at_ c : Int) (w : World) (_w0 : (Lit.int .i64 y).wf = true) (_w1 : (Lit.int .i64 mo).wf = true) (_w2 : (Lit.int .i64 d).wf = true) (w3 : (Lit.int .i64 t).wf = true) (w4 : (Lit.int .u8 at_).wf = true) (w5 : (Lit.int .u8 c).wf = true) (hT : TabT w) :
    Calls Tryd.prog 5 #[.int .i64 y, .int .i64 mo, .int .i64 d, .int .i64 t, .int .u8 at_, .int .u8 c] w fun e w' => e = .returned (.bool true) ∧ Below w.heap.size w w' := by
  obtain ⟨t0, t1⟩ := i64_wf w3
  obtain ⟨a0, a1⟩ := u8_wf w4
  obtain ⟨c0, c1⟩ := u8_wf w5
  clear w3 w4 w5 _w0 _w1 _w2
  have HT := Lib.hid hT
  have AW := Lib.hid (fun (W : World) (hW : TabT W) => d_awake W hW)
  have MO := Lib.hid (fun W => moment_at y mo d t t0 t1 W)
  clear hT t0 t1
  go_enter Tryd.func5, Tryd.ntmps5
  go_wp2_with fail
  refine (MO.out _).mono ?_
  rintro e w1 ⟨h, mi, s, o, rfl, B1, ho⟩
  have T1 := Lib.hid (HT.out.later B1)
  have B1 := Lib.hid B1
  have HO := Lib.hid ho
  obtain ⟨g, hg⟩ : ∃ g, w1.heap.size = g := ⟨_, rfl⟩
  clear ho
  cases o with
  | none =>
    simp only [Option.getD_none, Option.isSome_none]
    go_wp2_with fail
    refine calls_forget (fun wx => Hid (TabT wx) ∧ Hid (Below w.heap.size w wx)) ⟨Lib.hid (T1.out.later ((Below.refl _ _).alloc (Nat.le_refl _) _)), Lib.hid (B1.out.alloc B1.out.size _)⟩ ?_
    rintro w2 ⟨T2, B2⟩
    refine (AW.out _ T2.out).mono ?_
    rintro e w3 ⟨rfl, hb⟩
    have B3 := Lib.hid (B2.out.trans (hb.mono B2.out.size))
    clear hb
    go_wp2
    go_ret
    exact ⟨rfl, B3.out⟩
  | some n =>
    simp only [Option.getD_some, Option.isSome_some]
    obtain ⟨hv, hc, hn⟩ := HO.out n rfl
    obtain ⟨wd, hwd⟩ : ∃ wd, (num y mo d + 3) % 7 = wd := ⟨_, rfl⟩
    have hm : MoOk ⟨wd, y, mo, d, h, mi, s⟩ := by
      have b := lenI_bd y mo
      obtain ⟨h1, h2, h3, h4, h5, h6⟩ := hv
      obtain ⟨k1, k2, k3⟩ := hc
      exact ⟨by dsimp only; omega, by dsimp only; omega, by dsimp only; omega, by dsimp only; omega, ⟨k1, k2, k3⟩⟩
    obtain ⟨l, hl⟩ : ∃ l, firstL ⟨wd, y, mo, d, h, mi, s⟩ = l := ⟨_, rfl⟩
    obtain ⟨x, hx⟩ : ∃ x, strL l = x := ⟨_, rfl⟩
    have ll : l.length = 29 := by rw [← hl]; exact first_len hm
    have lb : Byts l := by rw [← hl]; exact first_byts hm
    have xz : x.size = 29 := by rw [← hx, strL_size, ll]
    have xb : btL x = l := by rw [← hx, btL_strL lb]
    have FI := Lib.hid (fun W => rfirst_at wd y mo d h mi s x hv hm.clk hwd (by rw [hl]; exact hx) W)
    obtain ⟨i, hi⟩ : ∃ i : Nat, at_ % 29 = (i : Int) := ⟨(at_ % 29).toNat, by omega⟩
    have i29 : i < 29 := by omega
    have hnn : n = secN ⟨wd, y, mo, d, h, mi, s⟩ := by
      rw [hn]
      unfold secN
      dsimp only
      omega
    have OT : Hid (∀ Y v, l[i]? ≠ some c → parI Y (l.set i c) = some v → v ≠ n ∧ 4 < i) := Lib.hid (fun Y v h1 h2 => by
      rw [hnn]
      rw [← hl] at h1 h2
      exact other_first hm hv hwd i c Y v i29 h1 h2)
    obtain ⟨ci, hci⟩ : ∃ ci, l[i]? = some ci := ⟨l[i]'(by omega), List.getElem?_eq_getElem _⟩
    have LB := Lib.hid lb
    have LL := Lib.hid ll
    have XB := Lib.hid xb
    have cb := lb ci (List.mem_of_getElem? hci)
    have HCI := Lib.hid hci
    have hi2 : at_.tmod 29 = (i : Int) := by rw [Int.tmod_eq_emod_of_nonneg a0, hi]
    have XZ := Lib.hid xz
    clear hv hc hn hwd hm hl hx ll lb xb hnn hci HO xz
    go_wp2_with fail
    refine calls_forget (fun wx => Hid (TabT wx) ∧ Hid (Below w.heap.size w wx)) ⟨Lib.hid (T1.out.later ((Below.refl _ _).alloc (Nat.le_refl _) _)), Lib.hid (B1.out.alloc B1.out.size _)⟩ ?_
    clear T1 B1 hg
    rintro w2 ⟨T2, B2⟩
    refine (FI.out _).mono ?_
    rintro e w3 ⟨rfl, hb⟩
    have T3 := Lib.hid (T2.out.later hb)
    have B3 := Lib.hid (B2.out.trans (hb.mono B2.out.size))
    clear hb T2 B2
    have hcv := run_bytes_of_string (P := Tryd.prog) w3 9 37 5 x Tryd.underlying9 Tryd.underlying37 Tryd.underlying5
    obtain ⟨cap, hcap⟩ : ∃ c, grownCap w3 x.size 0 5 = c := ⟨_, rfl⟩
    rw [hcap] at hcv
    obtain ⟨g2, hg2⟩ : ∃ g, w3.heap.size = g := ⟨_, rfl⟩
    have HG : Hid (w.heap.size ≤ g2) := Lib.hid (hg2 ▸ B3.out.size)
    go_upto_region 5 with fail
    refine code_forget (fun wx => Hid (ByAt wx g2 l) ∧ Hid (TabT wx) ∧ Hid (Below w.heap.size w wx)) ⟨Lib.hid (by rw [← hg2, ← XB.out]; exact ByAt.new w3.drew x cap _), Lib.hid (T3.out.later ((Below.refl _ _).drew.alloc (Nat.le_refl _) _)), Lib.hid (B3.out.drew.alloc B3.out.size _)⟩ ?_
    clear hcv hcap hg2 T3 B3
    rintro w4 ⟨Y4, T4, B4⟩
    rw [XZ.out]
    have cc := Y4.out.cell i ci HCI.out
    have cf := Y4.out.free i (by rw [LL.out]; exact i29)
    have cl := Y4.out.lt
    by_cases he : ci = c
    · have d1 : (ci == c) = true := beq_iff_eq.2 he
      go_wp2_with fail
      refine (AW.out _ T4.out).mono ?_
      rintro e w5 ⟨rfl, hb⟩
      have B5 := Lib.hid (B4.out.trans (hb.mono B4.out.size))
      clear hb
      go_wp2
      go_ret
      exact ⟨rfl, B5.out⟩
    · have d1 : (ci == c) = false := beq_eq_false_iff_ne.2 he
      obtain ⟨Y, hY⟩ := YearIs.some_ (nowD 0) (nowD_bd 0).1 (nowD_bd 0).2
      obtain ⟨u, hu⟩ : ∃ u, strL (l.set i c) = u := ⟨_, rfl⟩
      obtain ⟨pv, hpv⟩ : ∃ pv, parI Y (l.set i c) = pv := ⟨_, rfl⟩
      have PA : Hid (∀ W, TabT W → Calls Tryd.prog 9 #[.string u, .int .i64 0] W (OptP pv W)) := Lib.hid (fun W hW => by
        have := parse_at u 0 Y hY (by omega) (by omega) W hW.d
        rw [← hu, btL_strL (set_byts LB.out i ⟨c0, by omega⟩), hpv] at this
        rw [← hu]
        exact this)
      have OT2 : Hid (∀ v, pv = some v → v ≠ n ∧ 4 < i) := Lib.hid (fun v hv => OT.out Y v (by rw [HCI.out]; intro e; injection e with e; exact he e) (by rw [hpv, hv]))
      have Y5 := Y4.out.set i c
      have hcv := (Y5.rd).text (P := Tryd.prog) 37 5 9 Tryd.underlying37 Tryd.underlying5 Tryd.underlying9 (fun _ => Or.inr ⟨_, _, rfl⟩) cap
      rw [List.length_set, LL.out, hu] at hcv
      clear Y5 hY hu hpv
      go_wp2_with fail
      have B6 := Lib.hid (B4.out.setCell (p := ⟨g2, i, none⟩) HG.out (.int .u8 c))
      refine (PA.out _ (HT.out.later B6.out)).mono ?_
      rintro e w5 ⟨rfl, hb⟩
      have B7 := Lib.hid (B6.out.trans (hb.mono B6.out.size))
      have T7 := Lib.hid (HT.out.later B7.out)
      clear hb hcv cc cf cl
      cases pv with
      | none =>
        simp only [Option.getD_none, Option.isSome_none]
        go_wp2_with fail
        refine (AW.out _ T7.out).mono ?_
        rintro e w6 ⟨rfl, hb⟩
        have B8 := Lib.hid (B7.out.trans (hb.mono B7.out.size))
        clear hb
        go_wp2
        go_ret
        exact ⟨rfl, B8.out⟩
      | some v =>
        simp only [Option.getD_some, Option.isSome_some]
        obtain ⟨v1, v2⟩ := OT2.out v rfl
        have d2 : (v != n) = true := bne_iff_ne.2 v1
        have d3 : decide ((4 : Int) < (i : Int)) = true := decide_eq_true (by omega)
        have d4 : decide (4 < i) = true := decide_eq_true v2
        go_wp2_with fail
        refine (AW.out _ T7.out).mono ?_
        rintro e w6 ⟨rfl, hb⟩
        have B8 := Lib.hid (B7.out.trans (hb.mono B7.out.size))
        clear hb
        go_wp2
        go_ret
        exact ⟨rfl, B8.out⟩
end Go.Proofs.YtcbllfbhifimnaaDoor
