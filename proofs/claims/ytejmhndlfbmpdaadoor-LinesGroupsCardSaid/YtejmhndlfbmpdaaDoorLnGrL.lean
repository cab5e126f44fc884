/- LinesGroups: lines that come in; the walk. -/
import Derived.Test.YtejmhndlfbmpdaaDoorLnLaws
import Derived.Test.YtejmhndlfbmpdaaDoorDeepW
namespace Go.Proofs.YtejmhndlfbmpdaaDoor
open Go Go.RowKit Go.Joins Go.Deep Go.WideShapes
set_option linter.unusedVariables false
set_option linter.unusedSimpArgs false
set_option maxRecDepth 10000

def IsLns (w : World) (x : Option Addr × Nat × Nat) : Prop := ∃ L : List (List Int × List Int), L.length = x.2.1 ∧ x.2.1 ≤ x.2.2 ∧ x.2.2 ≤ maxLen ∧ (x.1 = none → x.2.2 = 0) ∧ RdLn w x.1 L ∧ LnOk L
section
variable {H : Type} {enc : TypeId × Value → H} {w : World} {base b0 : Nat} {held : Bool} {rr : Reach}
theorem open_lines {v : Value} {d : DataW H} {p : List MemPlace} (hv : Value.okWide Tryd.prog w rr b0 24 v) (hd : DataW.Trod enc Tryd.prog w base (fun _ => true) held 24 v d p) (hwt : ∀ k ∈ d.weights Tryd.prog 24, k ≤ reachBytes) :
    ∃ x : Option Addr × Nat × Nat, v = .slice x.1 x.2.1 x.2.2 ∧ IsLns w x := by
  obtain ⟨a, len, cap, rfl⟩ := okWide_slice Tryd.underlying24 hv
  refine ⟨(a, len, cap), rfl, ?_⟩
  have h : FitsW enc Tryd.prog w base (fun _ => true) held reachBytes 24 [.slice a len cap] := by
    obtain ⟨fu, hfu⟩ := hd
    exact ⟨fu, _, hfu, hwt⟩
  obtain ⟨C, ⟨rfl, rfl, rfl⟩ | ⟨x, rfl, hl, hm, hx⟩⟩ := h.elems Tryd.underlying24 (n := 2) (by kernel_rfl)
  · exact ⟨[], rfl, Nat.zero_le _, by decide, fun _ => rfl, ⟨0, 0, fun h => absurd rfl h, fun i e hi => by simp at hi⟩, fun e he => by simp at he⟩
  · by_cases h0 : 0 < cap
    · obtain ⟨b, off, rfl, hc⟩ := plain_at (by decide) (fun i hi => ⟨(hx i hi).1, (hx i hi).2.2⟩) h0
      have key : ∀ i, i < len → ∃ e : ByteArray × ByteArray, (C i)[0]? = some (.string e.1) ∧ (C i)[1]? = some (.string e.2) ∧ e.1.size ≤ reachBytes ∧ e.2.size ≤ reachBytes := fun i hi => by
        obtain ⟨x0, h0, w0⟩ := ((hx i (by omega)).2.1.2 hi).string Tryd.underlying40 0 0 rfl rfl rfl Tryd.underlying9 (by kernel_rfl)
        obtain ⟨x1, h1, w1⟩ := ((hx i (by omega)).2.1.2 hi).string Tryd.underlying40 1 1 rfl rfl rfl Tryd.underlying9 (by kernel_rfl)
        exact ⟨(x0, x1), h0, h1, w0, w1⟩
      let E : Nat → ByteArray × ByteArray := fun i => if hi : i < len then Classical.choose (key i hi) else (ByteArray.empty, ByteArray.empty)
      have hE : ∀ i, i < len → (C i)[0]? = some (.string (E i).1) ∧ (C i)[1]? = some (.string (E i).2) ∧ (E i).1.size ≤ reachBytes ∧ (E i).2.size ≤ reachBytes := fun i hi => by
        simp only [E, dif_pos hi]
        exact Classical.choose_spec (key i hi)
      refine ⟨(List.range len).map (fun i => (btL (E i).1, btL (E i).2)), by simp, hl, hm, (fun h => by cases h), ⟨b, off, fun _ => rfl, fun i e hi => ?_⟩, fun e he => ?_⟩
      · have hil := (List.getElem?_eq_some_iff.1 hi).1
        simp at hil
        have he : (btL (E i).1, btL (E i).2) = e := by simpa [hil] using hi
        subst he
        have h1 := hc i (by omega) 0 _ (hE i hil).1
        have h2 := hc i (by omega) 1 _ (hE i hil).2.1
        dsimp only
        rw [strL_btL, strL_btL]
        exact ⟨by simpa using h1, by simpa using h2⟩
      · obtain ⟨i, hi, rfl⟩ := List.mem_map.1 he
        have hil := List.mem_range.1 hi
        have h3 := (hE i hil).2.2
        have hr : reachBytes ≤ 1000000000000000 := by decide
        exact ⟨btL_byts _, btL_byts _, by dsimp only; rw [btL_length]; omega, by dsimp only; rw [btL_length]; omega⟩
    · obtain rfl : cap = 0 := by omega
      obtain rfl : len = 0 := by omega
      exact ⟨[], rfl, Nat.zero_le _, Nat.zero_le _, fun _ => rfl, ⟨0, 0, fun h => absurd rfl h, fun i e hi => by simp at hi⟩, fun e he => by simp at he⟩
end
theorem RdLn.take {w : World} {a : Option Addr} {L : List (List Int × List Int)} (h : RdLn w a L) (k : Nat) : RdLn w a (L.take k) := by
  obtain ⟨g, off, h1, h2⟩ := h
  refine ⟨g, off, fun hne => h1 (fun e => hne (by rw [e]; simp)), fun i x hx => h2 i x ?_⟩
  rw [List.getElem?_take] at hx
  split at hx
  · exact hx
  · cases hx
set_option maxHeartbeats 2000000 in
theorem linesGroups_walk (z : Option Addr × Nat × Nat) (w : World) (hz : IsLns w z) (_ : True) :
    Calls Tryd.prog 5 #[.slice z.1 z.2.1 z.2.2] w fun e w' => e = .returned (.bool true) ∧ Below w.heap.size w w' := by
  obtain ⟨a, m, cap⟩ := z
  obtain ⟨L0, hl0, hc0, hc1, hnone, hrd, hok0⟩ := hz
  dsimp only at hl0 hc0 hc1 hnone hrd ⊢
  have hc2 : cap ≤ 9223372036854775807 := hc1
  have HR0 := Lib.hid hrd
  have HOK0 := Lib.hid hok0
  have HL0 := Lib.hid hl0
  have HNN := Lib.hid hnone
  clear hrd hok0 hl0 hnone
  go_enter Tryd.func5, Tryd.ntmps5
  go_upto_if 5 with fail
  go_cut [0] from 3 (fun v wx => ∃ (n : Nat) (L : List (List Int × List Int)), v = .slice a n cap ∧ n ≤ 300 ∧ Hid (L.length = n) ∧ Hid (RdLn w a L) ∧ Hid (LnOk L) ∧ wx = w)
  case first =>
    by_cases h : 300 < m
    · have d1 : decide ((300 : Int) < (m : Int)) = true := decide_eq_true (by omega)
      have d2 : decide (300 < m) = true := decide_eq_true h
      have hsl := sliceTo_run (P := Tryd.prog) rowL a m cap 300 (by omega) w HNN.out
      have HL : Hid ((L0.take 300).length = 300) := Lib.hid (by rw [List.length_take, HL0.out]; omega)
      have HR : Hid (RdLn w a (L0.take 300)) := Lib.hid (HR0.out.take 300)
      have HO : Hid (LnOk (L0.take 300)) := Lib.hid (fun x hx => HOK0.out x (List.mem_of_mem_take hx))
      go_wp2
      go_meet
      exact ⟨300, L0.take 300, rfl, by omega, HL, HR, HO, rfl⟩
    · have d1 : decide ((300 : Int) < (m : Int)) = false := decide_eq_false (by omega)
      have d2 : decide (300 < m) = false := decide_eq_false h
      go_wp2
      go_meet
      exact ⟨m, L0, rfl, by omega, HL0, HR0, HOK0, rfl⟩
  case rest =>
    obtain ⟨n, L, rfl, hn3, HN, HR, HOK, he⟩ := hcut
    have he := he.symm
    subst he
    clear HR0 HOK0 HL0 HNN hc0 hc1 hc2
    have hok := HOK.out
    have hn := HN.out
    have PR := Lib.hid (fun (a : Option Addr) (cap : Nat) (W : World) (h : RdLn W a L) => pairs_at L n hn (by omega) a cap W h)
    have G1 := Lib.hid (fun (a : Option Addr) (cap : Nat) (W : World) (h : RdLn W a L) => groups_at L n hn (by omega) a cap hok W h)
    have G2 := Lib.hid (fun (a : Option Addr) (cap : Nat) (W : World) (h : RdLn W a L) => rgroups_at L n hn (by omega) a cap hok W h)
    have hgl : (grL L).length ≤ 10000 := by have := grL_len L; omega
    clear hok hn
    go_wp2_with fail
    refine (awake9 _).mono ?_
    rintro e w1 ⟨rfl, hb⟩
    have B1 := Lib.hid hb
    have HR := Lib.hid (HR.out.later hb)
    clear hb
    go_wp2_with fail
    refine (G1.out _ _ _ HR.out).mono ?_
    rintro e w3 ⟨a2, cap2, GA, rfl, hg, hm, hb⟩
    have GX := Lib.hid hg
    have HM := Lib.hid hm
    have HR := Lib.hid (HR.out.later hb)
    have B3 := Lib.hid (B1.out.trans (hb.mono B1.out.size))
    clear hg hm hb
    go_wp2_with fail
    refine (PR.out _ _ _ HR.out).mono ?_
    rintro e w4 ⟨a3, cap3, rfl, ho, hb⟩
    have HL := Lib.hid (rdLn_own ho rfl)
    have GX := Lib.hid (GX.out.later hb)
    have B4 := Lib.hid (B3.out.trans (hb.mono B3.out.size))
    clear ho hb
    rw [HN.out]
    go_wp2_with fail
    refine (G2.out _ _ _ HL.out).mono ?_
    rintro e w5 ⟨a4, cap4, GB, rfl, hg, hm, hb⟩
    have GX := Lib.hid (GX.out.later hb)
    have GY := Lib.hid hg
    have HM2 := Lib.hid hm
    have B5 := Lib.hid (B4.out.trans (hb.mono B4.out.size))
    clear hg hm hb
    obtain ⟨q, hq⟩ : ∃ q, GA.length = q := ⟨_, rfl⟩
    have hq2 : GB.length = q := by
      have := congrArg List.length (HM.out.trans HM2.out.symm)
      rw [List.length_map, List.length_map] at this
      omega
    have hq3 : q ≤ 10000 := by
      have := congrArg List.length HM.out
      rw [List.length_map] at this
      omega
    have AL := Lib.hid (alike_yes GA GB q hq hq2 (HM.out.trans HM2.out.symm) hq3 _ _ _ _ _ _ _ GX.out GY.out)
    rw [hq, hq2]
    clear hq hq2
    go_wp2_with fail
    refine AL.out.mono ?_
    rintro e w6 ⟨rfl, hb⟩
    have B6 := Lib.hid (B5.out.trans (hb.mono B5.out.size))
    clear hb
    go_wp2
    go_ret
    exact ⟨rfl, B6.out⟩
end Go.Proofs.YtejmhndlfbmpdaaDoor
