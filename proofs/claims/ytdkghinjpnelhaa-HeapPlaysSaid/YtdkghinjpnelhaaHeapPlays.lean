/- A heap by any acts. -/
import Derived.Test.YtdkghinjpnelhaaHeapPlayI
import Derived.Test.YtdkghinjpnelhaaFrame
import Derived.Deep.Cut
import Derived.Deep.CutRange
import Derived.Deep.DeepCutAuto
import Derived.BigQuiet
import Derived.Deep.QuietTactic
namespace Go.Proofs.Ytdkghinjpnelhaa
open Go.RowKit Go.Maps Go.WideMaps

/-- The best of the first j entries. -/
def Best (ls : Ents) (j : Nat) (b : Int) : Prop := (j = 0 ∧ b = -1) ∨ ∃ m : Nat, m < j ∧ b = (m : Int) ∧ ∃ y, ls[m]? = some y ∧ ∀ k x, k < j → ls[k]? = some x → ¬ lt x y
theorem lt_both {x y : Int × Int} (h1 : ¬ lt x y) (h2 : ¬ lt y x) : x = y := by
  unfold lt at h1 h2
  exact Prod.ext (by omega) (by omega)
theorem best_first {ls : Ents} {x : Int × Int} (hx : ls[0]? = some x) : Best ls (0 + 1) 0 :=
  Or.inr ⟨0, by omega, rfl, x, hx, fun k z hk hz => by
    obtain rfl : k = 0 := by omega
    rw [hx] at hz
    cases hz
    unfold lt
    omega⟩
theorem best_new {ls : Ents} {j m : Nat} {x y : Int × Int} (hx : ls[j]? = some x) (_ : ls[m]? = some y) (hle : ∀ k z, k < j → ls[k]? = some z → ¬ lt z y) (h : lt x y) : Best ls (j + 1) (j : Int) :=
  Or.inr ⟨j, by omega, rfl, x, hx, fun k z hk hz => by
    by_cases e : k = j
    · subst e
      rw [hx] at hz
      cases hz
      unfold lt
      omega
    · exact nlt_lt h (hle k z (by omega) hz)⟩
theorem best_keep {ls : Ents} {j m : Nat} {x y : Int × Int} (hm : m < j) (hx : ls[j]? = some x) (hy : ls[m]? = some y) (hle : ∀ k z, k < j → ls[k]? = some z → ¬ lt z y) (h : ¬ lt x y) : Best ls (j + 1) (m : Int) :=
  Or.inr ⟨m, by omega, rfl, y, hy, fun k z hk hz => by
    by_cases e : k = j
    · subst e
      rw [hx] at hz
      cases hz
      exact h
    · exact hle k z (by omega) hz⟩
theorem at_as {w : World} {B : Nat} {a : Option Addr} {cap : Nat} {ls : Ents} {g : Int → Option Nat} (h : w.ownsRow B 48 2 (.slice a ls.length cap) ls.length (flat ls)) (hc : Con ls g) (hl : ls.length < 1000000) (id v : Int) (hv : atV (g id) = v) :
    Calls Try.prog 18 #[.slice a ls.length cap, .int .i64 id] w fun e w' => e = .returned (.int .i64 v) ∧ w' = w := by
  subst hv
  exact at_is h hc hl id

set_option maxRecDepth 100000 in
set_option maxHeartbeats 8000000 in
theorem heapPlays_walk (x : Option Addr × Nat × Nat) (w : World) (hx : IsActs w x) :
    Calls Try.prog 7 #[.slice x.1 x.2.1 x.2.2] w fun e w' => e = .returned (.bool true) ∧ Below w.heap.size w w' := by
  obtain ⟨aa, len, acap⟩ := x
  obtain ⟨b, off, ha, hlm, A, hA⟩ := hx
  simp only at ha hlm hA
  show Calls Try.prog 7 #[.slice aa len acap] w _
  obtain ⟨i0, hi0, hz0, hz1, hz2⟩ := info_parts infoP
  have HA := Lib.hid ha
  have HC := Lib.hid hA
  clear ha hA
  go_enter Try.func7, Try.ntmps7
  go_wp2_with fail
  refine (new_cont _).mono ?_
  rintro e w0 ⟨rfl, h0, b0⟩
  have P0 := Lib.hid (show PlayI w (w0.alloc (.cells #[] 48)) 0 none 0 [] (fun _ => none) 0 0 (some ⟨w0.heap.size, 0, none⟩) 0 [] (fun _ => none) from
    ⟨h0.later ((Below.refl _ _).alloc (Nat.le_refl _) _), World.ownsRow_lit w0 #[] 0 b0.size (by decide) rfl, fun x hx e => by
      cases hx
      have := (h0.hp.above e).2
      simp at this, fun id i => ⟨fun e => (by cases e), fun ⟨k, hk⟩ => by simp at hk⟩, fun z => Iff.rfl, rfl, Nat.le_refl _, by omega, by decide, by decide, b0.alloc b0.size _⟩)
  clear h0 b0
  go_wp2_with fail
  go_loopw [4, 5] (fun vl vi wx => ∃ (i : Nat) (a : Option Addr) (cap : Nat) (es : Ents) (f : Int → Option Nat) (N : Nat) (wk : Int) (al : Option Addr) (capl : Nat) (ls : Ents) (g : Int → Option Nat), i ≤ len ∧ i ≤ 150 ∧ vi = .int .i64 i ∧ vl = .slice al ls.length capl ∧ Hid (PlayI w wx i a cap es f N wk al capl ls g)) (fun _ vi _ => len - (intOf vi).toNat)
  case atStart => exact ⟨0, _, _, _, _, _, _, _, _, _, _, by omega, by omega, rfl, rfl, P0⟩
  case round =>
    obtain ⟨i, a, cap, es, f, N, wk, al, capl, ls, g, hil, hi150, rfl, rfl, HP⟩ := hrel
    clear P0
    by_cases hlt : i < len
    · have hd1 : decide ((i : Int) < len) = true := decide_eq_true (by omega)
      by_cases h150 : i < 150
      · have hd2 : decide ((i : Int) < 150) = true := decide_eq_true (by omega)
        have ha := HA.out (by omega)
        subst ha
        obtain ⟨k0, k1, k2, i6, i7, i8⟩ := HC.out i hlt
        have c0 := (HP.out.bel.cell (World.block_lt_of_cell? _ _ k0)).trans k0
        have c1 := (HP.out.bel.cell (World.block_lt_of_cell? _ _ k1)).trans k1
        have c2 := (HP.out.bel.cell (World.block_lt_of_cell? _ _ k2)).trans k2
        generalize A i = act at c0 c1 c2 i6 i7 i8
        obtain ⟨what, id, key⟩ := act
        simp only at c0 c1 c2 i6 i7 i8
        have HI := Lib.hid i7
        have HK := Lib.hid i8
        clear k0 k1 k2 i6 i7 i8
        have q1 := Nat.le_of_eq HP.out.len
        have q1b := Nat.le_of_eq HP.out.len.symm
        have q2 := HP.out.le
        have q3 := HP.out.cnt
        have q4 := HP.out.lo
        have q5 := HP.out.hi
        have wk0 := q4
        obtain ⟨v, hv⟩ : ∃ v, atV (g id) = v := ⟨_, rfl⟩
        have HV := Lib.hid hv
        clear hv
        have HP1 := Lib.hid (HP.out.later ((Below.refl _ _).alloc (Nat.le_refl _) (.cells #[.int .i64 what, .int .i64 id, .int .i64 key] 44)))
        have hxA := Box.new wr #[.int .i64 what, .int .i64 id, .int .i64 key] 44
        obtain ⟨G, hG⟩ : ∃ G, wr.heap.size = G := ⟨_, rfl⟩
        rw [hG] at hxA
        have hfr : ¬ Mine (w.heap.size + 1) w.heap.size a G := fun e => by
          have := (HP.out.ct.hp.above e).2
          omega
        have HFR := Lib.hid hfr
        have HXA := Lib.hid hxA
        clear hxA hfr HP
        go_wp2_with fail
        refine (at_as HP1.out.row HP1.out.con (by omega) id v HV.out).mono ?_
        rintro e w1 ⟨rfl, rfl⟩
        go_wp2_with fail
        refine (work_is HP1.out.ct).mono ?_
        rintro e w1 ⟨rfl, rfl⟩
        go_upto_if 43 with fail
        generalize wr.alloc (.cells #[.int .i64 what, .int .i64 id, .int .i64 key] 44) = wv at *
        go_cut [4, 9] (fun vl vn wx => ∃ (a : Option Addr) (cap : Nat) (es : Ents) (f : Int → Option Nat) (N : Nat) (wk' : Int) (al : Option Addr) (capl : Nat) (ls : Ents) (g : Int → Option Nat) (n : Nat), vl = .slice al ls.length capl ∧ vn = .int .i64 n ∧ n ≤ 151 ∧ Hid (PlayI w wx (i + 1) a cap es f N wk' al capl ls g) ∧ Hid (wk ≤ wk' ∧ wk' ≤ wk + 2 * digs n))
        case first =>
          obtain ⟨lA, cA, fA⟩ := HXA.out.facts
          by_cases hw0 : what = 0
          · have hd3 : (what == 0) = true := by simpa using hw0
            cases hg : g id with
            | none =>
              have hv : v = -1 := by have := HV.out; rw [hg] at this; exact this.symm
              subst hv
              have HG := Lib.hid hg
              clear hg
              as_aux_lemma =>
                go_wp2_with fail
                refine (set_any HP1.out.ct HP1.out.bel.size id key HI.out HK.out (by omega) (by omega) q4 (by omega)).mono ?_
                rintro r w2 ⟨a1, cap1, es1, f1, N1, wk1, rfl, hs⟩
                have hrw := (HP1.out.turned hs.2.2.2.2.2.2).1
                obtain ⟨lA2, cA2, fA2⟩ := (HXA.out.only hs.2.2.2.2.2.2.1 HFR.out).facts
                have hsz := (HP1.out.bel.trans (hs.2.2.2.2.2.2.below HP1.out.ct.hp HP1.out.bel.size)).size
                have HS := Lib.hid hs
                clear hs lA cA fA
                go_wp2_with (first
                  | (at_builtin; refine wpList_append_own_at _ rfl _ _ 42 rfl w.heap.size 48 i0 (.agg #[.int .i64 0, .int .i64 0]) 2 16 Try.underlying42 hi0 hz0 hz1 hz2 rfl (by decide) (.slice al ls.length capl) _ _ rfl (hrw.alloc _) ⟨w2.heap.size, 0, none⟩ 1 1 [.int .i64 id, .int .i64 key] rfl rfl (cell_two_new _ _ _ _) (fun x hx => by simp at hx; rcases hx with rfl | rfl <;> rfl) (by unfold maxLen; omega) (by omega) (by simp; omega) ?_
                     intro v' w3 hown' hgrow hnil hloc
                     obtain ⟨al', capl', rfl⟩ := own_slice hown'
                     obtain ⟨hp3, hk3, hk4⟩ := HP1.out.setNew (by omega) HG.out HS.out hown' hgrow hloc
                     have HP3 := Lib.hid hp3
                     have HK3 := Lib.hid (And.intro hk4 hk3)
                     clear hown' hgrow hnil hloc hp3 hk3 hk4)
                  | go_in)
                go_meet
                exact ⟨a1, cap1, es1, f1, N1, wk1, al', capl', ls ++ [(id, key)], _, ls.length + 1, by simp, by simp, by omega, HP3, HK3⟩
            | some q =>
              have hv : v = (q : Int) := by have := HV.out; rw [hg] at this; exact this.symm
              subst hv
              obtain ⟨z0, hq⟩ := (HP1.out.con id q).1 hg
              have hql := (List.getElem?_eq_some_iff.1 hq).1
              obtain ⟨gb, hal, _⟩ := row_cells HP1.out.row hq
              have HG := Lib.hid hg
              have HQ := Lib.hid hq
              have HAL := Lib.hid hal
              clear hg hq
              as_aux_lemma =>
                go_wp2_with fail
                refine (set_any HP1.out.ct HP1.out.bel.size id key HI.out HK.out (by omega) (by omega) q4 (by omega)).mono ?_
                rintro r w2 ⟨a1, cap1, es1, f1, N1, wk1, rfl, hs⟩
                have hrw := (HP1.out.turned hs.2.2.2.2.2.2).1
                obtain ⟨lA2, cA2, fA2⟩ := (HXA.out.only hs.2.2.2.2.2.2.1 HFR.out).facts
                obtain ⟨hp3, hk3, hk4⟩ := HP1.out.setOld (by omega) HG.out HQ.out HAL.out hs
                have HP3 := Lib.hid hp3
                have HK3 := Lib.hid (And.intro hk4 hk3)
                subst hal
                obtain ⟨gb', hgb, d1, d2, d3, d4⟩ := row_cells hrw HQ.out
                cases hgb
                clear hs lA cA fA hp3 hk3 hk4 hrw
                go_wp2_with fail
                go_meet
                exact ⟨a1, cap1, es1, f1, N1, wk1, _, capl, ls.set q (id, key), _, ls.length, by simp, by simp, by omega, HP3, HK3⟩
          · have hd3 : (what == 0) = false := by simpa using hw0
            cases hg : g id with
            | none =>
              have hv : v = -1 := by have := HV.out; rw [hg] at this; exact this.symm
              subst hv
              have hno : ∀ k', (id, k') ∉ es := by
                intro k' e
                obtain ⟨j, hj, _⟩ := HP1.out.con.some_of ((HP1.out.mem _).2 e)
                rw [hg] at hj
                cases hj
              have HNO := Lib.hid hno
              clear hg hno
              go_wp2_with fail
              refine (drop_no HP1.out.ct id HI.out HNO.out).mono ?_
              rintro r w2 ⟨rfl, rfl⟩
              go_wp2_with fail
              go_meet
              exact ⟨a, cap, es, f, N, wk, al, capl, ls, g, ls.length, by simp, by simp, by omega, Lib.hid HP1.out.dropNo, Lib.hid ⟨Int.le_refl _, by omega⟩⟩
            | some q =>
              have hv : v = (q : Int) := by have := HV.out; rw [hg] at this; exact this.symm
              subst hv
              obtain ⟨z0, hq⟩ := (HP1.out.con id q).1 hg
              have hql := (List.getElem?_eq_some_iff.1 hq).1
              have hm : (id, z0) ∈ es := (HP1.out.mem _).1 (List.mem_of_getElem? hq)
              have HM := Lib.hid hm
              have HG := Lib.hid hg
              obtain ⟨gb, hal, _, _, _, hcap⟩ := row_cells HP1.out.row hq
              subst hal
              clear hg hq hm
              as_aux_lemma =>
                go_wp2_with fail
                refine (drop_yes HP1.out.ct id z0 HI.out HM.out (by omega) (by omega) q4 (by omega)).mono ?_
                rintro r w2 ⟨es1, f1, N1, wk1, rfl, hs⟩
                have hrw := (HP1.out.turned hs.2.2.2.2.2.2).1
                have HS := Lib.hid hs
                clear hs lA cA fA
                go_wp2_with fail
                have hdl : (ls.drop (q + 1)).length = ls.length - (q + 1) := List.length_drop
                have htl : (ls.take q).length = q := by rw [List.length_take]; omega
                have hgl := (own_lt hrw _ rfl).2
                have hsz : w.heap.size ≤ w2.heap.size := (HP1.out.bel.trans (HS.out.2.2.2.2.2.2.below HP1.out.ct.hp HP1.out.bel.size)).size
                have hn1 : ∀ j u, (flat (ls.take q))[j]? = some u → (w2.alloc (.cells #[] 48)).cell? ((⟨gb, 0, none⟩ : Addr).add j) = some u := by
                  intro j u hj
                  rw [flat_take, List.getElem?_take] at hj
                  split at hj
                  · exact (hrw.alloc _).cells (g := gb) rfl j u hj
                  · cases hj
                have hn2 : ∀ j u, (flat (ls.drop (q + 1)))[j]? = some u → w2.cell? ⟨gb, (q + 1) * 2 + j, none⟩ = some u := by
                  intro j u hj
                  have h1 := (List.getElem?_eq_some_iff.1 hj).1
                  rw [flat_len, hdl] at h1
                  rw [hrw.cellAt _ (by omega)]
                  have h2 : flat ls = flat (ls.take (q + 1)) ++ flat (ls.drop (q + 1)) := by rw [← flat_append, List.take_append_drop]
                  have h3 : (flat (ls.take (q + 1))).length = (q + 1) * 2 := by rw [flat_len, List.length_take]; omega
                  rw [h2, List.getElem?_append_right (by omega), h3, show (q + 1) * 2 + j - (q + 1) * 2 = j by omega]
                  exact hj
                have HN1 := Lib.hid hn1
                have HN2 := Lib.hid hn2
                have HRW := Lib.hid hrw
                have HDL := Lib.hid hdl
                have HTL := Lib.hid htl
                clear hn1 hn2 hrw hdl htl
                have hc1 : q ≤ capl := by omega
                have hc2 : (q : Int) ≤ (capl : Int) := by omega
                have hc3 : ¬ capl = 0 := by omega
                have hc4 : (q : Int) + 1 ≤ (ls.length : Int) := by omega
                have hc5 : (ls.length : Int) ≤ (capl : Int) := by omega
                have hc6 : (q : Int) + 1 ≤ (capl : Int) := by omega
                have hc7 : ((q : Int) + 1).toNat = q + 1 := by omega
                have hc8 : IntKind.i64.wrap ((q : Int) + 1) = (q : Int) + 1 := IntWalk.i64_in _ (by omega)
                have hc9 : (0 : Int) ≤ (q : Int) + 1 := by omega
                by_cases hce : capl = q + 1
                · subst hce
                  have hd1a : (q : Int) ≤ (q : Int) + 1 := by omega
                  have hd1b : q ≤ q + 1 := by omega
                  have hd1c : ((q + 1 : Nat) : Int) = (q : Int) + 1 := by omega
                  clear hc1 hc2 hc3 hc6
                  go_region_law (first
                    | (refine step_append_at _ rfl (.tmp 77) (.tmp 80) 42 rfl w.heap.size 48 i0 (.agg #[.int .i64 0, .int .i64 0]) 2 16 Try.underlying42 hi0 hz0 hz1 hz2 rfl (by decide) (.slice (some ⟨w2.heap.size, 0, none⟩) 0 0) 0 [] (by simp [Act.eval]) (World.ownsRow_lit w2 #[] 0 hsz (by decide) rfl) ⟨gb, 0, none⟩ q (q + 1) (flat (ls.take q)) (by simp [Act.eval]) (by rw [flat_len, HTL.out]) HN1.out (flat_one _) (by unfold maxLen; omega) (by omega) (by simp; omega) ?_
                       intro v1 w3 hown3 hgrow3 hnil3 hloc3
                       have hsz3 : w2.heap.size ≤ w3.heap.size := Nat.le_trans (show w2.heap.size ≤ (w2.alloc (.cells #[] 48)).heap.size by simp) hgrow3.size
                       have hn3 : ∀ j u, (flat (ls.drop (q + 1)))[j]? = some u → w3.cell? ((⟨gb, 0, none⟩ : Addr).add j) = some u := by
                         intro j u hj
                         have h1 := (List.getElem?_eq_some_iff.1 hj).1
                         rw [flat_len, HDL.out] at h1
                         omega)
                    | (refine step_append_at _ rfl (.tmp 81) (.tmp 85) 42 rfl w.heap.size 48 i0 (.agg #[.int .i64 0, .int .i64 0]) 2 16 Try.underlying42 hi0 hz0 hz1 hz2 rfl (by decide) v1 (0 + q) _ (by simp [Act.eval]) hown3 ⟨gb, 0, none⟩ (ls.length - (q + 1)) (q + 1 - (q + 1)) (flat (ls.drop (q + 1))) (by simp [Act.eval]; omega) (by rw [flat_len, HDL.out]) hn3 (flat_one _) (by unfold maxLen; omega) (by omega) (Nat.le_trans hsz hsz3) ?_
                       intro v2 w4 hown4 hgrow4 hnil4 hloc4))
                  have hb1 : ∀ k, v1.ownBlock = some k → w2.heap.size ≤ k := by
                    intro k hk
                    rcases hloc3 with e | e
                    · rw [e] at hk
                      simp [Value.ownBlock] at hk
                      omega
                    · rw [e] at hk
                      have h2 : (w2.alloc (.cells #[] 48)).heap.size = k := by injection hk
                      simp at h2
                      omega
                  have o1 : Only (fun _ => False) w2 (w2.alloc (.cells #[] 48)).drew := ((Only.refl _ _).alloc _).drew
                  have o2 : Only (fun k => w2.heap.size ≤ k) _ w3 := Only.of_grown hgrow3 (fun k e => by simp [Value.ownBlock] at e; omega)
                  have o3 : Only (fun k => w2.heap.size ≤ k) w3 w4 := Only.of_grown hgrow4 hb1
                  have o4 := (o1.trans o2 (fun x hx => Or.inr hx)).trans o3 (fun x hx => Or.inr hx)
                  obtain ⟨n, hn⟩ : ∃ n, 0 + q + (ls.length - (q + 1)) = n := ⟨_, rfl⟩
                  rw [hn] at hown4
                  obtain ⟨al', capl', rfl⟩ := own_slice hown4
                  have hl4 : ∀ x, al' = some x → w2.heap.size ≤ x.block := by
                    intro x hx
                    subst hx
                    rcases hloc4 with e | e
                    · exact hb1 _ (by rw [← e]; rfl)
                    · simp [Value.ownBlock] at e
                      omega
                  obtain ⟨hp4, hk4, hk5⟩ := HP1.out.dropYes (by omega) HG.out HS.out (by omega) hown4 o4 hl4
                  have hln : (ls.take q ++ ls.drop (q + 1)).length = n := by have := erase_len hql; omega
                  have HP4 := Lib.hid hp4
                  have HK4 := Lib.hid (And.intro hk5 hk4)
                  have HLN := Lib.hid hln
                  clear hp4 hk4 hk5 hln o1 o2 o3 o4 hl4 hloc4 hloc3 hown4 hown3 hgrow3 hgrow4 hnil3 hnil4 hn hb1
                  go_wp2_with fail
                  go_meet
                  exact ⟨a, cap, es1, f1, N1, wk1, al', capl', ls.take q ++ ls.drop (q + 1), _, ls.length, by rw [HLN.out], rfl, by omega, HP4, HK4⟩
                · go_region_law (first
                    | (refine step_append_at _ rfl (.tmp 77) (.tmp 80) 42 rfl w.heap.size 48 i0 (.agg #[.int .i64 0, .int .i64 0]) 2 16 Try.underlying42 hi0 hz0 hz1 hz2 rfl (by decide) (.slice (some ⟨w2.heap.size, 0, none⟩) 0 0) 0 [] (by simp [Act.eval]) (World.ownsRow_lit w2 #[] 0 hsz (by decide) rfl) ⟨gb, 0, none⟩ q capl (flat (ls.take q)) (by simp [Act.eval]) (by rw [flat_len, HTL.out]) HN1.out (flat_one _) (by unfold maxLen; omega) (by omega) (by simp; omega) ?_
                       intro v1 w3 hown3 hgrow3 hnil3 hloc3
                       have hsz3 : w2.heap.size ≤ w3.heap.size := Nat.le_trans (show w2.heap.size ≤ (w2.alloc (.cells #[] 48)).heap.size by simp) hgrow3.size
                       have hn3 : ∀ j u, (flat (ls.drop (q + 1)))[j]? = some u → w3.cell? ((⟨gb, (q + 1) * 2, none⟩ : Addr).add j) = some u := by
                         intro j u hj
                         rw [Go.WideShapes.add_plain]
                         refine (World.cell?_of_block (w := (w2.alloc (.cells #[] 48))) (hgrow3.block gb (show gb < (w2.alloc (.cells #[] 48)).heap.size by simp at hgl ⊢; omega) (fun e => by simp [Value.ownBlock] at e; simp at hgl; omega))).trans ?_
                         exact (((Below.refl w2.heap.size w2).alloc (Nat.le_refl _) _).cell (by simpa using hgl)).trans (HN2.out j u hj))
                    | (refine step_append_at _ rfl (.tmp 81) (.tmp 85) 42 rfl w.heap.size 48 i0 (.agg #[.int .i64 0, .int .i64 0]) 2 16 Try.underlying42 hi0 hz0 hz1 hz2 rfl (by decide) v1 (0 + q) _ (by simp [Act.eval]) hown3 ⟨gb, (q + 1) * 2, none⟩ (ls.length - (q + 1)) (capl - (q + 1)) (flat (ls.drop (q + 1))) (by simp [Act.eval]) (by rw [flat_len, HDL.out]) hn3 (flat_one _) (by unfold maxLen; omega) (by omega) (Nat.le_trans hsz hsz3) ?_
                       intro v2 w4 hown4 hgrow4 hnil4 hloc4))
                  have hb1 : ∀ k, v1.ownBlock = some k → w2.heap.size ≤ k := by
                    intro k hk
                    rcases hloc3 with e | e
                    · rw [e] at hk
                      simp [Value.ownBlock] at hk
                      omega
                    · rw [e] at hk
                      have h2 : (w2.alloc (.cells #[] 48)).heap.size = k := by injection hk
                      simp at h2
                      omega
                  have o1 : Only (fun _ => False) w2 (w2.alloc (.cells #[] 48)).drew := ((Only.refl _ _).alloc _).drew
                  have o2 : Only (fun k => w2.heap.size ≤ k) _ w3 := Only.of_grown hgrow3 (fun k e => by simp [Value.ownBlock] at e; omega)
                  have o3 : Only (fun k => w2.heap.size ≤ k) w3 w4 := Only.of_grown hgrow4 hb1
                  have o4 := (o1.trans o2 (fun x hx => Or.inr hx)).trans o3 (fun x hx => Or.inr hx)
                  obtain ⟨n, hn⟩ : ∃ n, 0 + q + (ls.length - (q + 1)) = n := ⟨_, rfl⟩
                  rw [hn] at hown4
                  obtain ⟨al', capl', rfl⟩ := own_slice hown4
                  have hl4 : ∀ x, al' = some x → w2.heap.size ≤ x.block := by
                    intro x hx
                    subst hx
                    rcases hloc4 with e | e
                    · exact hb1 _ (by rw [← e]; rfl)
                    · simp [Value.ownBlock] at e
                      omega
                  obtain ⟨hp4, hk4, hk5⟩ := HP1.out.dropYes (by omega) HG.out HS.out (by omega) hown4 o4 hl4
                  have hln : (ls.take q ++ ls.drop (q + 1)).length = n := by have := erase_len hql; omega
                  have HP4 := Lib.hid hp4
                  have HK4 := Lib.hid (And.intro hk5 hk4)
                  have HLN := Lib.hid hln
                  clear hp4 hk4 hk5 hln o1 o2 o3 o4 hl4 hloc4 hloc3 hown4 hown3 hgrow3 hgrow4 hnil3 hnil4 hn hb1
                  go_wp2_with fail
                  go_meet
                  exact ⟨a, cap, es1, f1, N1, wk1, al', capl', ls.take q ++ ls.drop (q + 1), _, ls.length, by rw [HLN.out], rfl, by omega, HP4, HK4⟩
        case rest =>
          obtain ⟨a, cap, es, f, N, wk', al, capl, ls, g, n, rfl, rfl, hn, HP, HK⟩ := hcut
          clear HP1 HXA HFR HV q1 q1b q2 q3 q4 q5
          have q1 := Nat.le_of_eq HP.out.len
          have q1b := Nat.le_of_eq HP.out.len.symm
          have q2 := HP.out.le
          have q4 := HP.out.lo
          have q5 := HP.out.hi
          have hd := digs_le n
          have hd4 : decide (3 * (digs n : Int) + 3 < wk' - wk) = false := decide_eq_false (by have := HK.out; omega)
          have hd5 : decide (wk' < wk) = false := decide_eq_false (by have := HK.out; omega)
          have hw6 : 0 ≤ wk ∧ wk ≤ wk' := ⟨wk0, HK.out.1⟩
          go_wp2_with fail
          refine (work_is HP.out.ct).mono ?_
          rintro r w2 ⟨rfl, rfl⟩
          go_wp2_with fail
          refine (bits_is n (by omega) _).mono ?_
          rintro r w2 ⟨rfl, rfl⟩
          go_wp2_with fail
          refine (work_is HP.out.ct).mono ?_
          rintro r w2 ⟨rfl, rfl⟩
          go_wp2_with fail
          refine (len_is HP.out.ct (ls.length : Int) (by omega)).mono ?_
          rintro r w2 ⟨rfl, rfl⟩
          go_wp2_with fail
          go_loopw [10, 11] (fun vb vj wx => ∃ (j : Nat) (best : Int), j ≤ ls.length ∧ vj = .int .i64 j ∧ vb = .int .i64 best ∧ Hid (Best ls j best) ∧ Hid (PlayI w wx (i + 1) a cap es f N wk' al capl ls g)) (fun _ vj _ => ls.length - (intOf vj).toNat)
          case atStart => exact ⟨0, -1, by omega, rfl, rfl, Lib.hid (Or.inl ⟨rfl, rfl⟩), HP⟩
          case round =>
            clear HP
            obtain ⟨j, best, hj, rfl, rfl, HBE, HP⟩ := hrel
            by_cases hjl : j < ls.length
            · have hd6 : decide ((j : Int) < ls.length) = true := decide_eq_true (by omega)
              obtain ⟨⟨xi, xk⟩, hx⟩ : ∃ x, ls[j]? = some x := ⟨_, List.getElem?_eq_getElem hjl⟩
              have HX := Lib.hid hx
              have hxm := (HP.out.mem _).1 (List.mem_of_getElem? hx)
              have HXM := Lib.hid hxm
              have HXW := Lib.hid (HP.out.ct.hp.wf _ hxm).1
              obtain ⟨gl, hal, x1, x2, _, _⟩ := row_cells HP.out.row hx
              subst hal
              clear hxm hx
              simp only at x1 x2
              have HP2 := fun k => HP.out.later (wy := wr.drewN k) ⟨rfl, rfl, rfl, Nat.le_refl _, fun _ _ => rfl⟩
              rcases HBE.out with ⟨h0, h1⟩ | ⟨m, hm, hbm, ⟨yi, yk⟩, hy, hle⟩
              · subst h0
                subst h1
                as_aux_lemma =>
                  go_wp2_with fail
                  go_quiet (fail)
                  go_wp2_with fail
                  refine (key_is (HP2 _).ct xi xk HXW.out HXM.out (by omega)).mono ?_
                  rintro r w3 ⟨rfl, rfl⟩
                  go_wp2_with fail
                  go_roundw
                  case rel => exact ⟨0 + 1, 0, by omega, by first | rfl | go_num, rfl, Lib.hid (best_first HX.out), Lib.hid (HP2 _)⟩
                  case measure => simp [intOf]; omega
              · subst hbm
                obtain ⟨gl', hgl, y1, y2, _, _⟩ := row_cells HP.out.row hy
                cases hgl
                simp only at y1 y2
                have HY := Lib.hid hy
                have HLE := Lib.hid hle
                clear hy hle
                have hd7 : decide ((m : Int) < 0) = false := decide_eq_false (by omega)
                as_aux_lemma =>
                  rcases (by omega : xk < yk ∨ (xk = yk ∧ xi < yi) ∨ (xk = yk ∧ ¬ xi < yi) ∨ (¬ xk < yk ∧ ¬ xk = yk)) with h | ⟨h, h2⟩ | ⟨h, h2⟩ | ⟨h, h2⟩
                  · have hd8 : decide (xk < yk) = true := decide_eq_true h
                    go_wp2_with fail
                    go_quiet (fail)
                    go_wp2_with fail
                    refine (key_is (HP2 _).ct xi xk HXW.out HXM.out (by omega)).mono ?_
                    rintro r w3 ⟨rfl, rfl⟩
                    go_wp2_with fail
                    go_roundw
                    case rel => exact ⟨j + 1, (j : Int), by omega, by first | rfl | go_num, rfl, Lib.hid (best_new HX.out HY.out HLE.out (Or.inl h)), Lib.hid (HP2 _)⟩
                    case measure => simp [intOf]; omega
                  · subst h
                    have hd8 : decide (xk < xk) = false := decide_eq_false (by omega)
                    have hd9 : (xk == xk) = true := by simp
                    have hd10 : decide (xi < yi) = true := decide_eq_true h2
                    go_wp2_with fail
                    go_quiet (fail)
                    go_wp2_with fail
                    refine (key_is (HP2 _).ct xi xk HXW.out HXM.out (by omega)).mono ?_
                    rintro r w3 ⟨rfl, rfl⟩
                    go_wp2_with fail
                    go_roundw
                    case rel => exact ⟨j + 1, (j : Int), by omega, by first | rfl | go_num, rfl, Lib.hid (best_new HX.out HY.out HLE.out (Or.inr ⟨rfl, h2⟩)), Lib.hid (HP2 _)⟩
                    case measure => simp [intOf]; omega
                  · subst h
                    have hd8 : decide (xk < xk) = false := decide_eq_false (by omega)
                    have hd9 : (xk == xk) = true := by simp
                    have hd10 : decide (xi < yi) = false := decide_eq_false h2
                    go_wp2_with fail
                    go_quiet (fail)
                    go_wp2_with fail
                    refine (key_is (HP2 _).ct xi xk HXW.out HXM.out (by omega)).mono ?_
                    rintro r w3 ⟨rfl, rfl⟩
                    go_wp2_with fail
                    go_roundw
                    case rel => exact ⟨j + 1, (m : Int), by omega, by first | rfl | go_num, rfl, Lib.hid (best_keep hm HX.out HY.out HLE.out (by unfold lt; simp only; omega)), Lib.hid (HP2 _)⟩
                    case measure => simp [intOf]; omega
                  · have hd8 : decide (xk < yk) = false := decide_eq_false h
                    have hd9 : (xk == yk) = false := by simpa using h2
                    go_wp2_with fail
                    go_quiet (fail)
                    go_wp2_with fail
                    refine (key_is (HP2 _).ct xi xk HXW.out HXM.out (by omega)).mono ?_
                    rintro r w3 ⟨rfl, rfl⟩
                    go_wp2_with fail
                    go_roundw
                    case rel => exact ⟨j + 1, (m : Int), by omega, by first | rfl | go_num, rfl, Lib.hid (best_keep hm HX.out HY.out HLE.out (by unfold lt; simp only; omega)), Lib.hid (HP2 _)⟩
                    case measure => simp [intOf]; omega
            · obtain rfl : j = ls.length := by omega
              have hd6 : decide ((ls.length : Int) < ls.length) = false := decide_eq_false (by omega)
              go_wp2_with fail
              refine (work_is HP.out.ct).mono ?_
              rintro r w2 ⟨rfl, rfl⟩
              rcases HBE.out with ⟨h0, h1⟩ | ⟨m, hm, hbm, ⟨yi, yk⟩, hy, hle⟩
              · have HE := Lib.hid (show es.length = 0 by omega)
                subst h1
                clear h0
                as_aux_lemma =>
                  go_wp2_with fail
                  refine (min_no HP.out.ct HE.out).mono ?_
                  rintro r w2 ⟨rfl, rfl⟩
                  go_wp2_with fail
                  refine (work_is HP.out.ct).mono ?_
                  rintro r w2 ⟨rfl, rfl⟩
                  go_wp2_with fail
                  go_roundw
                  case rel => exact ⟨i + 1, a, cap, es, f, N, wk', al, capl, ls, g, by omega, by omega, by go_num, rfl, HP⟩
                  case measure => simp [intOf]; omega
              · subst hbm
                have hym := (HP.out.mem _).1 (List.mem_of_getElem? hy)
                have HY := Lib.hid hy
                have HYM := Lib.hid hym
                have HLE := Lib.hid hle
                clear hy hle hym
                have hd7 : decide ((0 : Int) ≤ (m : Int)) = true := decide_eq_true (by omega)
                as_aux_lemma =>
                  go_wp2_with fail
                  refine (min_any HP.out.ct (by omega) (by omega)).mono ?_
                  rintro r w2 ⟨e, he, hle2, rfl, b2⟩
                  obtain rfl : e = (yi, yk) := by
                    refine lt_both ?_ (hle2 _ HYM.out)
                    obtain ⟨k, hk⟩ := List.getElem?_of_mem ((HP.out.mem _).2 he)
                    exact HLE.out k e (List.getElem?_eq_some_iff.1 hk).1 hk
                  have HP3 := Lib.hid (HP.out.later b2)
                  obtain ⟨gl, hal, y1, y2, _, _⟩ := row_cells HP3.out.row HY.out
                  subst hal
                  simp only at y1 y2
                  clear he hle2 b2 HP
                  go_wp2_with fail
                  refine (work_is HP3.out.ct).mono ?_
                  rintro r w3 ⟨rfl, rfl⟩
                  go_wp2_with fail
                  go_roundw
                  case rel => exact ⟨i + 1, a, cap, es, f, N, wk', _, capl, ls, g, by omega, by omega, by go_num, rfl, HP3⟩
                  case measure => simp [intOf]; omega
      · have hd2 : decide ((i : Int) < 150) = false := decide_eq_false (by omega)
        go_wp2_with fail
        refine (awake12 _).mono ?_
        rintro r w2 ⟨rfl, b2⟩
        go_wp2_with fail
        exact bodyPost_ret (v := .bool true) (by simp [results, Try.results7, go_sem]) rfl ⟨rfl, HP.out.bel.trans (b2.mono HP.out.bel.size)⟩
    · have hd1 : decide ((i : Int) < len) = false := decide_eq_false (by omega)
      go_wp2_with fail
      refine (awake12 _).mono ?_
      rintro r w2 ⟨rfl, b2⟩
      go_wp2_with fail
      exact bodyPost_ret (v := .bool true) (by simp [results, Try.results7, go_sem]) rfl ⟨rfl, HP.out.bel.trans (b2.mono HP.out.bel.size)⟩
end Go.Proofs.Ytdkghinjpnelhaa
