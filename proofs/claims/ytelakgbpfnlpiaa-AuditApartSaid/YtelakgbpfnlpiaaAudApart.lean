/- AuditApart, the walk. -/
import Derived.Test.YtelakgbpfnlpiaaAudApartM
import Derived.Test.YtelakgbpfnlpiaaAudOpenW
import Derived.Test.YtelakgbpfnlpiaaOwnP
import Derived.Test.YtelakgbpfnlpiaaLast
import Derived.BigQuiet
import Derived.Deep.QuietTactic
import Derived.Deep.RegionWith
import Derived.Deep.Cut
import Derived.Deep.CutRange
import Derived.Deep.DeepCutAuto
namespace Go.Proofs.Ytelakgbpfnlpiaa
open Go.RowKit Go.Maps Go.WideMaps
set_option linter.unusedVariables false
set_option linter.unusedSimpArgs false

theorem evs_rd {w : World} {B g cap n : Nat} {es : List Ev} (h : OwnP w B 58 7 g cap n (flatE es)) : Rd w (some ⟨g, 0, none⟩) es := rd_of_own h
theorem cntA_at (es : List Ev) {j : Nat} (h : j < 5) : (cntA es)[j]? = some (.int .i64 (cnt es j)) := by
  match j, h with
  | 0, _ => rfl
  | 1, _ => rfl
  | 2, _ => rfl
  | 3, _ => rfl
  | 4, _ => rfl
theorem evs_cells {w : World} {B g cap n : Nat} {es : List Ev} (h : OwnP w B 58 7 g cap n (flatE es)) : ∀ j u, (flatE es)[j]? = some u → w.cell? ((⟨g, 0, none⟩ : Addr).add j) = some u := by
  intro j u hj
  rw [Go.WideShapes.add_plain, Nat.zero_add]
  exact h.cell j u hj
theorem mark_str (c : UInt8) (e : Ev) : (⟨#[c]⟩ : ByteArray) ++ e.host = (markE c e).host := by
  apply ByteArray.ext
  simp [ByteArray.data_append, markE]
set_option maxHeartbeats 4000000 in
set_option maxRecDepth 100000 in
theorem auditApart_walk (x1 x2 : Option Addr × Nat × Nat) (floor : Int) (w : World) (h1 : IsEvsW w x1) (h2 : IsEvsW w x2) (wf : (Lit.int .i64 floor).wf = true) :
    Calls Try.prog 13 #[.slice x1.1 x1.2.1 x1.2.2, .slice x2.1 x2.2.1 x2.2.2, .int .i64 floor] w fun e w' => e = .returned (.bool true) ∧ Below w.heap.size w w' := by
  obtain ⟨a1', n1', c1'⟩ := x1
  obtain ⟨a2', n2', c2'⟩ := x2
  obtain ⟨es, e1, e2, e3, e4, e5⟩ := h1
  obtain ⟨fs, f1, f2, f3, f4, f5⟩ := h2
  simp only at e1 e2 e3 e4 e5 f1 f2 f3 f4 f5 ⊢
  obtain ⟨ls, hls⟩ : ∃ l, es.take 60 = l := ⟨_, rfl⟩
  obtain ⟨ms, hms⟩ : ∃ l, fs.take 60 = l := ⟨_, rfl⟩
  obtain ⟨n, hn⟩ : ∃ n, ls.length = n := ⟨_, rfl⟩
  obtain ⟨m, hm⟩ : ∃ n, ms.length = n := ⟨_, rfl⟩
  have n60 : n ≤ 60 := by rw [← hn, ← hls, List.length_take]; omega
  have m60 : m ≤ 60 := by rw [← hm, ← hms, List.length_take]; omega
  have RL : Hid (Rd w a1' ls) := Lib.hid (by rw [← hls]; exact e4.take 60)
  have RM : Hid (Rd w a2' ms) := Lib.hid (by rw [← hms]; exact f4.take 60)
  have OL : Hid (∀ e, e ∈ ls → EvOk e ∧ e.host.size ≤ reachBytes) := Lib.hid (by rw [← hls]; exact fun e he => e5 e (List.mem_of_mem_take he))
  have OM : Hid (∀ e, e ∈ ms → EvOk e ∧ e.host.size ≤ reachBytes) := Lib.hid (by rw [← hms]; exact fun e he => f5 e (List.mem_of_mem_take he))
  have HL := Lib.hid hls
  have HM := Lib.hid hms
  have HN := Lib.hid hn
  have HMM := Lib.hid hm
  have E1 := Lib.hid e1
  have E2 := Lib.hid e2
  have E3 := Lib.hid e3
  have E4 := Lib.hid e4
  have F1 := Lib.hid f1
  have F2 := Lib.hid f2
  have F3 := Lib.hid f3
  have F4 := Lib.hid f4
  clear hls hms hn hm e1 e2 e3 e4 e5 f1 f2 f3 f4 f5
  obtain ⟨i0, hi0, hz0, hz1, hz2⟩ := info_parts infoEv
  go_enter Try.func13, Try.ntmps13
  go_wp2_with fail
  refine (cut_as es ls HL.out a1' n1' c1' E1.out _ E4.out E2.out (by rw [E1.out]; exact E3.out)).mono ?_
  rintro e w' ⟨rfl, hw⟩
  subst w'
  rw [HN.out]
  go_wp2_with fail
  refine (cut_as fs ms HM.out a2' n2' c2' F1.out _ F4.out F2.out (by rw [F1.out]; exact F3.out)).mono ?_
  rintro e w' ⟨rfl, hw⟩
  subst w'
  rw [HMM.out]
  go_wp2_with fail
  go_loopw [7, 9, 10] (fun o i _ wr => ∃ (k g c : Nat), k ≤ n ∧ o = .slice (some ⟨g, 0, none⟩) k c ∧ i = .int .i64 k ∧ g ≠ (w.heap.size + 1) ∧ Hid (OwnP wr w.heap.size 58 7 g c k (flatE ((ls.take k).map (markE 97)))) ∧ Hid (OwnP wr w.heap.size 58 7 (w.heap.size + 1) 0 0 []) ∧ Hid (∀ e, e ∈ (ls.take k).map (markE 97) → EvOk e) ∧ Hid (Below w.heap.size w wr)) (fun _ i _ _ => n - (intOf i).toNat)
  case atStart => exact ⟨0, w.heap.size, 0, by omega, rfl, rfl, by omega, Lib.hid ((OwnP.lit w w.heap.size _ 7 #[] 0 (Nat.le_refl _) (by unfold maxLen; omega) rfl).alloc _), Lib.hid (by have := OwnP.lit (w.alloc (.cells #[] 58)) w.heap.size 58 7 #[] 0 (by simp) (by unfold maxLen; omega) rfl; simpa using this), Lib.hid (by simp), Lib.hid (((Below.refl _ _).alloc (Nat.le_refl _) _).alloc (by simp) _)⟩
  case round =>
    obtain ⟨k, g, c, hk, rfl, rfl, hne, OX, OY, OKX, BR⟩ := hrel
    have hbs := BR.out.size
    by_cases hlt : k < n
    · obtain ⟨e, he⟩ : ∃ e, ls[k]? = some e := ⟨ls[k]'(by have := HN.out; omega), List.getElem?_eq_getElem _⟩
      obtain ⟨bb, off, ha, hc⟩ := RL.out.at
      have ha' := ha (by have := HN.out; omega)
      subst ha'
      obtain ⟨q0, q1, q2, q3, q4, q5, q6⟩ := hc k e he
      have c0 := (BR.out.cell (World.block_lt_of_cell? _ _ q0)).trans q0
      have c1 := (BR.out.cell (World.block_lt_of_cell? _ _ q1)).trans q1
      have c2 := (BR.out.cell (World.block_lt_of_cell? _ _ q2)).trans q2
      have c3 := (BR.out.cell (World.block_lt_of_cell? _ _ q3)).trans q3
      have c4 := (BR.out.cell (World.block_lt_of_cell? _ _ q4)).trans q4
      have c5 := (BR.out.cell (World.block_lt_of_cell? _ _ q5)).trans q5
      have c6 := (BR.out.cell (World.block_lt_of_cell? _ _ q6)).trans q6
      have HE := Lib.hid he
      have EO := Lib.hid (OL.out e (List.mem_of_getElem? he)).1
      have HXT : Hid ((ls.take (k + 1)).map (markE 97) = (ls.take k).map (markE 97) ++ [markE 97 e]) := Lib.hid (by rw [take_snoc he, List.map_append]; rfl)
      clear q0 q1 q2 q3 q4 q5 q6 ha hc he
      go_upto_region 7 with fail
      refine code_forget (fun w2 => Box w2 wr.heap.size (evL e).toArray 58 ∧ Below wr.heap.size wr w2) ⟨Box.new _ _ _, (Below.refl _ _).alloc (Nat.le_refl _) _⟩ ?_
      rintro w2 ⟨b2, l2⟩
      have B2 := Lib.hid b2
      have L2 := Lib.hid l2
      have lx := b2.lt
      have frx := b2.free
      have d3 : w2.cell? ⟨wr.heap.size, 3, none⟩ = some (.string e.host) := by rw [b2.cell 3]; rfl
      clear c0 c1 c2 c3 c4 c5 c6 b2 l2
      have hfit : 1 + e.host.size ≤ 9223372036854775807 := by have h7 := (OL.out e (List.mem_of_getElem? HE.out)).2; have h8 := reachBytes_lt; omega
      go_upto_region 8 with fail
      refine code_forget (fun w3 => Box w3 wr.heap.size (evL (markE 97 e)).toArray 58 ∧ Below wr.heap.size wr w3) ⟨?_, L2.out.setCell (show wr.heap.size ≤ (⟨wr.heap.size, 3, none⟩ : Addr).block from Nat.le_refl _) _⟩ ?_
      · have h3 := B2.out.set 3 (.string ((⟨#[97]⟩ : ByteArray) ++ e.host))
        rw [mark_str] at h3
        simpa [mark_str, evL, markE] using h3
      rintro w3 ⟨b3, l3⟩
      have EM : Hid (EvOk (markE 97 e)) := Lib.hid ⟨EO.out.1, EO.out.2.1, EO.out.2.2.1, by rw [← mark_str, ByteArray.size_append]; exact hfit⟩
      obtain ⟨M, hM⟩ : ∃ x, markE 97 e = x := ⟨_, rfl⟩
      rw [hM] at b3 EM HXT
      have kf0 : w3.cell? ⟨wr.heap.size, 0, none⟩ = some (.int .i64 M.kind) := by rw [b3.cell 0]; rfl
      have kf1 : w3.cell? ⟨wr.heap.size, 1, none⟩ = some (.int .i64 M.time) := by rw [b3.cell 1]; rfl
      have kf2 : w3.cell? ⟨wr.heap.size, 2, none⟩ = some (.int .i64 M.id) := by rw [b3.cell 2]; rfl
      have kf3 : w3.cell? ⟨wr.heap.size, 3, none⟩ = some (.string M.host) := by rw [b3.cell 3]; rfl
      have kf4 : w3.cell? ⟨wr.heap.size, 4, none⟩ = some (.string M.path) := by rw [b3.cell 4]; rfl
      have kf5 : w3.cell? ⟨wr.heap.size, 5, none⟩ = some (.int .i64 M.prio) := by rw [b3.cell 5]; rfl
      have kf6 : w3.cell? ⟨wr.heap.size, 6, none⟩ = some (.int .i64 M.last) := by rw [b3.cell 6]; rfl
      have l3s := l3.size
      have L3 := Lib.hid l3
      have O3 := Lib.hid (OX.out.later l3)
      have Y3 := Lib.hid (OY.out.later l3)
      have ylt := OY.out.lt.2
      clear d3 lx frx b3 l3 hM hfit
      go_wp2_with (at_builtin; refine wpList_appP rfl _ _ 52 rfl w.heap.size 58 i0 _ 7 72 Try.underlying52 hi0 hz0 hz1 hz2 rfl (by decide) g c k _ rfl (O3.out.alloc _) ⟨w3.heap.size, 0, none⟩ 1 1 (evL M) rfl rfl (cell_seven_new _ _ _) (evL_one M) (by unfold maxLen; omega) (by omega) (by simp; omega) ?_; intro g' c' w4 ho hg hloc hb)
      have Y4 := Lib.hid ((Y3.out.alloc _).kept hg (fun e => hne e.symm))
      have B4 := Lib.hid (((BR.out.trans (L3.out.mono hbs)).alloc (by omega) _).trans hb)
      have O4 : Hid (OwnP w4 w.heap.size 58 7 g' c' (k + 1) (flatE ((ls.take (k + 1)).map (markE 97)))) := Lib.hid (by rw [HXT.out, flatE_append]; simpa [flatE] using ho)
      have K4 : Hid (∀ e, e ∈ (ls.take (k + 1)).map (markE 97) → EvOk e) := Lib.hid (by
        rw [HXT.out]
        intro x hx
        rcases List.mem_append.1 hx with hx | hx
        · exact OKX.out x hx
        · rw [List.mem_singleton.1 hx]; exact EM.out)
      have hne4 : g' ≠ (w.heap.size + 1) := by
        rcases hloc with rfl | rfl
        · exact hne
        · simp; omega
      clear ho hg hloc hb kf0 kf1 kf2 kf3 kf4 kf5 kf6
      go_roundw
      case rel => exact ⟨k + 1, g', c', by omega, rfl, by go_num, hne4, O4, Y4, K4, B4⟩
      case measure => simp [intOf]; omega
    · obtain rfl : k = n := by omega
      obtain ⟨XS, hXS⟩ : ∃ x, ls.map (markE 97) = x := ⟨_, rfl⟩
      have hTX : (ls.take k).map (markE 97) = XS := by rw [List.take_of_length_le (by have := HN.out; omega), hXS]
      have OXX : Hid (OwnP wr w.heap.size 58 7 g c k (flatE XS)) := Lib.hid (by have := OX.out; rw [hTX] at this; exact this)
      have KX : Hid (∀ e, e ∈ XS → EvOk e) := Lib.hid (by have := OKX.out; rw [hTX] at this; exact this)
      have NX : Hid (XS.length = k) := Lib.hid (by rw [← hXS, List.length_map]; exact HN.out)
      have DX := Lib.hid hXS
      clear OX OKX hXS hTX hk hlt
      obtain ⟨wo, hwo⟩ : ∃ x, x = wr := ⟨_, rfl⟩
      subst hwo
      go_wp2_with fail
      go_loopw [8, 11, 12] (fun o i _ wr => ∃ (k2 g2 c2 : Nat), k2 ≤ m ∧ o = .slice (some ⟨g2, 0, none⟩) k2 c2 ∧ i = .int .i64 k2 ∧ g2 ≠ g ∧ Hid (OwnP wr w.heap.size 58 7 g2 c2 k2 (flatE ((ms.take k2).map (markE 98)))) ∧ Hid (OwnP wr w.heap.size 58 7 g c k (flatE XS)) ∧ Hid (∀ e, e ∈ (ms.take k2).map (markE 98) → EvOk e) ∧ Hid (Below w.heap.size w wr)) (fun _ i _ _ => m - (intOf i).toNat)
      case atStart => exact ⟨0, w.heap.size + 1, 0, by omega, rfl, rfl, hne.symm, Lib.hid (by rw [List.take_zero]; exact OY.out), OXX, Lib.hid (by simp), BR⟩
      case round =>
        clear OXX OY BR hbs hne
        obtain ⟨k2, g2, c2, hk2, rfl, rfl, hne2, OX2, OY2, OKX2, BR2⟩ := hrel
        have hbs2 := BR2.out.size
        by_cases hlt2 : k2 < m
        · obtain ⟨e, he⟩ : ∃ e, ms[k2]? = some e := ⟨ms[k2]'(by have := HMM.out; omega), List.getElem?_eq_getElem _⟩
          obtain ⟨bb, off, ha, hc⟩ := RM.out.at
          have ha' := ha (by have := HMM.out; omega)
          subst ha'
          obtain ⟨q0, q1, q2, q3, q4, q5, q6⟩ := hc k2 e he
          have c0 := (BR2.out.cell (World.block_lt_of_cell? _ _ q0)).trans q0
          have c1 := (BR2.out.cell (World.block_lt_of_cell? _ _ q1)).trans q1
          have c2 := (BR2.out.cell (World.block_lt_of_cell? _ _ q2)).trans q2
          have c3 := (BR2.out.cell (World.block_lt_of_cell? _ _ q3)).trans q3
          have c4 := (BR2.out.cell (World.block_lt_of_cell? _ _ q4)).trans q4
          have c5 := (BR2.out.cell (World.block_lt_of_cell? _ _ q5)).trans q5
          have c6 := (BR2.out.cell (World.block_lt_of_cell? _ _ q6)).trans q6
          have HE := Lib.hid he
          have EO := Lib.hid (OM.out e (List.mem_of_getElem? he)).1
          have HXT : Hid ((ms.take (k2 + 1)).map (markE 98) = (ms.take k2).map (markE 98) ++ [markE 98 e]) := Lib.hid (by rw [take_snoc he, List.map_append]; rfl)
          clear q0 q1 q2 q3 q4 q5 q6 ha hc he
          go_upto_region 13 with fail
          refine code_forget (fun w2 => Box w2 wr.heap.size (evL e).toArray 58 ∧ Below wr.heap.size wr w2) ⟨Box.new _ _ _, (Below.refl _ _).alloc (Nat.le_refl _) _⟩ ?_
          rintro w2 ⟨b2, l2⟩
          have B2 := Lib.hid b2
          have L2 := Lib.hid l2
          have lx := b2.lt
          have frx := b2.free
          have d3 : w2.cell? ⟨wr.heap.size, 3, none⟩ = some (.string e.host) := by rw [b2.cell 3]; rfl
          clear c0 c1 c2 c3 c4 c5 c6 b2 l2
          have hfit : 1 + e.host.size ≤ 9223372036854775807 := by have h7 := (OM.out e (List.mem_of_getElem? HE.out)).2; have h8 := reachBytes_lt; omega
          go_upto_region 14 with fail
          refine code_forget (fun w3 => Box w3 wr.heap.size (evL (markE 98 e)).toArray 58 ∧ Below wr.heap.size wr w3) ⟨?_, L2.out.setCell (show wr.heap.size ≤ (⟨wr.heap.size, 3, none⟩ : Addr).block from Nat.le_refl _) _⟩ ?_
          · have h3 := B2.out.set 3 (.string ((⟨#[98]⟩ : ByteArray) ++ e.host))
            rw [mark_str] at h3
            simpa [mark_str, evL, markE] using h3
          rintro w3 ⟨b3, l3⟩
          have EM : Hid (EvOk (markE 98 e)) := Lib.hid ⟨EO.out.1, EO.out.2.1, EO.out.2.2.1, by rw [← mark_str, ByteArray.size_append]; exact hfit⟩
          obtain ⟨M, hM⟩ : ∃ x, markE 98 e = x := ⟨_, rfl⟩
          rw [hM] at b3 EM HXT
          have kf0 : w3.cell? ⟨wr.heap.size, 0, none⟩ = some (.int .i64 M.kind) := by rw [b3.cell 0]; rfl
          have kf1 : w3.cell? ⟨wr.heap.size, 1, none⟩ = some (.int .i64 M.time) := by rw [b3.cell 1]; rfl
          have kf2 : w3.cell? ⟨wr.heap.size, 2, none⟩ = some (.int .i64 M.id) := by rw [b3.cell 2]; rfl
          have kf3 : w3.cell? ⟨wr.heap.size, 3, none⟩ = some (.string M.host) := by rw [b3.cell 3]; rfl
          have kf4 : w3.cell? ⟨wr.heap.size, 4, none⟩ = some (.string M.path) := by rw [b3.cell 4]; rfl
          have kf5 : w3.cell? ⟨wr.heap.size, 5, none⟩ = some (.int .i64 M.prio) := by rw [b3.cell 5]; rfl
          have kf6 : w3.cell? ⟨wr.heap.size, 6, none⟩ = some (.int .i64 M.last) := by rw [b3.cell 6]; rfl
          have l3s := l3.size
          have L3 := Lib.hid l3
          have O3 := Lib.hid (OX2.out.later l3)
          have Y3 := Lib.hid (OY2.out.later l3)
          have ylt := OY2.out.lt.2
          clear d3 lx frx b3 l3 hM hfit
          go_wp2_with (at_builtin; refine wpList_appP rfl _ _ 52 rfl w.heap.size 58 i0 _ 7 72 Try.underlying52 hi0 hz0 hz1 hz2 rfl (by decide) g2 c2 k2 _ rfl (O3.out.alloc _) ⟨w3.heap.size, 0, none⟩ 1 1 (evL M) rfl rfl (cell_seven_new _ _ _) (evL_one M) (by unfold maxLen; omega) (by omega) (by simp; omega) ?_; intro g' c' w4 ho hg hloc hb)
          have Y4 := Lib.hid ((Y3.out.alloc _).kept hg (fun e => hne2 e.symm))
          have B4 := Lib.hid (((BR2.out.trans (L3.out.mono hbs2)).alloc (by omega) _).trans hb)
          have O4 : Hid (OwnP w4 w.heap.size 58 7 g' c' (k2 + 1) (flatE ((ms.take (k2 + 1)).map (markE 98)))) := Lib.hid (by rw [HXT.out, flatE_append]; simpa [flatE] using ho)
          have K4 : Hid (∀ e, e ∈ (ms.take (k2 + 1)).map (markE 98) → EvOk e) := Lib.hid (by
            rw [HXT.out]
            intro x hx
            rcases List.mem_append.1 hx with hx | hx
            · exact OKX2.out x hx
            · rw [List.mem_singleton.1 hx]; exact EM.out)
          have hne4 : g' ≠ g := by
            rcases hloc with rfl | rfl
            · exact hne2
            · simp; omega
          clear ho hg hloc hb kf0 kf1 kf2 kf3 kf4 kf5 kf6
          go_roundw
          case rel => exact ⟨k2 + 1, g', c', by omega, rfl, by go_num, hne4, O4, Y4, K4, B4⟩
          case measure => simp [intOf]; omega
        · obtain rfl : k2 = m := by omega
          obtain ⟨YS, hYS⟩ : ∃ x, ms.map (markE 98) = x := ⟨_, rfl⟩
          have hTY : (ms.take k2).map (markE 98) = YS := by rw [List.take_of_length_le (by have := HMM.out; omega), hYS]
          have OYY : Hid (OwnP wr w.heap.size 58 7 g2 c2 k2 (flatE YS)) := Lib.hid (by have := OX2.out; rw [hTY] at this; exact this)
          have KY : Hid (∀ e, e ∈ YS → EvOk e) := Lib.hid (by have := OKX2.out; rw [hTY] at this; exact this)
          have NY : Hid (YS.length = k2) := Lib.hid (by rw [← hYS, List.length_map]; exact HMM.out)
          have DY := Lib.hid hYS
          have OX := OY2
          clear OY2 OX2 OKX2 hYS hTY hk2 hlt2
          have g1lt := OX.out.lt.2
          have g2lt := OYY.out.lt.2
          go_wp2_with (first
            | (at_builtin; refine wpList_appP rfl _ _ 52 rfl w.heap.size 58 i0 _ 7 72 Try.underlying52 hi0 hz0 hz1 hz2 rfl (by decide) wr.heap.size 0 0 [] rfl (OwnP.lit wr w.heap.size _ 7 #[] 0 hbs2 (by unfold maxLen; omega) rfl) ⟨g, 0, none⟩ k c (flatE XS) rfl (by rw [flatE_len, NX.out]) (evs_cells (OX.out.alloc _)) (flatE_one XS) (by unfold maxLen; omega) (by omega) (by simp; omega) ?_
               intro g3 c3 w3 ho3 hg3 hl3 hb3
               have X3 := (OX.out.alloc _).kept hg3 (by omega)
               have Y3 := (OYY.out.alloc _).kept hg3 (by omega)
               have B3 := ((BR2.out.alloc hbs2 _).trans hb3)
               have h3s := B3.size
               have n3 : g3 ≠ g ∧ g3 ≠ g2 := by rcases hl3 with rfl | rfl <;> simp <;> omega
               clear hg3 hl3 hb3
               simp only [Nat.zero_add, List.nil_append] at ho3 ⊢)
            | (at_builtin; refine wpList_appP rfl _ _ 52 rfl w.heap.size 58 i0 _ 7 72 Try.underlying52 hi0 hz0 hz1 hz2 rfl (by decide) g3 c3 k (flatE XS) rfl ho3 ⟨g2, 0, none⟩ k2 c2 (flatE YS) rfl (by rw [flatE_len, NY.out]) (evs_cells Y3) (flatE_one YS) (by unfold maxLen; omega) (by omega) h3s ?_
               intro g4 c4 w4 ho4 hg4 hl4 hb4
               have X4 := X3.kept hg4 n3.1.symm
               have Y4 := Y3.kept hg4 n3.2.symm
               have B4 := B3.trans hb4
               clear hg4 hl4 hb4 X3 Y3 B3 h3s n3 ho3)
            | fail)
          have Z4 : Hid (OwnP w4 w.heap.size 58 7 g4 c4 (k + k2) (flatE (XS ++ YS))) := Lib.hid (by rw [flatE_append]; exact ho4)
          have HX4 := Lib.hid X4
          have HY4 := Lib.hid Y4
          have HB4 := Lib.hid B4
          clear X4 Y4 B4 ho4
          have HZX : Hid (∀ e, e ∈ XS ++ YS → EvOk e) := Lib.hid (fun e he => by rcases List.mem_append.1 he with h | h; exact KX.out e h; exact KY.out e h)
          have NZ : Hid ((XS ++ YS).length = k + k2) := Lib.hid (by rw [List.length_append, NX.out, NY.out])
          have w4s := HB4.out.size
          refine (counts_as XS (some ⟨g, 0, none⟩) c #[.int .i64 (cnt XS 0), .int .i64 (cnt XS 1), .int .i64 (cnt XS 2), .int .i64 (cnt XS 3), .int .i64 (cnt XS 4)] _ (evs_rd HX4.out) (by rw [NX.out]; omega) k NX.out rfl).mono ?_
          rintro e w5 ⟨rfl, hb5⟩
          have HX5 := Lib.hid (HX4.out.later hb5)
          have HY5 := Lib.hid (HY4.out.later hb5)
          have HZ5 := Lib.hid (Z4.out.later hb5)
          have HB5 := Lib.hid (HB4.out.trans (hb5.mono HB4.out.size))
          clear hb5
          go_wp2_with fail
          refine (counts_as YS (some ⟨g2, 0, none⟩) c2 #[.int .i64 (cnt YS 0), .int .i64 (cnt YS 1), .int .i64 (cnt YS 2), .int .i64 (cnt YS 3), .int .i64 (cnt YS 4)] _ (evs_rd HY5.out) (by rw [NY.out]; omega) k2 NY.out rfl).mono ?_
          rintro e w6 ⟨rfl, hb6⟩
          have HX6 := Lib.hid (HX5.out.later hb6)
          have HY6 := Lib.hid (HY5.out.later hb6)
          have HZ6 := Lib.hid (HZ5.out.later hb6)
          have HB6 := Lib.hid (HB5.out.trans (hb6.mono HB5.out.size))
          clear hb6
          go_wp2_with fail
          refine (counts_as (XS ++ YS) (some ⟨g4, 0, none⟩) c4 #[.int .i64 (cnt (XS ++ YS) 0), .int .i64 (cnt (XS ++ YS) 1), .int .i64 (cnt (XS ++ YS) 2), .int .i64 (cnt (XS ++ YS) 3), .int .i64 (cnt (XS ++ YS) 4)] _ (evs_rd HZ6.out) (by rw [NZ.out]; omega) (k + k2) NZ.out rfl).mono ?_
          rintro e w7 ⟨rfl, hb7⟩
          have HX7 := Lib.hid (HX6.out.later hb7)
          have HY7 := Lib.hid (HY6.out.later hb7)
          have HZ7 := Lib.hid (HZ6.out.later hb7)
          have HB7 := Lib.hid (HB6.out.trans (hb7.mono HB6.out.size))
          clear hb7
          go_wp2_with fail
          have Q1 : Hid (Box ((((w7.alloc (.cells (cntA XS) 63)).alloc (.cells (cntA YS) 63))).alloc (.cells (cntA (XS ++ YS)) 63)) w7.heap.size (cntA XS) 63) := Lib.hid (((Box.new _ _ _).alloc _).alloc _)
          have Q2 : Hid (Box ((((w7.alloc (.cells (cntA XS) 63)).alloc (.cells (cntA YS) 63))).alloc (.cells (cntA (XS ++ YS)) 63)) (w7.heap.size + 1) (cntA YS) 63) := Lib.hid (by have h := (Box.new (w7.alloc (.cells (cntA XS) 63)) (cntA YS) 63).alloc (.cells (cntA (XS ++ YS)) 63); rwa [World.size_alloc] at h)
          have Q3 : Hid (Box ((((w7.alloc (.cells (cntA XS) 63)).alloc (.cells (cntA YS) 63))).alloc (.cells (cntA (XS ++ YS)) 63)) (w7.heap.size + 1 + 1) (cntA (XS ++ YS)) 63) := Lib.hid (by have h := Box.new (((w7.alloc (.cells (cntA XS) 63)).alloc (.cells (cntA YS) 63))) (cntA (XS ++ YS)) 63; rwa [World.size_alloc, World.size_alloc] at h)
          have Q4 : Hid (Below w7.heap.size w7 ((((w7.alloc (.cells (cntA XS) 63)).alloc (.cells (cntA YS) 63))).alloc (.cells (cntA (XS ++ YS)) 63))) := Lib.hid ((((Below.refl _ _).alloc (Nat.le_refl _) _).alloc (by simp) _).alloc (by simp; omega) _)
          refine code_forget (fun w8 => Hid (Box w8 w7.heap.size (cntA XS) 63) ∧ Hid (Box w8 (w7.heap.size + 1) (cntA YS) 63) ∧ Hid (Box w8 (w7.heap.size + 1 + 1) (cntA (XS ++ YS)) 63) ∧ Hid (Below w7.heap.size w7 w8)) ⟨Q1, Q2, Q3, Q4⟩ ?_
          clear Q1 Q2 Q3 Q4
          rintro w8 ⟨Q1, Q2, Q3, Q4⟩
          obtain ⟨G, hG⟩ : ∃ x, w7.heap.size = x := ⟨_, rfl⟩
          have HX8 := Lib.hid (HX7.out.later Q4.out)
          have HY8 := Lib.hid (HY7.out.later Q4.out)
          have HZ8 := Lib.hid (HZ7.out.later Q4.out)
          have HB8 := Lib.hid (HB7.out.trans (Q4.out.mono HB7.out.size))
          clear HX7 HY7 HZ7 HB7 Q4 HX6 HY6 HZ6 HB6 HX5 HY5 HZ5 HB5 HX4 HY4 Z4 HB4 OX OYY BR2 w4s
          rw [hG] at Q1 Q2 Q3 ⊢
          clear hG
          go_loopw [17] (fun i wr => ∃ k3 : Nat, k3 ≤ 5 ∧ i = .int .i64 k3 ∧ Hid (Below w8.heap.size w8 wr)) (fun i _ => 5 - (intOf i).toNat)
          case atStart => exact ⟨0, by omega, rfl, Lib.hid (Below.refl _ _)⟩
          case round =>
            obtain ⟨k3, hk3, rfl, BW⟩ := hrel
            by_cases h5 : k3 < 5
            · have d5 : decide ((k3 : Int) < 5) = true := decide_eq_true (by omega)
              obtain ⟨xv, hxv⟩ : ∃ x, cnt XS k3 = x := ⟨_, rfl⟩
              obtain ⟨yv, hyv⟩ : ∃ x, cnt YS k3 = x := ⟨_, rfl⟩
              have hz : cnt (XS ++ YS) k3 = xv + yv := by rw [cnt_append, hxv, hyv]
              have bx := cnt_le XS k3 k
              have bY := cnt_le YS k3 k2
              rw [List.take_of_length_le (by rw [NX.out]; omega), hxv] at bx
              rw [List.take_of_length_le (by rw [NY.out]; omega), hyv] at bY
              have hw : IntKind.i64.wrap (xv + yv) = xv + yv := IntWalk.i64_in _ (by omega)
              have p1 : w8.cell? ⟨G, k3, none⟩ = some (.int .i64 xv) := by rw [Q1.out.cell, cntA_at _ h5, hxv]
              have p2 : w8.cell? ⟨G + 1, k3, none⟩ = some (.int .i64 yv) := by rw [Q2.out.cell, cntA_at _ h5, hyv]
              have p3 : w8.cell? ⟨G + 1 + 1, k3, none⟩ = some (.int .i64 (xv + yv)) := by rw [Q3.out.cell, cntA_at _ h5, hz]
              have k50 : (0 : Int) ≤ (k3 : Int) := by omega
              have k55 : (k3 : Int) < 5 := by omega
              have P1 := Lib.hid ((BW.out.cell (World.block_lt_of_cell? _ _ p1)).trans p1)
              have P2 := Lib.hid ((BW.out.cell (World.block_lt_of_cell? _ _ p2)).trans p2)
              have P3 := Lib.hid ((BW.out.cell (World.block_lt_of_cell? _ _ p3)).trans p3)
              clear hxv hyv hz bx bY p1 p2 p3
              go_upto_region 20 with fail
              refine wp_region_last 10 (fun w' => Below wr.heap.size wr w') (by kernel_rfl) (Below.drew (Below.refl _ _)) (fun hHeld hClosed => ?_)
              refine wpAnyL_take (i := 0) (v := ?_) rfl (by kernel_rfl) (by kernel_rfl) (by kernel_rfl) (by kernel_rfl) (fun _ _ _ h => h) (by kernel_rfl) hClosed (Or.inl ⟨by rfl, ?_⟩) hHeld (fun hClosed => ?_)
              rotate_left
              · intro wv hSw; go_simp; all_goals (with_reducible rfl)
              (try simp only [List.getElem_toArray, List.getElem_cons_zero, put_at, List.set])
              refine wpAnyL_take (i := 1) (v := ?_) rfl (by kernel_rfl) (by kernel_rfl) (by kernel_rfl) (by kernel_rfl) (fun _ _ _ h => h) (by kernel_rfl) hClosed (Or.inl ⟨by rfl, ?_⟩) hHeld (fun hClosed => ?_)
              rotate_left
              · intro wv hSw; go_simp; all_goals (with_reducible rfl)
              (try simp only [List.getElem_toArray, List.getElem_cons_succ, List.getElem_cons_zero, put_at, List.set])
              refine wpAnyL_take (i := 2) (v := ?_) rfl (by kernel_rfl) (by kernel_rfl) (by kernel_rfl) (by kernel_rfl) (fun _ _ _ h => h) (by kernel_rfl) hClosed (Or.inl ⟨by rfl, ?_⟩) hHeld (fun hClosed => ?_)
              rotate_left
              · intro wv hSw; have u1 := (hSw.cell (World.block_lt_of_cell? _ _ P1.out)).trans P1.out; have u2 := (hSw.cell (World.block_lt_of_cell? _ _ P2.out)).trans P2.out; have u3 := (hSw.cell (World.block_lt_of_cell? _ _ P3.out)).trans P3.out; go_simp; all_goals (with_reducible rfl)
              (try simp only [List.getElem_toArray, List.getElem_cons_succ, List.getElem_cons_zero, put_at, List.set])
              refine wpAnyL_take (i := 3) (v := ?_) rfl (by kernel_rfl) (by kernel_rfl) (by kernel_rfl) (by kernel_rfl) (fun _ _ _ h => h) (by kernel_rfl) hClosed (Or.inl ⟨by rfl, ?_⟩) hHeld (fun hClosed => ?_)
              rotate_left
              · intro wv hSw; go_simp; all_goals (with_reducible rfl)
              (try simp only [List.getElem_toArray, List.getElem_cons_succ, List.getElem_cons_zero, put_at, List.set])
              refine wpAnyL_take (i := 4) (v := ?_) rfl (by kernel_rfl) (by kernel_rfl) (by kernel_rfl) (by kernel_rfl) (fun _ _ _ h => h) (by kernel_rfl) hClosed (Or.inl ⟨by rfl, ?_⟩) hHeld (fun hClosed => ?_)
              rotate_left
              · intro wv hSw; go_simp; all_goals (with_reducible rfl)
              (try simp only [List.getElem_toArray, List.getElem_cons_succ, List.getElem_cons_zero, put_at, List.set])
              refine wpAnyL_take (i := 5) (v := ?_) rfl (by kernel_rfl) (by kernel_rfl) (by kernel_rfl) (by kernel_rfl) (fun _ _ _ h => h) (by kernel_rfl) hClosed (Or.inl ⟨by rfl, ?_⟩) hHeld (fun hClosed => ?_)
              rotate_left
              · intro wv hSw; have u1 := (hSw.cell (World.block_lt_of_cell? _ _ P1.out)).trans P1.out; have u2 := (hSw.cell (World.block_lt_of_cell? _ _ P2.out)).trans P2.out; have u3 := (hSw.cell (World.block_lt_of_cell? _ _ P3.out)).trans P3.out; go_simp; all_goals (with_reducible rfl)
              (try simp only [List.getElem_toArray, List.getElem_cons_succ, List.getElem_cons_zero, put_at, List.set])
              refine wpAnyL_take (i := 6) (v := ?_) rfl (by kernel_rfl) (by kernel_rfl) (by kernel_rfl) (by kernel_rfl) (fun _ _ _ h => h) (by kernel_rfl) hClosed (Or.inl ⟨by rfl, ?_⟩) hHeld (fun hClosed => ?_)
              rotate_left
              · intro wv hSw; go_simp; all_goals (with_reducible rfl)
              (try simp only [List.getElem_toArray, List.getElem_cons_succ, List.getElem_cons_zero, put_at, List.set])
              refine wpAnyL_take (i := 7) (v := ?_) rfl (by kernel_rfl) (by kernel_rfl) (by kernel_rfl) (by kernel_rfl) (fun _ _ _ h => h) (by kernel_rfl) hClosed (Or.inl ⟨by rfl, ?_⟩) hHeld (fun hClosed => ?_)
              rotate_left
              · intro wv hSw; go_simp; all_goals (with_reducible rfl)
              (try simp only [List.getElem_toArray, List.getElem_cons_succ, List.getElem_cons_zero, put_at, List.set])
              refine wpAnyL_take (i := 8) (v := ?_) rfl (by kernel_rfl) (by kernel_rfl) (by kernel_rfl) (by kernel_rfl) (fun _ _ _ h => h) (by kernel_rfl) hClosed (Or.inl ⟨by rfl, ?_⟩) hHeld (fun hClosed => ?_)
              rotate_left
              · intro wv hSw; have u1 := (hSw.cell (World.block_lt_of_cell? _ _ P1.out)).trans P1.out; have u2 := (hSw.cell (World.block_lt_of_cell? _ _ P2.out)).trans P2.out; have u3 := (hSw.cell (World.block_lt_of_cell? _ _ P3.out)).trans P3.out; go_simp; all_goals (with_reducible rfl)
              (try simp only [List.getElem_toArray, List.getElem_cons_succ, List.getElem_cons_zero, put_at, List.set])
              refine wpAnyL_take (i := 9) (v := ?_) rfl (by kernel_rfl) (by kernel_rfl) (by kernel_rfl) (by kernel_rfl) (fun _ _ _ h => h) (by kernel_rfl) hClosed (Or.inl ⟨by rfl, ?_⟩) hHeld (fun hClosed => ?_)
              rotate_left
              · intro wv hSw; go_simp; all_goals (with_reducible rfl)
              (try simp only [List.getElem_toArray, List.getElem_cons_succ, List.getElem_cons_zero, put_at, List.set])
              refine wpAnyL_last rfl (by kernel_rfl) (by kernel_rfl) (fun KK hK => ?_)
              go_simp
              refine hK.out _ _ ?_
              (try simp only [put_at, List.set])
              go_wp2_with fail
              go_roundw
              case rel => exact ⟨k3 + 1, by omega, by go_num, Lib.hid (BW.out.trans (hHeld.mono BW.out.size))⟩
              case measure => simp [intOf]; omega
            · have d5 : decide ((k3 : Int) < 5) = false := decide_eq_false (by omega)
              have HX9 := Lib.hid (HX8.out.later BW.out)
              have HY9 := Lib.hid (HY8.out.later BW.out)
              have HZ9 := Lib.hid (HZ8.out.later BW.out)
              have HB9 := Lib.hid (HB8.out.trans (BW.out.mono HB8.out.size))
              obtain ⟨gx, hgx⟩ : ∃ b, gapsL floor (fun _ => none) (XS.filter wentE) = b := ⟨_, rfl⟩
              obtain ⟨gy, hgy⟩ : ∃ b, gapsL floor (fun _ => none) (YS.filter wentE) = b := ⟨_, rfl⟩
              have hgz : gapsL floor (fun _ => none) ((XS ++ YS).filter wentE) = (gx && gy) := by rw [← DX.out, ← DY.out, marks_apart (by decide), DX.out, DY.out, hgx, hgy]
              have GX := Lib.hid hgx
              have GY := Lib.hid hgy
              have GZ := Lib.hid hgz
              clear hgx hgy hgz HX8 HY8 HZ8 HB8 BW Q1 Q2 Q3
              go_wp2_with fail
              refine (awake22 _).mono ?_
              rintro e wa ⟨rfl, hba⟩
              have HXa := Lib.hid (HX9.out.later hba)
              have HYa := Lib.hid (HY9.out.later hba)
              have HZa := Lib.hid (HZ9.out.later hba)
              have HBa := Lib.hid (HB9.out.trans (hba.mono HB9.out.size))
              clear hba
              go_wp2_with fail
              refine (gaps_as (XS ++ YS) (some ⟨g4, 0, none⟩) c4 floor floor (gx && gy) _ (evs_rd HZa.out) (by rw [NZ.out]; omega) HZX.out (k + k2) NZ.out rfl GZ.out).mono ?_
              rintro e wb ⟨rfl, hbb⟩
              have HXb := Lib.hid (HXa.out.later hbb)
              have HYb := Lib.hid (HYa.out.later hbb)
              have HBb := Lib.hid (HBa.out.trans (hbb.mono HBa.out.size))
              clear hbb
              go_wp2_with fail
              refine (gaps_as XS (some ⟨g, 0, none⟩) c floor floor gx _ (evs_rd HXb.out) (by rw [NX.out]; omega) KX.out k NX.out rfl GX.out).mono ?_
              rintro e wc ⟨rfl, hbc⟩
              have HYc := Lib.hid (HYb.out.later hbc)
              have HBc := Lib.hid (HBb.out.trans (hbc.mono HBb.out.size))
              clear hbc
              cases gx
              · go_wp2
                go_ret
                exact ⟨rfl, HBc.out⟩
              · go_wp2_with fail
                refine (gaps_as YS (some ⟨g2, 0, none⟩) c2 floor floor gy _ (evs_rd HYc.out) (by rw [NY.out]; omega) KY.out k2 NY.out rfl GY.out).mono ?_
                rintro e wd ⟨rfl, hbd⟩
                have HBd := Lib.hid (HBc.out.trans (hbd.mono HBc.out.size))
                clear hbd
                cases gy
                all_goals
                  go_wp2
                  go_ret
                  exact ⟨rfl, HBd.out⟩
end Go.Proofs.Ytelakgbpfnlpiaa
