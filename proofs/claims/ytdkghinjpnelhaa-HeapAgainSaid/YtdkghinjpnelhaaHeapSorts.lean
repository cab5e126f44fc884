/- Taken one by one, the keys come out rising. -/
import Derived.Test.YtdkghinjpnelhaaHeapUse
import Derived.Test.YtdkghinjpnelhaaFrame
import Derived.Deep.OwnRows
import Derived.Deep.Cut
import Derived.Deep.CutRange
import Derived.Deep.DeepCutAuto
namespace Go.Proofs.Ytdkghinjpnelhaa
open Go.RowKit Go.Maps Go.WideMaps

theorem infoB : (Try.prog.info? 4).map (fun i => (i.zero, i.size, i.bytes)) = some (some (.bool false), 1, 1) := by kernel_rfl
theorem row_facts {w : World} {a : Option Addr} {len cap : Nat} {zs : List Int} (h : IsRow .i64 w a len cap zs) :
    ∃ b off, (0 < len → a = some ⟨b, off, none⟩) ∧ len ≤ maxLen ∧ (∀ k, k < len → w.cell? ⟨b, off + k, none⟩ = some (.int .i64 (zs.getD k 0))) ∧ ∀ k, In64 (zs.getD k 0) := by
  rcases h with ⟨rfl, rfl, rfl, rfl⟩ | ⟨x, rfl, hlc, hcm, hz, hcell, hwf⟩
  · exact ⟨0, 0, fun h => absurd h (by decide), by decide, fun k h => absurd h (Nat.not_lt_zero k), fun k => by simp [In64]⟩
  · have hw : ∀ k, In64 (zs.getD k 0) := by
      intro k
      rw [List.getD_eq_getElem?_getD]
      cases hk : zs[k]? with
      | none => simp [In64]
      | some n =>
        have h1 := hwf n (List.mem_of_getElem? hk)
        simp [Lit.wf, IntKind.min, IntKind.max, IntKind.signed, IntKind.bits] at h1
        simp only [Option.getD_some]
        unfold In64
        omega
    by_cases hl : 0 < zs.length
    · obtain ⟨b, off, rfl, hc⟩ := ints_at hcell hl
      exact ⟨b, off, fun _ => rfl, by omega, fun k hk => hc k (by omega), hw⟩
    · exact ⟨0, 0, fun h => absurd h (by omega), by omega, fun k h => absurd h (by omega), hw⟩

/-- The k first keys are set. -/
structure Fill (w wx : World) (zs : List Int) (k : Nat) (B p bm : Nat) (a : Option Addr) (cap : Nat) (es : Ents) (f : Int → Option Nat) (N : Nat) (wk : Int) : Prop where
  ct : Cont wx B p bm a cap es f N wk
  mem : ∀ z, z ∈ es ↔ ∃ j : Nat, j < k ∧ z = ((j : Int), zs.getD j 0)
  len : es.length = k
  cnt : N ≤ 410 * k
  lo : 0 ≤ wk
  hi : wk ≤ 300 * k
  bel : Below w.heap.size w wx
theorem Fill.step {w wx wy : World} {zs : List Int} {k : Nat} {B p bm : Nat} {a a' : Option Addr} {cap cap' : Nat} {es es' : Ents} {f f' : Int → Option Nat} {N N' : Nat} {wk wk' : Int} (h : Fill w wx zs k B p bm a cap es f N wk) (hB : w.heap.size ≤ B) (hBx : B ≤ wx.heap.size) (hk : k < 100)
    (hs : SetC wx wy B p bm a a' cap' es N wk (k : Int) (zs.getD k 0) es' f' N' wk') : Fill w wy zs (k + 1) B p bm a' cap' es' f' N' wk' := by
  obtain ⟨h1, h2, h3, h4, h5, h6, h7⟩ := hs
  have hno : ∀ k', ((k : Int), k') ∉ es := by
    intro k' e
    obtain ⟨j, hj, e⟩ := (h.mem _).1 e
    injection e with e1 _
    omega
  have hl : es'.length = k + 1 := by
    rcases h3 with ⟨_, k', e⟩ | ⟨e, _⟩
    · exact absurd e (hno k')
    · rw [e, h.len]
  have hd := digs_le es'.length
  refine ⟨h1, fun z => ?_, hl, by have := h.cnt; omega, by have := h.lo; omega, by have := h.hi; omega, h.bel.trans ((h7.below h.ct.hp hBx).mono hB)⟩
  rw [h2 z]
  constructor
  · rintro (⟨e, _⟩ | rfl)
    · obtain ⟨j, hj, e⟩ := (h.mem _).1 e
      exact ⟨j, by omega, e⟩
    · exact ⟨k, by omega, rfl⟩
  · rintro ⟨j, hj, rfl⟩
    by_cases e : j = k
    · subst e
      exact Or.inr rfl
    · exact Or.inl ⟨(h.mem _).2 ⟨j, by omega, rfl⟩, fun e2 => e (Int.ofNat.inj e2)⟩

/-- m have come out; which: S; the last: (was, last). -/
structure Outs (w wx : World) (zs : List Int) (n m : Nat) (B p bm : Nat) (a : Option Addr) (cap : Nat) (es : Ents) (f : Int → Option Nat) (N : Nat) (wk : Int) (g : Nat) (cs : Array Value) (S : Nat → Bool) (last was : Int) : Prop where
  ct : Cont wx B p bm a cap es f N wk
  mem : ∀ z, z ∈ es ↔ ∃ j : Nat, j < n ∧ S j = false ∧ z = ((j : Int), zs.getD j 0)
  len : es.length + m = n
  cnt : N ≤ 410 * (n + m)
  lo : 0 ≤ wk
  hi : wk ≤ 300 * (n + m)
  bel : Below w.heap.size w wx
  box : Box wx g cs 4
  fr : ¬ Mine p bm a g
  gB : w.heap.size ≤ g
  sz : cs.size = n
  cel : ∀ j, j < n → cs[j]? = some (.bool (S j))
  ord : 0 < m → ∀ x, x ∈ es → ¬ lt x (was, last)
theorem Outs.step {w wx wb wy : World} {zs : List Int} {n m : Nat} {B p bm : Nat} {a : Option Addr} {cap : Nat} {es es' : Ents} {f f' : Int → Option Nat} {N N' : Nat} {wk wk' : Int} {g : Nat} {cs : Array Value} {S : Nat → Bool} {last was : Int} (h : Outs w wx zs n m B p bm a cap es f N wk g cs S last was) (hB : w.heap.size ≤ B) (hBx : B ≤ wx.heap.size) (hn : n ≤ 100)
    (hb : Below wx.heap.size wx wb) {j : Nat} (hj : j < n) (hle : ∀ x, x ∈ es → ¬ lt x ((j : Int), zs.getD j 0)) (hd : DropC wb wy B p bm a cap es N wk (j : Int) es' f' N' wk') :
    Outs w (wy.setCell ⟨g, j, none⟩ (.bool true)) zs n (m + 1) B p bm a cap es' f' N' wk' g (cs.setIfInBounds j (.bool true)) (fun i => if i = j then true else S i) (zs.getD j 0) (j : Int) := by
  obtain ⟨h1, h2, h3, h4, h5, h6, h7⟩ := hd
  have hdg := digs_le es.length
  have hl := h.len
  have hbx := (h.box.later hb).only h7.1 h.fr
  have hgl := hbx.lt
  have hone : Only (fun k => k = g) wy (wy.setCell ⟨g, j, none⟩ (.bool true)) := Only.setCell (R := fun k => k = g) (Only.refl _ wy) (p := ⟨g, j, none⟩) (Or.inl rfl) _
  refine ⟨h1.only hone (fun k e e2 => h.fr (by rw [← e]; exact e2)), fun z => ?_, by omega, by have := h.cnt; omega, by have := h.lo; omega, by have := h.hi; omega, ?_, by simpa using hbx.set j (.bool true), h.fr, h.gB, by simp [h.sz], fun i hi => ?_, fun _ x hx => hle x ((h2 x).1 hx).1⟩
  · rw [h2 z]
    constructor
    · rintro ⟨e, e2⟩
      obtain ⟨i, hi, hs, rfl⟩ := (h.mem _).1 e
      refine ⟨i, hi, ?_, rfl⟩
      rw [if_neg (fun e => e2 (by rw [e]))]
      exact hs
    · rintro ⟨i, hi, hs, rfl⟩
      by_cases e : i = j
      · rw [if_pos e] at hs
        cases hs
      · rw [if_neg e] at hs
        exact ⟨(h.mem _).2 ⟨i, hi, hs, rfl⟩, fun e2 => e (Int.ofNat.inj e2)⟩
  · have hbb : B ≤ wb.heap.size := Nat.le_trans hBx hb.size
    exact ((h.bel.trans (hb.mono h.bel.size)).trans ((h7.below (h.ct.later hb).hp hbb).mono hB)).setCell (p := ⟨g, j, none⟩) h.gB _
  · rw [Array.getElem?_setIfInBounds]
    by_cases e : j = i
    · rw [if_pos e, if_pos (by rw [h.sz]; omega), if_pos e.symm]
    · rw [if_neg e, if_neg (Ne.symm e)]
      exact h.cel i hi

set_option maxRecDepth 100000 in
set_option maxHeartbeats 2000000 in
theorem heapSorts_walk (a : Option Addr) (len cap : Nat) (zs : List Int) (w : World) (hrow : IsRow .i64 w a len cap zs) :
    Calls Try.prog 8 #[.slice a len cap] w fun e w' => e = .returned (.bool true) ∧ Below w.heap.size w w' := by
  obtain ⟨b, off, ha, hlm, hc, hwz⟩ := row_facts hrow
  have HA := Lib.hid ha
  have HC := Lib.hid hc
  have HW := Lib.hid hwz
  clear hrow ha hc hwz
  obtain ⟨n, hn, hn100, hnl⟩ : ∃ n : Nat, n = (if 100 < len then 100 else len) ∧ n ≤ 100 ∧ n ≤ len := ⟨_, rfl, by split <;> omega, by split <;> omega⟩
  go_enter Try.func8, Try.ntmps8
  go_wp2_with fail
  refine (new_cont _).mono ?_
  rintro e w0 ⟨rfl, h0, b0⟩
  have F0 := Lib.hid (show Fill w w0 zs 0 w.heap.size (w.heap.size + 1) w.heap.size none 0 [] (fun _ => none) 0 0 from ⟨h0, fun z => by simp, rfl, by omega, by decide, by decide, b0⟩)
  clear h0 b0
  go_upto_if 20 with fail
  go_cut [4] (fun v wx => v = .int .i64 n ∧ wx = w0)
  case first =>
    by_cases h100 : 100 < len
    · rw [if_pos h100] at hn
      subst hn
      have hd1 : decide ((100 : Int) < len) = true := decide_eq_true (by omega)
      go_wp2_with fail
      go_meet
      exact ⟨rfl, rfl⟩
    · rw [if_neg h100] at hn
      subst hn
      have hd1 : decide ((100 : Int) < n) = false := decide_eq_false (by omega)
      go_wp2_with fail
      go_meet
      exact ⟨rfl, rfl⟩
  case rest =>
    obtain ⟨rfl, rfl⟩ := hcut
    clear hn
    go_wp2_with fail
    go_loopw [5] (fun v wx => ∃ (k : Nat) (a : Option Addr) (cap : Nat) (es : Ents) (f : Int → Option Nat) (N : Nat) (wk : Int), k ≤ n ∧ v = .int .i64 k ∧ Hid (Fill w wx zs k w.heap.size (w.heap.size + 1) w.heap.size a cap es f N wk)) (fun v _ => n - (intOf v).toNat)
    case atStart => exact ⟨0, _, _, _, _, _, _, by omega, rfl, F0⟩
    case round =>
      obtain ⟨k, ka, kcap, es, f, N, wk, hk, rfl, HF⟩ := hrel
      clear F0
      by_cases hlt : k < n
      · have hd1 : decide ((k : Int) < n) = true := decide_eq_true (by omega)
        have ha := HA.out (by omega)
        subst ha
        have hcell := HC.out k (by omega)
        have hck := (HF.out.bel.cell (World.block_lt_of_cell? _ _ hcell)).trans hcell
        obtain ⟨z, hz⟩ : ∃ z, zs.getD k 0 = z := ⟨_, rfl⟩
        have HZ := Lib.hid hz
        rw [hz] at hck
        clear hcell hz
        have q1 := HF.out.len
        have q2 := HF.out.cnt
        have q3 := HF.out.lo
        have q4 := HF.out.hi
        go_wp2_with fail
        refine (set_any HF.out.ct HF.out.bel.size k z ⟨by omega, by omega⟩ (by rw [← HZ.out]; exact HW.out k) (by omega) (by omega) q3 (by omega)).mono ?_
        rintro r w1 ⟨a1, cap1, es1, f1, N1, wk1, rfl, hs⟩
        rw [← HZ.out] at hs
        have HF1 := Lib.hid (HF.out.step (Nat.le_refl _) HF.out.bel.size (by omega) hs)
        clear hs
        go_wp2_with fail
        go_roundw
        case rel => exact ⟨k + 1, _, _, _, _, _, _, by omega, by go_num, HF1⟩
        case measure => simp [intOf]; omega
      · have hd1 : decide ((k : Int) < n) = false := decide_eq_false (by omega)
        obtain rfl : k = n := by omega
        have hmk := run_make_row' (P := Try.prog) 56 4 (.bool false) 1 Try.underlying56 infoB rfl .i64 .i64 k (by omega) (by omega)
        have Q0 := Lib.hid (show Outs w _ zs k 0 w.heap.size (w.heap.size + 1) w.heap.size ka kcap es f N wk wr.heap.size (madeCells #[.bool false] k) (fun _ => false) 0 (-1) from
          { ct := HF.out.ct.later ((Below.refl _ _).alloc (Nat.le_refl _) (.cells (madeCells #[.bool false] k) 4)),
            mem := fun z => by
              rw [HF.out.mem z]
              constructor
              · rintro ⟨j, hj, e⟩
                exact ⟨j, hj, rfl, e⟩
              · rintro ⟨j, hj, _, e⟩
                exact ⟨j, hj, e⟩,
            len := HF.out.len, cnt := HF.out.cnt, lo := HF.out.lo, hi := by have := HF.out.hi; omega,
            bel := HF.out.bel.alloc HF.out.bel.size _, box := Box.new wr (madeCells #[.bool false] k) 4,
            fr := fun e => by have := (HF.out.ct.hp.above e).2; omega,
            gB := HF.out.bel.size, sz := size_madeCells _ _,
            cel := fun j hj => by simp [madeCells, hj, Nat.mod_one],
            ord := fun h => absurd h (by decide) })
        go_wp2_with fail
        go_loopw [7, 8, 9] (fun vl vw vi wx => ∃ (m : Nat) (last was : Int) (a : Option Addr) (cap : Nat) (es : Ents) (f : Int → Option Nat) (N : Nat) (wk : Int) (cs : Array Value) (S : Nat → Bool), m ≤ k ∧ vi = .int .i64 m ∧ vl = .int .i64 last ∧ vw = .int .i64 was ∧ Hid (Outs w wx zs k m w.heap.size (w.heap.size + 1) w.heap.size a cap es f N wk wr.heap.size cs S last was)) (fun _ _ vi _ => k - (intOf vi).toNat)
        case atStart => exact ⟨0, 0, -1, _, _, _, _, _, _, _, _, by omega, rfl, rfl, rfl, Q0⟩
        case round =>
          clear HF
          obtain ⟨m, last, was, ma, mcap, es, f, N, wk, cs, S, hm, rfl, rfl, rfl, HQ⟩ := hrel
          clear Q0
          have q1 := HQ.out.len
          have q2 := HQ.out.cnt
          have q3 := HQ.out.lo
          have q4 := HQ.out.hi
          by_cases hlt : m < k
          · have hd1 : decide ((m : Int) < k) = true := decide_eq_true (by omega)
            have ha := HA.out (by omega)
            subst ha
            go_wp2_with fail
            refine (min_any HQ.out.ct (by omega) (by omega)).mono ?_
            rintro r w1 ⟨e, he, hle, rfl, b1⟩
            obtain ⟨j, hj, hs, rfl⟩ := (HQ.out.mem _).1 he
            obtain ⟨z, hz⟩ : ∃ z, zs.getD j 0 = z := ⟨_, rfl⟩
            rw [hz] at he hle ⊢
            have HE := Lib.hid he
            have HLE := Lib.hid hle
            have HZ := Lib.hid hz
            have HSJ := Lib.hid hs
            have B1 := Lib.hid b1
            have hcell := HC.out j (by omega)
            have hck := ((HQ.out.bel.trans (b1.mono HQ.out.bel.size)).cell (World.block_lt_of_cell? _ _ hcell)).trans hcell
            rw [hz] at hck
            have hbx := (HQ.out.box.later b1).facts
            obtain ⟨lg, cg, fg⟩ := hbx
            have hgc := (cg j).trans ((HQ.out.cel j hj).trans (by rw [hs]))
            have hord : m = 0 ∨ 0 < m ∧ last < z ∨ 0 < m ∧ z = last ∧ was ≤ (j : Int) := by
              by_cases h0 : m = 0
              · exact Or.inl h0
              · have := HQ.out.ord (by omega) _ he
                unfold lt at this
                simp only at this
                omega
            clear hcell hz he hle hs b1 cg
            have hd2 : decide ((j : Int) < 0) = false := decide_eq_false (by omega)
            have hd3 : decide ((k : Int) ≤ (j : Int)) = false := decide_eq_false (by omega)
            rcases hord with rfl | ⟨h0, h1⟩ | ⟨h0, h2, h1⟩
            · go_wp2_with fail
              refine (drop_yes (HQ.out.ct.later B1.out) (j : Int) z ⟨by omega, by omega⟩ HE.out (by omega) (by omega) q3 (by omega)).mono ?_
              rintro r w2 ⟨es2, f2, N2, wk2, rfl, hdrop⟩
              have hbx2 := ((HQ.out.box.later B1.out).only hdrop.2.2.2.2.2.2.1 HQ.out.fr).facts
              obtain ⟨lg2, cg2, fg2⟩ := hbx2
              have hgc2 := (cg2 j).trans ((HQ.out.cel j hj).trans (by rw [HSJ.out]))
              have HQ2 := Lib.hid (HQ.out.step (Nat.le_refl _) HQ.out.bel.size (by omega) B1.out hj (by rw [HZ.out]; exact HLE.out) hdrop)
              rw [HZ.out] at HQ2
              clear hdrop cg2
              go_wp2_with fail
              go_roundw
              case rel => exact ⟨0 + 1, z, (j : Int), _, _, _, _, _, _, _, _, by omega, by go_num, rfl, rfl, HQ2⟩
              case measure => simp [intOf]; omega
            · have hd4 : decide ((0 : Int) < m) = true := decide_eq_true (by omega)
              have hd5 : decide (z < last) = false := decide_eq_false (by omega)
              have hd6 : (z == last) = false := by simp; omega
              go_wp2_with fail
              refine (drop_yes (HQ.out.ct.later B1.out) (j : Int) z ⟨by omega, by omega⟩ HE.out (by omega) (by omega) q3 (by omega)).mono ?_
              rintro r w2 ⟨es2, f2, N2, wk2, rfl, hdrop⟩
              have hbx2 := ((HQ.out.box.later B1.out).only hdrop.2.2.2.2.2.2.1 HQ.out.fr).facts
              obtain ⟨lg2, cg2, fg2⟩ := hbx2
              have hgc2 := (cg2 j).trans ((HQ.out.cel j hj).trans (by rw [HSJ.out]))
              have HQ2 := Lib.hid (HQ.out.step (Nat.le_refl _) HQ.out.bel.size (by omega) B1.out hj (by rw [HZ.out]; exact HLE.out) hdrop)
              rw [HZ.out] at HQ2
              clear hdrop cg2
              go_wp2_with fail
              go_roundw
              case rel => exact ⟨m + 1, z, (j : Int), _, _, _, _, _, _, _, _, by omega, by go_num, rfl, rfl, HQ2⟩
              case measure => simp [intOf]; omega
            · have hd4 : decide ((0 : Int) < m) = true := decide_eq_true (by omega)
              have hd5 : decide (z < last) = false := decide_eq_false (by omega)
              have hd6 : (z == last) = true := by simpa using h2
              have hd7 : decide ((j : Int) < was) = false := decide_eq_false (by omega)
              go_wp2_with fail
              refine (drop_yes (HQ.out.ct.later B1.out) (j : Int) z ⟨by omega, by omega⟩ HE.out (by omega) (by omega) q3 (by omega)).mono ?_
              rintro r w2 ⟨es2, f2, N2, wk2, rfl, hdrop⟩
              have hbx2 := ((HQ.out.box.later B1.out).only hdrop.2.2.2.2.2.2.1 HQ.out.fr).facts
              obtain ⟨lg2, cg2, fg2⟩ := hbx2
              have hgc2 := (cg2 j).trans ((HQ.out.cel j hj).trans (by rw [HSJ.out]))
              have HQ2 := Lib.hid (HQ.out.step (Nat.le_refl _) HQ.out.bel.size (by omega) B1.out hj (by rw [HZ.out]; exact HLE.out) hdrop)
              rw [HZ.out] at HQ2
              clear hdrop cg2
              go_wp2_with fail
              go_roundw
              case rel => exact ⟨m + 1, last, (j : Int), _, _, _, _, _, _, _, _, by omega, by go_num, rfl, rfl, by rw [← h2]; exact HQ2⟩
              case measure => simp [intOf]; omega
          · obtain rfl : m = k := by omega
            have hd1 : decide ((m : Int) < m) = false := decide_eq_false (by omega)
            go_wp2_with fail
            refine (min_no HQ.out.ct (by omega)).mono ?_
            rintro r w1 ⟨rfl, rfl⟩
            go_wp2_with fail
            refine (awake12 _).mono ?_
            rintro r w2 ⟨rfl, b2⟩
            go_wp2_with fail
            refine (len_is (HQ.out.ct.later b2) 0 (by omega)).mono ?_
            rintro r w3 ⟨rfl, rfl⟩
            go_wp2_with fail
            exact bodyPost_ret (v := .bool true) (by simp [results, Try.results8, go_sem]) rfl ⟨rfl, HQ.out.bel.trans (b2.mono HQ.out.bel.size)⟩
end Go.Proofs.Ytdkghinjpnelhaa
