/- Part of a chain: SpWts. -/
import Derived.Test.YteinblpkcpjpnaaGreatDoorSn01
import Derived.Test.YteinblpkcpjpnaaGreatDoorSw00
/- SpillWaits, walked. Written by gen_waits.py. -/
namespace Go.Proofs.YteinblpkcpjpnaaGreatDoor
open Go Go.RowKit Go.Maps
set_option linter.unusedVariables false
set_option linter.unusedSimpArgs false
set_option maxRecDepth 100000

theorem sp_words {w : World} {a : Option Addr} {len cap : Nat} {zs : List Int} (h : IsRow .u32 w a len cap zs) :
    ∃ b off, (0 < len → a = some ⟨b, off, none⟩) ∧ len ≤ maxLen ∧ ∀ k, k < len → w.cell? ⟨b, off + k, none⟩ = some (.int .u32 (zs.getD k 0)) ∧ 0 ≤ zs.getD k 0 ∧ zs.getD k 0 ≤ 4294967295 := by
  rcases h with ⟨rfl, rfl, rfl, rfl⟩ | ⟨x, rfl, hlc, hcm, hz, hcell, hwf⟩
  · exact ⟨0, 0, fun h => absurd h (by decide), by decide, fun k h => absurd h (Nat.not_lt_zero k)⟩
  · by_cases hl : 0 < zs.length
    · obtain ⟨b, off, rfl, hc⟩ := ints_at hcell hl
      refine ⟨b, off, fun _ => rfl, by omega, fun k hk => ⟨hc k (by omega), ?_⟩⟩
      have h0 : k < zs.length := by omega
      have h1 := hwf zs[k] (List.getElem_mem h0)
      simp [Lit.wf, IntKind.min, IntKind.max, IntKind.signed, IntKind.bits] at h1
      rw [List.getD_eq_getElem?_getD, List.getElem?_eq_getElem h0, Option.getD_some]
      omega
    · exact ⟨0, 0, fun h => absurd h (by omega), by omega, fun k h => absurd h (by omega)⟩
def nmW (k : Nat) : ByteArray := match k with
  | 0 => ⟨#[104, 116, 116, 112, 58, 47, 47, 97]⟩
  | 1 => ⟨#[104, 116, 116, 112, 58, 47, 47, 98]⟩
  | _ => ⟨#[104, 116, 116, 112, 115, 58, 47, 47, 99, 58, 56]⟩
theorem nm_cell {k : Nat} (hk : k < 3) : (#[.string ⟨#[104, 116, 116, 112, 58, 47, 47, 97]⟩, .string ⟨#[104, 116, 116, 112, 58, 47, 47, 98]⟩, .string ⟨#[104, 116, 116, 112, 115, 58, 47, 47, 99, 58, 56]⟩] : Array Value)[k]? = some (.string (nmW k)) := by
  match k, hk with
  | 0, _ => rfl
  | 1, _ => rfl
  | 2, _ => rfl
theorem nm_size (k : Nat) : (nmW k).size ≤ 11 := by
  unfold nmW
  split <;> decide
theorem nm_ne {j k : Nat} (hj : j < 3) (hk : k < 3) (h : j ≠ k) : nmW k ≠ nmW j := by
  match j, hj, k, hk with
  | 0, _, 0, _ => exact absurd rfl h
  | 1, _, 1, _ => exact absurd rfl h
  | 2, _, 2, _ => exact absurd rfl h
  | 0, _, 1, _ => decide
  | 0, _, 2, _ => decide
  | 1, _, 0, _ => decide
  | 1, _, 2, _ => decide
  | 2, _, 0, _ => decide
  | 2, _, 1, _ => decide
theorem nm_x (k : Nat) : nmW k ≠ ⟨#[120]⟩ := by
  unfold nmW
  split <;> decide
/-- What stands in the loop: the log, the names, and what is wanted. -/
structure WtB (w wr : World) (d L c nb wb : Nat) (f : Nat → Int) (g : Lg) (RD RL : Nat → Prop) (cs : Array Value) : Prop where
  sp : SpS w d L (32768 + 2 * c) g RD RL wr
  cl : CLog 40 c g
  n : g.n = 7
  nbox : Box wr nb #[.string ⟨#[104, 116, 116, 112, 58, 47, 47, 97]⟩, .string ⟨#[104, 116, 116, 112, 58, 47, 47, 98]⟩, .string ⟨#[104, 116, 116, 112, 115, 58, 47, 47, 99, 58, 56]⟩] 9
  wbox : Box wr wb cs 3
  sz : cs.size = 3
  val : ∀ k, k < 3 → cs[k]? = some (.int .i64 (f k))
  off : ∀ z, z = nb ∨ z = wb → ¬ (RD z ∨ RL z) ∧ w.heap.size ≤ z
  ne : nb ≠ wb
  x0 : mxW ⟨#[120]⟩ (logS g.D.S) = 0
abbrev WtS (w wr : World) (d L c nb wb : Nat) (g : Lg) (RD RL : Nat → Prop) (cs : Array Value) : Prop := WtB w wr d L c nb wb (fun k => mxW (nmW k) (logS g.D.S)) g RD RL cs
section
variable {w wr w' : World} {d L c nb wb : Nat} {f : Nat → Int} {g g2 : Lg} {RD RL : Nat → Prop} {cs : Array Value} {k : Nat} {s : ByteArray} {t : Int}
theorem WtB.later (h : WtB w wr d L c nb wb f g RD RL cs) (hb : Below wr.heap.size wr w') : WtB w w' d L c nb wb f g RD RL cs := ⟨h.sp.later hb, h.cl, h.n, h.nbox.later hb, h.wbox.later hb, h.sz, h.val, h.off, h.ne, h.x0⟩
theorem WtB.drew (h : WtB w wr d L c nb wb f g RD RL cs) : WtB w wr.drew d L c nb wb f g RD RL cs := h.later (Below.refl _ _).drew
theorem WtB.bl (h : WtB w wr d L c nb wb f g RD RL cs) : Below w.heap.size w wr := h.sp.bl
theorem WtB.ncell (h : WtB w wr d L c nb wb f g RD RL cs) (hk : k < 3) (hs : s = nmW k) : wr.drew.cell? ⟨nb, k, none⟩ = some (.string s) := by
  rw [hs]
  exact (h.nbox.drew.cell k).trans (nm_cell hk)
theorem WtB.wcell0 (h : WtB w wr d L c nb wb f g RD RL cs) (hk : k < 3) : wr.cell? ⟨wb, k, none⟩ = some (.int .i64 (f k)) := (h.wbox.cell k).trans (h.val k hk)
theorem WtB.step (h : WtB w wr d L c nb wb f g RD RL cs) (ha : SpA w d L (32768 + 2 * c + 2) RD RL wr g2 w') (hc : CLog 40 (c + 1) g2) (hn : g2.n = 7) (hx : mxW ⟨#[120]⟩ (logS g2.D.S) = 0) : ∃ R3 R4, WtB w w' d L (c + 1) nb wb f g2 R3 R4 cs := by
  obtain ⟨R3, R4, hs, hw, ho⟩ := ha
  refine ⟨R3, R4, hs.mono (by omega), hc, hn, h.nbox.only ho (h.off nb (Or.inl rfl)).1, h.wbox.only ho (h.off wb (Or.inr rfl)).1, h.sz, h.val, fun z hz => ⟨fun e => ?_, (h.off z hz).2⟩, h.ne, hx⟩
  have hlt : z < wr.heap.size := by
    rcases hz with rfl | rfl
    · exact h.nbox.lt
    · exact h.wbox.lt
  rcases hw z e with e | e
  · exact (h.off z hz).1 e
  · omega
theorem SpS.set {K z j : Nat} {v : Value} (h : SpS w d L K g RD RL wr) (hz : ¬ (RD z ∨ RL z) ∧ w.heap.size ≤ z) : SpS w d L K g RD RL (wr.setCell ⟨z, j, none⟩ v) := by
  have ho : Only (fun k => k = z) wr (wr.setCell ⟨z, j, none⟩ v) := (Only.refl (fun k => k = z) wr).setCell (p := ⟨z, j, none⟩) (Or.inl rfl) v
  refine ⟨h.lg.keep ho.size (fun k hk hm => ho.block k hk (fun e => ?_)), h.ge, h.bl.trans (ho.below h.bl.size fun k hk => hk ▸ hz.2), h.now, h.few⟩
  subst e
  rcases hm with e | e | e
  · exact hz.1 (Or.inl e)
  · exact hz.1 (Or.inr e)
  · have := h.now.lt
    have := hz.2
    omega
theorem mx_wait (j : Nat) (l : List Rc) : mxW (nmW j) (l ++ [waitRc s t]) = if s = nmW j then max (mxW (nmW j) l) t else mxW (nmW j) l := by
  rw [mxW_snoc]
  unfold stW
  by_cases h : s = nmW j
  · rw [if_pos h, if_pos ⟨rfl, h⟩]; rfl
  · rw [if_neg h, if_neg (fun e => h e.2)]
theorem WtB.put {l : List Rc} (h : WtB w wr d L c nb wb (fun k => mxW (nmW k) l) g2 RD RL cs) (hk : k < 3) (hs : s = nmW k) (hl : logS g2.D.S = l ++ [waitRc s t]) (hbig : mxW s l < t) : WtS w (wr.setCell ⟨wb, k, none⟩ (.int .i64 t)) d L c nb wb g2 RD RL (cs.setIfInBounds k (.int .i64 t)) := by
  refine ⟨h.sp.set (h.off wb (Or.inr rfl)), h.cl, h.n, h.nbox.other h.ne _, h.wbox.set k _, by rw [Array.size_setIfInBounds]; exact h.sz, fun j hj => ?_, h.off, h.ne, h.x0⟩
  rw [hl, mx_wait]
  by_cases e : j = k
  · subst e
    rw [set_eq (h.val j hj), if_pos hs, ← hs]
    congr 2
    omega
  · rw [set_ne e, h.val j hj, if_neg (by rw [hs]; exact nm_ne hj hk e)]
theorem WtB.keep {l : List Rc} (h : WtB w wr d L c nb wb (fun k => mxW (nmW k) l) g2 RD RL cs) (hk : k < 3) (hs : s = nmW k) (hl : logS g2.D.S = l ++ [waitRc s t]) (hbig : ¬ mxW s l < t) : WtS w wr d L c nb wb g2 RD RL cs := by
  refine ⟨h.sp, h.cl, h.n, h.nbox, h.wbox, h.sz, fun j hj => ?_, h.off, h.ne, h.x0⟩
  rw [hl, mx_wait, h.val j hj]
  split
  · rename_i e
    rw [e] at hbig
    congr 2
    omega
  · rfl
theorem calm40 {c : Nat} {g : Lg} (h : CLog 40 c g) (hc : c ≤ 200) : g.D.S.length ≤ 4 := by
  have h1 := h.disk.segs
  have e : (2048 - 40 : Nat) = 2008 := rfl
  rw [e] at h1
  omega
end
theorem wait_no_at {w : World} {L : Nat} (s : ByteArray) (t : Int) (h : ¬ soundR (waitRc s t)) :
    Calls Tryz.prog 15 #[.pointer (some ⟨L, 0, none⟩), .string s, .int .i64 t] w fun e w' => e = .returned (.int .i64 2) ∧ Below w.heap.size w w' := by
  have EN := Lib.hid (fun (W : World) => kenc_at (waitRc s t) W)
  have HNS := Lib.hid h
  obtain ⟨b, hb⟩ : ∃ b, encO (waitRc s t) = b := ⟨_, rfl⟩
  rw [hb] at EN
  obtain ⟨m, hm⟩ : ∃ m, b.length = m := ⟨_, rfl⟩
  rw [hm] at EN
  have EN2 : Hid (∀ W, Calls Tryz.prog 27 #[.agg #[.int .i64 3, .int .i64 0, .string s, .string ⟨#[]⟩, .int .i64 0, .int .i64 t]] W fun e w' => ∃ a c k, e = .returned (.tuple #[.slice a m c, .int .i64 k]) ∧ Own w' W.heap.size 5 1 a m c (u8L b) ∧ Below W.heap.size W w' ∧ ((soundR (waitRc s t) ∧ k = 0) ∨ (¬ soundR (waitRc s t) ∧ k = 2))) := Lib.hid (fun W => EN.out W)
  clear EN hb hm h
  go_enter Tryz.func15, Tryz.ntmps15
  go_upto_region 4 with fail
  refine code_forget (fun W => Hid (Box W w.heap.size #[.int .i64 3, .int .i64 0, .string s, .string ⟨#[]⟩, .int .i64 0, .int .i64 t] 74) ∧ Hid (Below w.heap.size w W)) ⟨Lib.hid (Box.new w _ _), Lib.hid ((Below.refl w.heap.size w).alloc (Nat.le_refl _) _)⟩ ?_
  obtain ⟨rb, hrb⟩ : ∃ p, w.heap.size = p := ⟨_, rfl⟩
  have HRB := Lib.hid hrb
  rw [hrb]
  rintro w1 ⟨BR1, B1⟩
  rw [← HRB.out] at B1 ⊢
  clear hrb
  have r0 := BR1.out.cell 0
  have r1 := BR1.out.cell 1
  have r2 := BR1.out.cell 2
  have r3 := BR1.out.cell 3
  have r4 := BR1.out.cell 4
  have r5 := BR1.out.cell 5
  rw [← HRB.out] at r0 r1 r2 r3 r4 r5
  go_wp2_with fail
  refine (EN2.out w1).mono ?_
  rintro e w2 ⟨a, c, k, rfl, ho, hb, hk⟩
  have B2 := Lib.hid (B1.out.trans (hb.mono B1.out.size))
  clear ho hb r0 r1 r2 r3 r4 r5 EN2 BR1 B1
  rcases hk with ⟨hk1, rfl⟩ | ⟨hk1, rfl⟩
  · exact absurd hk1 HNS.out
  · clear hk1 HNS
    go_wp2_with fail
    go_ret
    exact ⟨rfl, B2.out⟩
theorem crash_eq {D : Ds} (hu : D.un = []) (k : Int) : crashD D k = ⟨D.S, [], D.most, 0, 0⟩ := by
  unfold crashD
  rw [hu]
  rfl
theorem CLog.crash {Z c : Nat} {g : Lg} (h : CLog Z c g) (k : Int) : CLog Z c (openL (crashD g.D k) g.n) := by
  rw [crash_eq h.disk.un]
  exact ⟨⟨rfl, rfl, rfl, h.disk.ss, h.disk.byt, h.disk.num, h.disk.whole, h.disk.full, h.disk.tot⟩, open_agr h.disk.ss h.disk.byt, h.most⟩
theorem three_cells {cs : Array Value} {f : Nat → Int} (hs : cs.size = 3) (h : ∀ k, k < 3 → cs[k]? = some (.int .i64 (f k))) : cs = #[.int .i64 (f 0), .int .i64 (f 1), .int .i64 (f 2)] := by
  apply Array.ext_getElem?
  intro i
  match i with
  | 0 => exact h 0 (by decide)
  | 1 => exact h 1 (by decide)
  | 2 => exact h 2 (by decide)
  | k + 3 =>
    rw [Array.getElem?_eq_none (by omega), Array.getElem?_eq_none (by simp)]
set_option maxHeartbeats 8000000 in
theorem spillWaits_walk (ha : Option Addr) (hlen hcap : Nat) (hz : List Int) (ua : Option Addr) (ulen ucap : Nat) (uz : List Int) (keep : Int) (w : World) (hrow : IsRow .u8 w ha hlen hcap hz) (urow : IsRow .u32 w ua ulen ucap uz) (hkw : (Lit.int .i64 keep).wf = true) (hN : NowM w) :
    Calls Tryz.prog 4 #[.slice ha hlen hcap, .slice ua ulen ucap, .int .i64 keep] w fun e w' => e = .returned (.bool true) ∧ Below w.heap.size w w' := by
  obtain ⟨hb, hoff, ha2, hlm, hc⟩ := sp_bytes hrow
  obtain ⟨ub, uoff, ua2, ulm, uc⟩ := sp_words urow
  unfold maxLen at hlm ulm
  have HA := Lib.hid ha2
  have HC := Lib.hid hc
  have UA := Lib.hid ua2
  have UC := Lib.hid uc
  have HN := Lib.hid hN
  have HKW := Lib.hid hkw
  clear ha2 hc hrow hN ua2 uc urow hkw
  have NW := Lib.hid (s_new HN.out (Below.refl _ w) 16)
  go_enter Tryz.func4, Tryz.ntmps4
  go_wp2_with fail
  refine NW.out.mono ?_
  rintro e w1 ⟨d, RD0, rfl, hd, _, _⟩
  have D1 := Lib.hid hd
  clear hd NW
  have OP := Lib.hid (s_open D1.out 7)
  go_wp2_with fail
  refine OP.out.mono ?_
  rintro e w2 ⟨L, RL0, rfl, hs, _, _⟩
  have S2 := Lib.hid hs
  clear hs OP D1
  go_upto_region 7 with fail
  refine code_forget (fun W => ∃ cs, Hid (WtS w W d L 0 w2.heap.size (w2.heap.size + 1) (openL ⟨[], [], moI 16, 0, 0⟩ 7) RD0 RL0 cs)) ⟨#[.int .i64 0, .int .i64 0, .int .i64 0], Lib.hid ⟨S2.out.later (((Below.refl w2.heap.size w2).alloc (Nat.le_refl _) _).alloc (by simp) _), CLog.new 40 16 7 (by decide), rfl, (Box.new w2 _ _).alloc _, (by have h9 := Box.new (w2.alloc (.cells #[.string ⟨#[104, 116, 116, 112, 58, 47, 47, 97]⟩, .string ⟨#[104, 116, 116, 112, 58, 47, 47, 98]⟩, .string ⟨#[104, 116, 116, 112, 115, 58, 47, 47, 99, 58, 56]⟩] 9)) #[.int .i64 0, .int .i64 0, .int .i64 0] 3; rw [World.size_alloc] at h9; exact h9), rfl, fun k hk => by match k, hk with | 0, _ => rfl | 1, _ => rfl | 2, _ => rfl, fun z hz => ?_, by omega, rfl⟩⟩ ?_
  · have hzz : w2.heap.size ≤ z := by rcases hz with rfl | rfl <;> omega
    exact ⟨S2.out.lg.not_own hzz, Nat.le_trans S2.out.bl.size hzz⟩
  obtain ⟨nb, hnb⟩ : ∃ p, w2.heap.size = p := ⟨_, rfl⟩
  obtain ⟨wb, hwb⟩ : ∃ p, w2.heap.size + 1 = p := ⟨_, rfl⟩
  rw [hwb, hnb]
  rintro w3 ⟨cs0, X0⟩
  clear hnb hwb S2
  go_upto_block 0 with fail
  go_cut [] (fun wx => ∃ (i : Nat) (g : Lg) (RD RL : Nat → Prop) (cs : Array Value), i ≤ 200 ∧ Hid (WtS w wx d L i nb wb g RD RL cs))
  case first =>
    go_wp2_with fail
    go_loopw [12] (fun v wr => ∃ (i : Nat) (g : Lg) (RD RL : Nat → Prop) (cs : Array Value), i ≤ hlen ∧ i ≤ ulen ∧ i ≤ 200 ∧ v = .int .i64 (i : Int) ∧ Hid (WtS w wr d L i nb wb g RD RL cs)) (fun v _ => 200 - (vI v).toNat)
    case atStart => exact ⟨0, _, _, _, _, by omega, by omega, by omega, rfl, X0⟩
    case round =>
      obtain ⟨i, g, RD, RL, cs, hi, hiu, hi200, rfl, HS⟩ := hrel
      clear X0
      by_cases hgo : i < hlen ∧ i < ulen ∧ i < 200
      · obtain ⟨h1, h2, h3⟩ := hgo
        have d1 : decide ((i : Int) < (hlen : Int)) = true := decide_eq_true (by omega)
        have d2 : decide ((i : Int) < (ulen : Int)) = true := decide_eq_true (by omega)
        have d200 : decide ((i : Int) < 200) = true := decide_eq_true (by omega)
        have haa := HA.out (by omega)
        have uaa := UA.out (by omega)
        subst haa uaa
        obtain ⟨hzc, z0, z1⟩ := HC.out i h1
        obtain ⟨huc, t0', t1'⟩ := UC.out i h2
        obtain ⟨z, hzz⟩ : ∃ z, hz.getD i 0 = z := ⟨_, rfl⟩
        obtain ⟨t, htt⟩ : ∃ t, uz.getD i 0 = t := ⟨_, rfl⟩
        rw [hzz] at hzc z0 z1
        rw [htt] at huc t0' t1'
        have hz2 : wr.cell? ⟨hb, hoff + i, none⟩ = some (.int .u8 z) := (HS.out.bl.cell (World.block_lt_of_cell? _ _ hzc)).trans hzc
        have HTC := Lib.hid huc
        have t0 : wr.drew.cell? ⟨ub, uoff + i, none⟩ = some (.int .u32 t) := (HS.out.drew.bl.cell (World.block_lt_of_cell? _ _ huc)).trans huc
        have hx0 : (0 : Int) ≤ (i : Int) := by omega
        have hx1 : (i : Int) < (hlen : Int) := by omega
        have hx2 : (i : Int) < (ulen : Int) := by omega
        have hwz : IntKind.i64.wrap z = z := by rw [IntKind.wrap_i64]; omega
        have hwt : IntKind.i64.wrap t = t := by rw [IntKind.wrap_i64]; omega
        obtain ⟨k, hk⟩ : ∃ k : Nat, Int.tmod z 3 = (k : Int) ∧ k < 3 := ⟨(Int.tmod z 3).toNat, by have := Int.tmod_nonneg 3 z0; have := Int.tmod_lt_of_pos z (show (0 : Int) < 3 by decide); omega, by have := Int.tmod_nonneg 3 z0; have := Int.tmod_lt_of_pos z (show (0 : Int) < 3 by decide); omega⟩
        obtain ⟨hm, hk⟩ := hk
        have hk0 : (0 : Int) ≤ (k : Int) := by omega
        have hk1 : (k : Int) < 3 := by omega
        obtain ⟨s, hs⟩ : ∃ s, nmW k = s := ⟨_, rfl⟩
        have HSN : Hid (s = nmW k) := Lib.hid hs.symm
        have HOS : Hid (okS s) := Lib.hid (by rw [← hs]; exact Nat.le_trans (nm_size k) (by decide))
        have n0 := HS.out.ncell hk HSN.out
        obtain ⟨g2, hp, HCL', hlg, hn2⟩ := HS.out.cl.wait (by omega) (by have := calm40 HS.out.cl (by omega); rw [HS.out.n]; omega) (s := s) (t := t) t0' (by omega) (by rw [← hs]; have := nm_size k; omega) (by rw [← hs]; have := nm_size k; omega) (by decide)
        have PC := Lib.hid (s_wait HS.out.drew.sp s t (okI_of (by omega) (by omega)) (by omega) (by omega) (by rw [HS.out.n]; decide) _ hp)
        have HCL := Lib.hid HCL'
        have HLG := Lib.hid hlg
        have HGN : Hid (g2.n = 7) := Lib.hid (by rw [hn2, HS.out.n])
        have HX0 : Hid (mxW ⟨#[120]⟩ (logS g2.D.S) = 0) := Lib.hid (by
          rw [hlg, mxW_snoc, HS.out.x0]
          unfold stW
          rw [if_neg]
          rintro ⟨_, e⟩
          have e : s = ⟨#[120]⟩ := e
          exact nm_x k (hs.trans e))
        dsimp only at PC
        have HKP : Hid (∀ W', SpA w d L (32768 + 2 * i + 2) RD RL wr.drew g2 W' → W'.cell? ⟨nb, k, none⟩ = some (.string s) ∧ W'.cell? ⟨ub, uoff + i, none⟩ = some (.int .u32 t)) := Lib.hid (fun W' hq => by
          obtain ⟨R3, R4, h5⟩ := HS.out.drew.step hq HCL.out HGN.out HX0.out
          refine ⟨?_, (h5.bl.cell (World.block_lt_of_cell? _ _ HTC.out)).trans HTC.out⟩
          rw [HSN.out]
          exact (h5.nbox.cell k).trans (nm_cell hk))
        clear hzc huc hzz htt hs hp HCL' hlg hn2
        go_upto_region 11 with fail
        refine wp_region_last 11 (fun w' => w'.cell? ⟨nb, k, none⟩ = some (.string s) ∧ w'.cell? ⟨ub, uoff + i, none⟩ = some (.int .u32 t)) (by kernel_rfl) (⟨n0, t0⟩) (fun hHeld hClosed => ?_)
        refine wpAnyL_take (i := 0) (v := ?_) rfl (by kernel_rfl) (by kernel_rfl) (by kernel_rfl) (by kernel_rfl) (fun _ _ _ h => h) (by kernel_rfl) hClosed (Or.inl ⟨by rfl, ?_⟩) hHeld (fun hClosed => ?_)
        rotate_left
        · intro wv hSw; go_simp; all_goals (with_reducible rfl)
        (try simp only [List.getElem_toArray, List.getElem_cons_zero, put_at, List.set])
        refine wpAnyL_take (i := 1) (v := ?_) rfl (by kernel_rfl) (by kernel_rfl) (by kernel_rfl) (by kernel_rfl) (fun _ _ _ h => h) (by kernel_rfl) hClosed (Or.inl ⟨by rfl, ?_⟩) hHeld (fun hClosed => ?_)
        rotate_left
        · intro wv hSw; go_simp; all_goals (with_reducible rfl)
        (try simp only [List.getElem_toArray, List.getElem_cons_succ, List.getElem_cons_zero, put_at, List.set])
        refine wpAnyL_take (i := 2) (v := ?_) rfl (by kernel_rfl) (by kernel_rfl) (by kernel_rfl) (by kernel_rfl) (fun _ _ _ h => h) (by kernel_rfl) hClosed (Or.inl ⟨by rfl, ?_⟩) hHeld (fun hClosed => ?_)
        rotate_left
        · intro wv hSw; go_simp; all_goals (with_reducible rfl)
        (try simp only [List.getElem_toArray, List.getElem_cons_succ, List.getElem_cons_zero, put_at, List.set])
        refine wpAnyL_take (i := 3) (v := ?_) rfl (by kernel_rfl) (by kernel_rfl) (by kernel_rfl) (by kernel_rfl) (fun _ _ _ h => h) (by kernel_rfl) hClosed (Or.inl ⟨by rfl, ?_⟩) hHeld (fun hClosed => ?_)
        rotate_left
        · intro wv hSw; go_simp; all_goals (with_reducible rfl)
        (try simp only [List.getElem_toArray, List.getElem_cons_succ, List.getElem_cons_zero, put_at, List.set])
        refine wpAnyL_take (i := 4) (v := ?_) rfl (by kernel_rfl) (by kernel_rfl) (by kernel_rfl) (by kernel_rfl) (fun _ _ _ h => h) (by kernel_rfl) hClosed (Or.inl ⟨by rfl, ?_⟩) hHeld (fun hClosed => ?_)
        rotate_left
        · intro wv hSw; have q0 := hSw.1; have q1 := hSw.2; go_simp; all_goals (with_reducible rfl)
        (try simp only [List.getElem_toArray, List.getElem_cons_succ, List.getElem_cons_zero, put_at, List.set])
        refine wpAnyL_take (i := 5) (v := ?_) rfl (by kernel_rfl) (by kernel_rfl) (by kernel_rfl) (by kernel_rfl) (fun _ _ _ h => h) (by kernel_rfl) hClosed (Or.inl ⟨by rfl, ?_⟩) hHeld (fun hClosed => ?_)
        rotate_left
        · intro wv hSw; go_simp; all_goals (with_reducible rfl)
        (try simp only [List.getElem_toArray, List.getElem_cons_succ, List.getElem_cons_zero, put_at, List.set])
        refine wpAnyL_take (i := 6) (v := ?_) rfl (by kernel_rfl) (by kernel_rfl) (by kernel_rfl) (by kernel_rfl) (fun _ _ _ h => h) (by kernel_rfl) hClosed (Or.inl ⟨by rfl, ?_⟩) hHeld (fun hClosed => ?_)
        rotate_left
        · intro wv hSw; go_simp; all_goals (with_reducible rfl)
        (try simp only [List.getElem_toArray, List.getElem_cons_succ, List.getElem_cons_zero, put_at, List.set])
        refine wpAnyL_take (i := 7) (v := ?_) rfl (by kernel_rfl) (by kernel_rfl) (by kernel_rfl) (by kernel_rfl) (fun _ _ _ h => h) (by kernel_rfl) hClosed (Or.inl ⟨by rfl, ?_⟩) hHeld (fun hClosed => ?_)
        rotate_left
        · intro wv hSw; go_simp; all_goals (with_reducible rfl)
        (try simp only [List.getElem_toArray, List.getElem_cons_succ, List.getElem_cons_zero, put_at, List.set])
        refine wpAnyL_take (i := 8) (v := ?_) rfl (by kernel_rfl) (by kernel_rfl) (by kernel_rfl) (by kernel_rfl) (fun _ _ _ h => h) (by kernel_rfl) hClosed (Or.inl ⟨by rfl, ?_⟩) hHeld (fun hClosed => ?_)
        rotate_left
        · intro wv hSw; have q0 := hSw.1; have q1 := hSw.2; go_simp; all_goals (with_reducible rfl)
        (try simp only [List.getElem_toArray, List.getElem_cons_succ, List.getElem_cons_zero, put_at, List.set])
        refine wpAnyL_take (i := 9) (v := ?_) rfl (by kernel_rfl) (by kernel_rfl) (by kernel_rfl) (by kernel_rfl) (fun _ _ _ h => h) (by kernel_rfl) hClosed (Or.inl ⟨by rfl, ?_⟩) hHeld (fun hClosed => ?_)
        rotate_left
        · intro wv hSw; have q0 := hSw.1; have q1 := hSw.2; go_simp; all_goals (with_reducible rfl)
        (try simp only [List.getElem_toArray, List.getElem_cons_succ, List.getElem_cons_zero, put_at, List.set])
        refine wpAnyL_one (i := 10) rfl (by kernel_rfl) (by kernel_rfl) hClosed (fun KK hK => ?_)
        go_simp
        refine PC.out.mono ?_
        rintro e w5 ⟨rfl, hq⟩
        go_wp2_with fail
        refine hK.out _ _ ?_ (fun hClosed hHeld => ?_)
        · exact HKP.out _ hq
        clear hK KK
        (first | simp only [List.getElem_toArray, List.getElem_cons_succ, List.getElem_cons_zero, put_at, List.set] | (try simp only [put_at, List.set]))
        refine wpAnyL_last rfl (by kernel_rfl) (by kernel_rfl) (fun KK hK => ?_)
        go_simp
        refine hK.out _ _ ?_
        (try simp only [put_at, List.set])
        have hq5 := hq
        obtain ⟨R3, R4, h5⟩ := HS.out.drew.step hq HCL.out HGN.out HX0.out
        have W5 := Lib.hid h5
        clear hq hq5 h5 hHeld hClosed PC
        have q0 : w5.drew.cell? ⟨wb, k, none⟩ = some (.int .i64 (mxW s (logS g.D.S))) := by rw [HSN.out]; exact W5.out.drew.wcell0 hk
        have q1 : w5.drew.cell? ⟨ub, uoff + i, none⟩ = some (.int .u32 t) := (W5.out.drew.bl.cell (World.block_lt_of_cell? _ _ HTC.out)).trans HTC.out
        by_cases hbig : mxW s (logS g.D.S) < t
        · have d3 : decide (t > mxW s (logS g.D.S)) = true := decide_eq_true hbig
          have d3' : decide (mxW s (logS g.D.S) < t) = true := decide_eq_true hbig
          have WF := Lib.hid (W5.out.drew.put hk HSN.out HLG.out hbig)
          go_upto_region 13 with fail
          refine wp_region_last 9 (fun w' => w'.cell? ⟨wb, k, none⟩ = some (.int .i64 (mxW s (logS g.D.S))) ∧ w'.cell? ⟨ub, uoff + i, none⟩ = some (.int .u32 t)) (by kernel_rfl) (⟨q0, q1⟩) (fun hHeld hClosed => ?_)
          refine wpAnyL_take (i := 0) (v := ?_) rfl (by kernel_rfl) (by kernel_rfl) (by kernel_rfl) (by kernel_rfl) (fun _ _ _ h => h) (by kernel_rfl) hClosed (Or.inl ⟨by rfl, ?_⟩) hHeld (fun hClosed => ?_)
          rotate_left
          · intro wv hSw; go_simp; all_goals (with_reducible rfl)
          (try simp only [List.getElem_toArray, List.getElem_cons_zero, put_at, List.set])
          refine wpAnyL_take (i := 1) (v := ?_) rfl (by kernel_rfl) (by kernel_rfl) (by kernel_rfl) (by kernel_rfl) (fun _ _ _ h => h) (by kernel_rfl) hClosed (Or.inl ⟨by rfl, ?_⟩) hHeld (fun hClosed => ?_)
          rotate_left
          · intro wv hSw; go_simp; all_goals (with_reducible rfl)
          (try simp only [List.getElem_toArray, List.getElem_cons_succ, List.getElem_cons_zero, put_at, List.set])
          refine wpAnyL_take (i := 2) (v := ?_) rfl (by kernel_rfl) (by kernel_rfl) (by kernel_rfl) (by kernel_rfl) (fun _ _ _ h => h) (by kernel_rfl) hClosed (Or.inl ⟨by rfl, ?_⟩) hHeld (fun hClosed => ?_)
          rotate_left
          · intro wv hSw; go_simp; all_goals (with_reducible rfl)
          (try simp only [List.getElem_toArray, List.getElem_cons_succ, List.getElem_cons_zero, put_at, List.set])
          refine wpAnyL_take (i := 3) (v := ?_) rfl (by kernel_rfl) (by kernel_rfl) (by kernel_rfl) (by kernel_rfl) (fun _ _ _ h => h) (by kernel_rfl) hClosed (Or.inl ⟨by rfl, ?_⟩) hHeld (fun hClosed => ?_)
          rotate_left
          · intro wv hSw; have q0 := hSw.1; have q1 := hSw.2; go_simp; all_goals (with_reducible rfl)
          (try simp only [List.getElem_toArray, List.getElem_cons_succ, List.getElem_cons_zero, put_at, List.set])
          refine wpAnyL_take (i := 4) (v := ?_) rfl (by kernel_rfl) (by kernel_rfl) (by kernel_rfl) (by kernel_rfl) (fun _ _ _ h => h) (by kernel_rfl) hClosed (Or.inl ⟨by rfl, ?_⟩) hHeld (fun hClosed => ?_)
          rotate_left
          · intro wv hSw; have q0 := hSw.1; have q1 := hSw.2; go_simp; all_goals (with_reducible rfl)
          (try simp only [List.getElem_toArray, List.getElem_cons_succ, List.getElem_cons_zero, put_at, List.set])
          refine wpAnyL_take (i := 5) (v := ?_) rfl (by kernel_rfl) (by kernel_rfl) (by kernel_rfl) (by kernel_rfl) (fun _ _ _ h => h) (by kernel_rfl) hClosed (Or.inl ⟨by rfl, ?_⟩) hHeld (fun hClosed => ?_)
          rotate_left
          · intro wv hSw; go_simp; all_goals (with_reducible rfl)
          (try simp only [List.getElem_toArray, List.getElem_cons_succ, List.getElem_cons_zero, put_at, List.set])
          refine wpAnyL_take (i := 6) (v := ?_) rfl (by kernel_rfl) (by kernel_rfl) (by kernel_rfl) (by kernel_rfl) (fun _ _ _ h => h) (by kernel_rfl) hClosed (Or.inl ⟨by rfl, ?_⟩) hHeld (fun hClosed => ?_)
          rotate_left
          · intro wv hSw; go_simp; all_goals (with_reducible rfl)
          (try simp only [List.getElem_toArray, List.getElem_cons_succ, List.getElem_cons_zero, put_at, List.set])
          refine wpAnyL_take (i := 7) (v := ?_) rfl (by kernel_rfl) (by kernel_rfl) (by kernel_rfl) (by kernel_rfl) (fun _ _ _ h => h) (by kernel_rfl) hClosed (Or.inl ⟨by rfl, ?_⟩) hHeld (fun hClosed => ?_)
          rotate_left
          · intro wv hSw; go_simp; all_goals (with_reducible rfl)
          (try simp only [List.getElem_toArray, List.getElem_cons_succ, List.getElem_cons_zero, put_at, List.set])
          refine wpAnyL_take (i := 8) (v := ?_) rfl (by kernel_rfl) (by kernel_rfl) (by kernel_rfl) (by kernel_rfl) (fun _ _ _ h => h) (by kernel_rfl) hClosed (Or.inl ⟨by rfl, ?_⟩) hHeld (fun hClosed => ?_)
          rotate_left
          · intro wv hSw; have q0 := hSw.1; have q1 := hSw.2; go_simp; all_goals (with_reducible rfl)
          (try simp only [List.getElem_toArray, List.getElem_cons_succ, List.getElem_cons_zero, put_at, List.set])
          refine wpAnyL_last rfl (by kernel_rfl) (by kernel_rfl) (fun KK hK => ?_)
          go_simp
          refine hK.out _ _ ?_
          (try simp only [put_at, List.set])
          clear hHeld hClosed
          have lw := W5.out.drew.wbox.lt
          have fw := W5.out.drew.wbox.free k
          have c0 := WF.out.ncell hk HSN.out
          have c1 : (w5.drew.setCell ⟨wb, k, none⟩ (.int .i64 t)).drew.cell? ⟨wb, k, none⟩ = some (.int .i64 (mxW s (logS g2.D.S))) := by rw [HSN.out]; exact WF.out.drew.wcell0 hk
          have UN := Lib.hid (s_until WF.out.drew.sp s HOS.out)
          rw [WF.out.cl.agr.waits] at UN
          go_upto_region 15 with fail
          refine wp_region_last 10 (fun w' => w'.cell? ⟨nb, k, none⟩ = some (.string s) ∧ w'.cell? ⟨wb, k, none⟩ = some (.int .i64 (mxW s (logS g2.D.S)))) (by kernel_rfl) (⟨c0, c1⟩) (fun hHeld hClosed => ?_)
          refine wpAnyL_take (i := 0) (v := ?_) rfl (by kernel_rfl) (by kernel_rfl) (by kernel_rfl) (by kernel_rfl) (fun _ _ _ h => h) (by kernel_rfl) hClosed (Or.inl ⟨by rfl, ?_⟩) hHeld (fun hClosed => ?_)
          rotate_left
          · intro wv hSw; go_simp; all_goals (with_reducible rfl)
          (try simp only [List.getElem_toArray, List.getElem_cons_zero, put_at, List.set])
          refine wpAnyL_take (i := 1) (v := ?_) rfl (by kernel_rfl) (by kernel_rfl) (by kernel_rfl) (by kernel_rfl) (fun _ _ _ h => h) (by kernel_rfl) hClosed (Or.inl ⟨by rfl, ?_⟩) hHeld (fun hClosed => ?_)
          rotate_left
          · intro wv hSw; go_simp; all_goals (with_reducible rfl)
          (try simp only [List.getElem_toArray, List.getElem_cons_succ, List.getElem_cons_zero, put_at, List.set])
          refine wpAnyL_take (i := 2) (v := ?_) rfl (by kernel_rfl) (by kernel_rfl) (by kernel_rfl) (by kernel_rfl) (fun _ _ _ h => h) (by kernel_rfl) hClosed (Or.inl ⟨by rfl, ?_⟩) hHeld (fun hClosed => ?_)
          rotate_left
          · intro wv hSw; go_simp; all_goals (with_reducible rfl)
          (try simp only [List.getElem_toArray, List.getElem_cons_succ, List.getElem_cons_zero, put_at, List.set])
          refine wpAnyL_take (i := 3) (v := ?_) rfl (by kernel_rfl) (by kernel_rfl) (by kernel_rfl) (by kernel_rfl) (fun _ _ _ h => h) (by kernel_rfl) hClosed (Or.inl ⟨by rfl, ?_⟩) hHeld (fun hClosed => ?_)
          rotate_left
          · intro wv hSw; go_simp; all_goals (with_reducible rfl)
          (try simp only [List.getElem_toArray, List.getElem_cons_succ, List.getElem_cons_zero, put_at, List.set])
          refine wpAnyL_take (i := 4) (v := ?_) rfl (by kernel_rfl) (by kernel_rfl) (by kernel_rfl) (by kernel_rfl) (fun _ _ _ h => h) (by kernel_rfl) hClosed (Or.inl ⟨by rfl, ?_⟩) hHeld (fun hClosed => ?_)
          rotate_left
          · intro wv hSw; have q0 := hSw.1; have q1 := hSw.2; go_simp; all_goals (with_reducible rfl)
          (try simp only [List.getElem_toArray, List.getElem_cons_succ, List.getElem_cons_zero, put_at, List.set])
          refine wpAnyL_take (i := 6) (v := ?_) rfl (by kernel_rfl) (by kernel_rfl) (by kernel_rfl) (by kernel_rfl) (fun _ _ _ h => h) (by kernel_rfl) hClosed (Or.inl ⟨by rfl, ?_⟩) hHeld (fun hClosed => ?_)
          rotate_left
          · intro wv hSw; go_simp; all_goals (with_reducible rfl)
          (try simp only [List.getElem_toArray, List.getElem_cons_succ, List.getElem_cons_zero, put_at, List.set])
          refine wpAnyL_take (i := 7) (v := ?_) rfl (by kernel_rfl) (by kernel_rfl) (by kernel_rfl) (by kernel_rfl) (fun _ _ _ h => h) (by kernel_rfl) hClosed (Or.inl ⟨by rfl, ?_⟩) hHeld (fun hClosed => ?_)
          rotate_left
          · intro wv hSw; go_simp; all_goals (with_reducible rfl)
          (try simp only [List.getElem_toArray, List.getElem_cons_succ, List.getElem_cons_zero, put_at, List.set])
          refine wpAnyL_take (i := 8) (v := ?_) rfl (by kernel_rfl) (by kernel_rfl) (by kernel_rfl) (by kernel_rfl) (fun _ _ _ h => h) (by kernel_rfl) hClosed (Or.inl ⟨by rfl, ?_⟩) hHeld (fun hClosed => ?_)
          rotate_left
          · intro wv hSw; go_simp; all_goals (with_reducible rfl)
          (try simp only [List.getElem_toArray, List.getElem_cons_succ, List.getElem_cons_zero, put_at, List.set])
          refine wpAnyL_take (i := 9) (v := ?_) rfl (by kernel_rfl) (by kernel_rfl) (by kernel_rfl) (by kernel_rfl) (fun _ _ _ h => h) (by kernel_rfl) hClosed (Or.inl ⟨by rfl, ?_⟩) hHeld (fun hClosed => ?_)
          rotate_left
          · intro wv hSw; have q0 := hSw.1; have q1 := hSw.2; go_simp; all_goals (with_reducible rfl)
          (try simp only [List.getElem_toArray, List.getElem_cons_succ, List.getElem_cons_zero, put_at, List.set])
          refine wpAnyL_one (i := 5) rfl (by kernel_rfl) (by kernel_rfl) hClosed (fun KK hK => ?_)
          go_simp
          refine (UN.out).mono ?_
          rintro e wz ⟨rfl, hw⟩
          subst wz
          go_wp2_with fail
          refine hK.out _ _ ?_ (fun hClosed hHeld => ?_)
          · exact hHeld
          clear hK KK
          (first | simp only [List.getElem_toArray, List.getElem_cons_succ, List.getElem_cons_zero, put_at, List.set] | (try simp only [put_at, List.set]))
          refine wpAnyL_last rfl (by kernel_rfl) (by kernel_rfl) (fun KK hK => ?_)
          go_simp
          refine hK.out _ _ ?_
          (try simp only [put_at, List.set])
          have hne2 : (mxW s (logS g2.D.S) != mxW s (logS g2.D.S)) = false := by simp
          go_wp2_with fail
          go_roundw
          case rel => exact ⟨i + 1, g2, R3, R4, _, by omega, by omega, by omega, by go_num, Lib.hid (WF.out.drew)⟩
          case measure => exact cra_ms 200 i h3
        · have d3 : decide (t > mxW s (logS g.D.S)) = false := decide_eq_false hbig
          have d3' : decide (mxW s (logS g.D.S) < t) = false := decide_eq_false hbig
          have WF := Lib.hid (W5.out.drew.keep hk HSN.out HLG.out hbig)
          go_upto_region 13 with fail
          refine wp_region_last 9 (fun w' => w'.cell? ⟨wb, k, none⟩ = some (.int .i64 (mxW s (logS g.D.S))) ∧ w'.cell? ⟨ub, uoff + i, none⟩ = some (.int .u32 t)) (by kernel_rfl) (⟨q0, q1⟩) (fun hHeld hClosed => ?_)
          refine wpAnyL_take (i := 0) (v := ?_) rfl (by kernel_rfl) (by kernel_rfl) (by kernel_rfl) (by kernel_rfl) (fun _ _ _ h => h) (by kernel_rfl) hClosed (Or.inl ⟨by rfl, ?_⟩) hHeld (fun hClosed => ?_)
          rotate_left
          · intro wv hSw; go_simp; all_goals (with_reducible rfl)
          (try simp only [List.getElem_toArray, List.getElem_cons_zero, put_at, List.set])
          refine wpAnyL_take (i := 1) (v := ?_) rfl (by kernel_rfl) (by kernel_rfl) (by kernel_rfl) (by kernel_rfl) (fun _ _ _ h => h) (by kernel_rfl) hClosed (Or.inl ⟨by rfl, ?_⟩) hHeld (fun hClosed => ?_)
          rotate_left
          · intro wv hSw; go_simp; all_goals (with_reducible rfl)
          (try simp only [List.getElem_toArray, List.getElem_cons_succ, List.getElem_cons_zero, put_at, List.set])
          refine wpAnyL_take (i := 2) (v := ?_) rfl (by kernel_rfl) (by kernel_rfl) (by kernel_rfl) (by kernel_rfl) (fun _ _ _ h => h) (by kernel_rfl) hClosed (Or.inl ⟨by rfl, ?_⟩) hHeld (fun hClosed => ?_)
          rotate_left
          · intro wv hSw; go_simp; all_goals (with_reducible rfl)
          (try simp only [List.getElem_toArray, List.getElem_cons_succ, List.getElem_cons_zero, put_at, List.set])
          refine wpAnyL_take (i := 3) (v := ?_) rfl (by kernel_rfl) (by kernel_rfl) (by kernel_rfl) (by kernel_rfl) (fun _ _ _ h => h) (by kernel_rfl) hClosed (Or.inl ⟨by rfl, ?_⟩) hHeld (fun hClosed => ?_)
          rotate_left
          · intro wv hSw; have q0 := hSw.1; have q1 := hSw.2; go_simp; all_goals (with_reducible rfl)
          (try simp only [List.getElem_toArray, List.getElem_cons_succ, List.getElem_cons_zero, put_at, List.set])
          refine wpAnyL_take (i := 4) (v := ?_) rfl (by kernel_rfl) (by kernel_rfl) (by kernel_rfl) (by kernel_rfl) (fun _ _ _ h => h) (by kernel_rfl) hClosed (Or.inl ⟨by rfl, ?_⟩) hHeld (fun hClosed => ?_)
          rotate_left
          · intro wv hSw; have q0 := hSw.1; have q1 := hSw.2; go_simp; all_goals (with_reducible rfl)
          (try simp only [List.getElem_toArray, List.getElem_cons_succ, List.getElem_cons_zero, put_at, List.set])
          refine wpAnyL_take (i := 5) (v := ?_) rfl (by kernel_rfl) (by kernel_rfl) (by kernel_rfl) (by kernel_rfl) (fun _ _ _ h => h) (by kernel_rfl) hClosed (Or.inl ⟨by rfl, ?_⟩) hHeld (fun hClosed => ?_)
          rotate_left
          · intro wv hSw; go_simp; all_goals (with_reducible rfl)
          (try simp only [List.getElem_toArray, List.getElem_cons_succ, List.getElem_cons_zero, put_at, List.set])
          refine wpAnyL_take (i := 6) (v := ?_) rfl (by kernel_rfl) (by kernel_rfl) (by kernel_rfl) (by kernel_rfl) (fun _ _ _ h => h) (by kernel_rfl) hClosed (Or.inl ⟨by rfl, ?_⟩) hHeld (fun hClosed => ?_)
          rotate_left
          · intro wv hSw; go_simp; all_goals (with_reducible rfl)
          (try simp only [List.getElem_toArray, List.getElem_cons_succ, List.getElem_cons_zero, put_at, List.set])
          refine wpAnyL_take (i := 7) (v := ?_) rfl (by kernel_rfl) (by kernel_rfl) (by kernel_rfl) (by kernel_rfl) (fun _ _ _ h => h) (by kernel_rfl) hClosed (Or.inl ⟨by rfl, ?_⟩) hHeld (fun hClosed => ?_)
          rotate_left
          · intro wv hSw; go_simp; all_goals (with_reducible rfl)
          (try simp only [List.getElem_toArray, List.getElem_cons_succ, List.getElem_cons_zero, put_at, List.set])
          refine wpAnyL_take (i := 8) (v := ?_) rfl (by kernel_rfl) (by kernel_rfl) (by kernel_rfl) (by kernel_rfl) (fun _ _ _ h => h) (by kernel_rfl) hClosed (Or.inl ⟨by rfl, ?_⟩) hHeld (fun hClosed => ?_)
          rotate_left
          · intro wv hSw; have q0 := hSw.1; have q1 := hSw.2; go_simp; all_goals (with_reducible rfl)
          (try simp only [List.getElem_toArray, List.getElem_cons_succ, List.getElem_cons_zero, put_at, List.set])
          refine wpAnyL_last rfl (by kernel_rfl) (by kernel_rfl) (fun KK hK => ?_)
          go_simp
          refine hK.out _ _ ?_
          (try simp only [put_at, List.set])
          clear hHeld hClosed
          have c0 := WF.out.ncell hk HSN.out
          have c1 : w5.drew.drew.cell? ⟨wb, k, none⟩ = some (.int .i64 (mxW s (logS g2.D.S))) := by rw [HSN.out]; exact WF.out.drew.wcell0 hk
          have UN := Lib.hid (s_until WF.out.drew.sp s HOS.out)
          rw [WF.out.cl.agr.waits] at UN
          go_upto_region 15 with fail
          refine wp_region_last 10 (fun w' => w'.cell? ⟨nb, k, none⟩ = some (.string s) ∧ w'.cell? ⟨wb, k, none⟩ = some (.int .i64 (mxW s (logS g2.D.S)))) (by kernel_rfl) (⟨c0, c1⟩) (fun hHeld hClosed => ?_)
          refine wpAnyL_take (i := 0) (v := ?_) rfl (by kernel_rfl) (by kernel_rfl) (by kernel_rfl) (by kernel_rfl) (fun _ _ _ h => h) (by kernel_rfl) hClosed (Or.inl ⟨by rfl, ?_⟩) hHeld (fun hClosed => ?_)
          rotate_left
          · intro wv hSw; go_simp; all_goals (with_reducible rfl)
          (try simp only [List.getElem_toArray, List.getElem_cons_zero, put_at, List.set])
          refine wpAnyL_take (i := 1) (v := ?_) rfl (by kernel_rfl) (by kernel_rfl) (by kernel_rfl) (by kernel_rfl) (fun _ _ _ h => h) (by kernel_rfl) hClosed (Or.inl ⟨by rfl, ?_⟩) hHeld (fun hClosed => ?_)
          rotate_left
          · intro wv hSw; go_simp; all_goals (with_reducible rfl)
          (try simp only [List.getElem_toArray, List.getElem_cons_succ, List.getElem_cons_zero, put_at, List.set])
          refine wpAnyL_take (i := 2) (v := ?_) rfl (by kernel_rfl) (by kernel_rfl) (by kernel_rfl) (by kernel_rfl) (fun _ _ _ h => h) (by kernel_rfl) hClosed (Or.inl ⟨by rfl, ?_⟩) hHeld (fun hClosed => ?_)
          rotate_left
          · intro wv hSw; go_simp; all_goals (with_reducible rfl)
          (try simp only [List.getElem_toArray, List.getElem_cons_succ, List.getElem_cons_zero, put_at, List.set])
          refine wpAnyL_take (i := 3) (v := ?_) rfl (by kernel_rfl) (by kernel_rfl) (by kernel_rfl) (by kernel_rfl) (fun _ _ _ h => h) (by kernel_rfl) hClosed (Or.inl ⟨by rfl, ?_⟩) hHeld (fun hClosed => ?_)
          rotate_left
          · intro wv hSw; go_simp; all_goals (with_reducible rfl)
          (try simp only [List.getElem_toArray, List.getElem_cons_succ, List.getElem_cons_zero, put_at, List.set])
          refine wpAnyL_take (i := 4) (v := ?_) rfl (by kernel_rfl) (by kernel_rfl) (by kernel_rfl) (by kernel_rfl) (fun _ _ _ h => h) (by kernel_rfl) hClosed (Or.inl ⟨by rfl, ?_⟩) hHeld (fun hClosed => ?_)
          rotate_left
          · intro wv hSw; have q0 := hSw.1; have q1 := hSw.2; go_simp; all_goals (with_reducible rfl)
          (try simp only [List.getElem_toArray, List.getElem_cons_succ, List.getElem_cons_zero, put_at, List.set])
          refine wpAnyL_take (i := 6) (v := ?_) rfl (by kernel_rfl) (by kernel_rfl) (by kernel_rfl) (by kernel_rfl) (fun _ _ _ h => h) (by kernel_rfl) hClosed (Or.inl ⟨by rfl, ?_⟩) hHeld (fun hClosed => ?_)
          rotate_left
          · intro wv hSw; go_simp; all_goals (with_reducible rfl)
          (try simp only [List.getElem_toArray, List.getElem_cons_succ, List.getElem_cons_zero, put_at, List.set])
          refine wpAnyL_take (i := 7) (v := ?_) rfl (by kernel_rfl) (by kernel_rfl) (by kernel_rfl) (by kernel_rfl) (fun _ _ _ h => h) (by kernel_rfl) hClosed (Or.inl ⟨by rfl, ?_⟩) hHeld (fun hClosed => ?_)
          rotate_left
          · intro wv hSw; go_simp; all_goals (with_reducible rfl)
          (try simp only [List.getElem_toArray, List.getElem_cons_succ, List.getElem_cons_zero, put_at, List.set])
          refine wpAnyL_take (i := 8) (v := ?_) rfl (by kernel_rfl) (by kernel_rfl) (by kernel_rfl) (by kernel_rfl) (fun _ _ _ h => h) (by kernel_rfl) hClosed (Or.inl ⟨by rfl, ?_⟩) hHeld (fun hClosed => ?_)
          rotate_left
          · intro wv hSw; go_simp; all_goals (with_reducible rfl)
          (try simp only [List.getElem_toArray, List.getElem_cons_succ, List.getElem_cons_zero, put_at, List.set])
          refine wpAnyL_take (i := 9) (v := ?_) rfl (by kernel_rfl) (by kernel_rfl) (by kernel_rfl) (by kernel_rfl) (fun _ _ _ h => h) (by kernel_rfl) hClosed (Or.inl ⟨by rfl, ?_⟩) hHeld (fun hClosed => ?_)
          rotate_left
          · intro wv hSw; have q0 := hSw.1; have q1 := hSw.2; go_simp; all_goals (with_reducible rfl)
          (try simp only [List.getElem_toArray, List.getElem_cons_succ, List.getElem_cons_zero, put_at, List.set])
          refine wpAnyL_one (i := 5) rfl (by kernel_rfl) (by kernel_rfl) hClosed (fun KK hK => ?_)
          go_simp
          refine (UN.out).mono ?_
          rintro e wz ⟨rfl, hw⟩
          subst wz
          go_wp2_with fail
          refine hK.out _ _ ?_ (fun hClosed hHeld => ?_)
          · exact hHeld
          clear hK KK
          (first | simp only [List.getElem_toArray, List.getElem_cons_succ, List.getElem_cons_zero, put_at, List.set] | (try simp only [put_at, List.set]))
          refine wpAnyL_last rfl (by kernel_rfl) (by kernel_rfl) (fun KK hK => ?_)
          go_simp
          refine hK.out _ _ ?_
          (try simp only [put_at, List.set])
          have hne2 : (mxW s (logS g2.D.S) != mxW s (logS g2.D.S)) = false := by simp
          go_wp2_with fail
          go_roundw
          case rel => exact ⟨i + 1, g2, R3, R4, _, by omega, by omega, by omega, by go_num, Lib.hid (WF.out.drew)⟩
          case measure => exact cra_ms 200 i h3
      · clear HA HC UA UC
        by_cases h1 : i < hlen
        · have d1 : decide ((i : Int) < (hlen : Int)) = true := decide_eq_true (by omega)
          by_cases h2 : i < ulen
          · have d2 : decide ((i : Int) < (ulen : Int)) = true := decide_eq_true (by omega)
            have d200 : decide ((i : Int) < 200) = false := decide_eq_false (by omega)
            go_wp2_with fail
            go_meet
            exact ⟨i, g, RD, RL, cs, hi200, HS⟩
          · have d2 : decide ((i : Int) < (ulen : Int)) = false := decide_eq_false (by omega)
            go_wp2_with fail
            go_meet
            exact ⟨i, g, RD, RL, cs, hi200, HS⟩
        · have d1 : decide ((i : Int) < (hlen : Int)) = false := decide_eq_false (by omega)
          go_wp2_with fail
          go_meet
          exact ⟨i, g, RD, RL, cs, hi200, HS⟩
  case rest =>
    obtain ⟨i, g, RD, RL, cs, hi200, HS⟩ := hcut
    clear X0 HA HC UA UC
    have CR := Lib.hid (s_crash HS.out.sp keep (okI_iff HKW.out).1 (okI_iff HKW.out).2)
    go_wp2_with fail
    refine CR.out.mono ?_
    rintro e w5 ⟨rfl, R3, R4, hs5, hw5, ho5⟩
    have S5 := Lib.hid hs5
    have N5 := Lib.hid (HS.out.nbox.only ho5 (HS.out.off nb (Or.inl rfl)).1)
    have W5 := Lib.hid (HS.out.wbox.only ho5 (HS.out.off wb (Or.inr rfl)).1)
    have OPN := Lib.hid (s_open S5.out.disk 7)
    clear CR hs5 hw5 ho5
    dsimp only at OPN
    go_wp2_with fail
    refine OPN.out.mono ?_
    rintro e w6 ⟨L2, RL2, rfl, hs6, hb6, hg6⟩
    have N6 := Lib.hid (N5.out.later hb6)
    have W6 := Lib.hid (W5.out.later hb6)
    obtain ⟨G, hG⟩ : ∃ G, openL (crashD g.D keep) 7 = G := ⟨_, rfl⟩
    have HCG : Hid (CLog 40 i G ∧ logS G.D.S = logS g.D.S) := Lib.hid (by
      rw [← hG]
      have h9 := HS.out.cl.crash keep
      rw [HS.out.n] at h9
      refine ⟨h9, ?_⟩
      rw [crash_eq HS.out.cl.disk.un]
      rfl)
    rw [hG] at hs6
    have S6 := Lib.hid hs6
    clear OPN hs6 hb6 hg6 hG S5 N5 W5
    have WN := Lib.hid (wait_no_at (w := w6) (L := L) ⟨#[104]⟩ (-1) (by decide))
    go_wp2_with fail
    refine WN.out.mono ?_
    rintro e w7 ⟨rfl, hb7⟩
    have S7 := Lib.hid (S6.out.later hb7)
    have N7 := Lib.hid (N6.out.later hb7)
    have hcs := three_cells HS.out.sz HS.out.val
    obtain ⟨v0, hv0⟩ : ∃ v, mxW (nmW 0) (logS g.D.S) = v := ⟨_, rfl⟩
    obtain ⟨v1, hv1⟩ : ∃ v, mxW (nmW 1) (logS g.D.S) = v := ⟨_, rfl⟩
    obtain ⟨v2, hv2⟩ : ∃ v, mxW (nmW 2) (logS g.D.S) = v := ⟨_, rfl⟩
    have T0 : Hid (tillI G.x ⟨#[104, 116, 116, 112, 58, 47, 47, 97]⟩ = v0) := Lib.hid (by rw [HCG.out.1.agr.waits, HCG.out.2]; exact hv0)
    have T1 : Hid (tillI G.x ⟨#[104, 116, 116, 112, 58, 47, 47, 98]⟩ = v1) := Lib.hid (by rw [HCG.out.1.agr.waits, HCG.out.2]; exact hv1)
    have T2 : Hid (tillI G.x ⟨#[104, 116, 116, 112, 115, 58, 47, 47, 99, 58, 56]⟩ = v2) := Lib.hid (by rw [HCG.out.1.agr.waits, HCG.out.2]; exact hv2)
    have TX : Hid (tillI G.x ⟨#[120]⟩ = 0) := Lib.hid (by rw [HCG.out.1.agr.waits, HCG.out.2]; exact HS.out.x0)
    have W7 : Hid (Box w7 wb #[.int .i64 v0, .int .i64 v1, .int .i64 v2] 3) := Lib.hid (by
      have h9 := W6.out.later hb7
      rw [hcs, hv0, hv1, hv2] at h9
      exact h9)
    obtain ⟨M, hM⟩ : ∃ M, G.D.S.length = M := ⟨_, rfl⟩
    have HM := Lib.hid hM
    have d7 : decide ((M : Int) ≤ 7) = true := decide_eq_true (by have := calm40 HCG.out.1 (by omega); omega)
    have b0 : (v0 == v0) = true := beq_self_eq_true _
    have b1 : (v1 == v1) = true := beq_self_eq_true _
    have b2 : (v2 == v2) = true := beq_self_eq_true _
    clear hcs hv0 hv1 hv2 hM WN hb7 S6 N6 W6 HCG HS
    go_upto_region 21 with fail
    refine wp_region_last 44 (fun w' => SpS w d L2 32768 G R3 RL2 w' ∧ Box w' nb #[.string ⟨#[104, 116, 116, 112, 58, 47, 47, 97]⟩, .string ⟨#[104, 116, 116, 112, 58, 47, 47, 98]⟩, .string ⟨#[104, 116, 116, 112, 115, 58, 47, 47, 99, 58, 56]⟩] 9 ∧ Box w' wb #[.int .i64 v0, .int .i64 v1, .int .i64 v2] 3) (by kernel_rfl) (⟨S7.out.drew, N7.out.drew, W7.out.drew⟩) (fun hHeld hClosed => ?_)
    refine wpAnyL_one (i := 0) rfl (by kernel_rfl) (by kernel_rfl) hClosed (fun KK hK => ?_)
    go_simp
    refine (awake15_at _ hHeld.1.lg.now).mono ?_
    rintro e wx ⟨rfl, hwx⟩
    go_wp2_with fail
    refine hK.out _ _ ?_ (fun hClosed hHeld => ?_)
    · exact ⟨hHeld.1.later hwx, hHeld.2.1.later hwx, hHeld.2.2.later hwx⟩
    clear hK KK
    (first | simp only [List.getElem_toArray, List.getElem_cons_zero, put_at, List.set] | (try simp only [put_at, List.set]))
    refine wpAnyL_one (i := 1) rfl (by kernel_rfl) (by kernel_rfl) hClosed (fun KK hK => ?_)
    go_simp
    refine hK.out _ _ ?_ (fun hClosed hHeld => ?_)
    · exact hHeld
    clear hK KK
    (first | simp only [List.getElem_toArray, List.getElem_cons_succ, List.getElem_cons_zero, put_at, List.set] | (try simp only [put_at, List.set]))
    refine wpAnyL_takeP (i := 2) (v := ?_) rfl (by kernel_rfl) (by kernel_rfl) (by kernel_rfl) (by kernel_rfl) (fun _ _ _ h => h) (by kernel_rfl) hClosed (Or.inl ⟨by rfl, ?_⟩) hHeld (fun hClosed => ?_)
    rotate_left
    · intro wv hSw; go_simp; all_goals (with_reducible rfl)
    (try simp only [List.getElem_toArray, List.getElem_cons_succ, List.getElem_cons_zero, put_at, List.set])
    refine wpAnyL_takeP (i := 3) (v := ?_) rfl (by kernel_rfl) (by kernel_rfl) (by kernel_rfl) (by kernel_rfl) (fun _ _ _ h => h) (by kernel_rfl) hClosed (Or.inl ⟨by rfl, ?_⟩) hHeld (fun hClosed => ?_)
    rotate_left
    · intro wv hSw; go_simp; all_goals (with_reducible rfl)
    (try simp only [List.getElem_toArray, List.getElem_cons_succ, List.getElem_cons_zero, put_at, List.set])
    refine wpAnyL_takeP (i := 4) (v := ?_) rfl (by kernel_rfl) (by kernel_rfl) (by kernel_rfl) (by kernel_rfl) (fun _ _ _ h => h) (by kernel_rfl) hClosed (Or.inl ⟨by rfl, ?_⟩) hHeld (fun hClosed => ?_)
    rotate_left
    · intro wv hSw; go_simp; all_goals (with_reducible rfl)
    (try simp only [List.getElem_toArray, List.getElem_cons_succ, List.getElem_cons_zero, put_at, List.set])
    refine wpAnyL_takeP (i := 5) (v := ?_) rfl (by kernel_rfl) (by kernel_rfl) (by kernel_rfl) (by kernel_rfl) (fun _ _ _ h => h) (by kernel_rfl) hClosed (Or.inl ⟨by rfl, ?_⟩) hHeld (fun hClosed => ?_)
    rotate_left
    · intro wv hSw; have q0 := hSw.2.1.cell 0; have q1 := hSw.2.1.cell 1; have q2 := hSw.2.1.cell 2; have u0 := hSw.2.2.cell 0; have u1 := hSw.2.2.cell 1; have u2 := hSw.2.2.cell 2; go_simp; all_goals (with_reducible rfl)
    (try simp only [List.getElem_toArray, List.getElem_cons_succ, List.getElem_cons_zero, put_at, List.set])
    refine wpAnyL_takeP (i := 7) (v := ?_) rfl (by kernel_rfl) (by kernel_rfl) (by kernel_rfl) (by kernel_rfl) (fun _ _ _ h => h) (by kernel_rfl) hClosed (Or.inl ⟨by rfl, ?_⟩) hHeld (fun hClosed => ?_)
    rotate_left
    · intro wv hSw; go_simp; all_goals (with_reducible rfl)
    (try simp only [List.getElem_toArray, List.getElem_cons_succ, List.getElem_cons_zero, put_at, List.set])
    refine wpAnyL_takeP (i := 8) (v := ?_) rfl (by kernel_rfl) (by kernel_rfl) (by kernel_rfl) (by kernel_rfl) (fun _ _ _ h => h) (by kernel_rfl) hClosed (Or.inl ⟨by rfl, ?_⟩) hHeld (fun hClosed => ?_)
    rotate_left
    · intro wv hSw; go_simp; all_goals (with_reducible rfl)
    (try simp only [List.getElem_toArray, List.getElem_cons_succ, List.getElem_cons_zero, put_at, List.set])
    refine wpAnyL_takeP (i := 9) (v := ?_) rfl (by kernel_rfl) (by kernel_rfl) (by kernel_rfl) (by kernel_rfl) (fun _ _ _ h => h) (by kernel_rfl) hClosed (Or.inl ⟨by rfl, ?_⟩) hHeld (fun hClosed => ?_)
    rotate_left
    · intro wv hSw; have q0 := hSw.2.1.cell 0; have q1 := hSw.2.1.cell 1; have q2 := hSw.2.1.cell 2; have u0 := hSw.2.2.cell 0; have u1 := hSw.2.2.cell 1; have u2 := hSw.2.2.cell 2; go_simp; all_goals (with_reducible rfl)
    (try simp only [List.getElem_toArray, List.getElem_cons_succ, List.getElem_cons_zero, put_at, List.set])
    refine wpAnyL_one (i := 6) rfl (by kernel_rfl) (by kernel_rfl) hClosed (fun KK hK => ?_)
    go_simp
    have U := s_until hHeld.1 ⟨#[104, 116, 116, 112, 58, 47, 47, 97]⟩ (by show _ ≤ maxLen; decide)
    rw [T0.out] at U
    refine U.mono ?_
    rintro e wz ⟨rfl, hw⟩
    subst wz
    clear U
    go_wp2_with fail
    refine hK.out _ _ ?_ (fun hClosed hHeld => ?_)
    · exact hHeld
    clear hK KK
    (first | simp only [List.getElem_toArray, List.getElem_cons_succ, List.getElem_cons_zero, put_at, List.set] | (try simp only [put_at, List.set]))
    refine wpAnyL_one (i := 10) rfl (by kernel_rfl) (by kernel_rfl) hClosed (fun KK hK => ?_)
    go_simp
    refine hK.out _ _ ?_ (fun hClosed hHeld => ?_)
    · exact hHeld
    clear hK KK
    (first | simp only [List.getElem_toArray, List.getElem_cons_succ, List.getElem_cons_zero, put_at, List.set] | (try simp only [put_at, List.set]))
    refine wpAnyL_one (i := 11) rfl (by kernel_rfl) (by kernel_rfl) hClosed (fun KK hK => ?_)
    go_simp
    refine hK.out _ _ ?_ (fun hClosed hHeld => ?_)
    · exact hHeld
    clear hK KK
    (first | simp only [List.getElem_toArray, List.getElem_cons_succ, List.getElem_cons_zero, put_at, List.set] | (try simp only [put_at, List.set]))
    refine wpAnyL_one (i := 12) rfl (by kernel_rfl) (by kernel_rfl) hClosed (fun KK hK => ?_)
    go_simp
    refine hK.out _ _ ?_ (fun hClosed hHeld => ?_)
    · exact hHeld
    clear hK KK
    (first | simp only [List.getElem_toArray, List.getElem_cons_succ, List.getElem_cons_zero, put_at, List.set] | (try simp only [put_at, List.set]))
    refine wpAnyL_takeP (i := 13) (v := ?_) rfl (by kernel_rfl) (by kernel_rfl) (by kernel_rfl) (by kernel_rfl) (fun _ _ _ h => h) (by kernel_rfl) hClosed (Or.inl ⟨by rfl, ?_⟩) hHeld (fun hClosed => ?_)
    rotate_left
    · intro wv hSw; go_simp; all_goals (with_reducible rfl)
    (try simp only [List.getElem_toArray, List.getElem_cons_succ, List.getElem_cons_zero, put_at, List.set])
    refine wpAnyL_takeP (i := 14) (v := ?_) rfl (by kernel_rfl) (by kernel_rfl) (by kernel_rfl) (by kernel_rfl) (fun _ _ _ h => h) (by kernel_rfl) hClosed (Or.inl ⟨by rfl, ?_⟩) hHeld (fun hClosed => ?_)
    rotate_left
    · intro wv hSw; go_simp; all_goals (with_reducible rfl)
    (try simp only [List.getElem_toArray, List.getElem_cons_succ, List.getElem_cons_zero, put_at, List.set])
    refine wpAnyL_takeP (i := 15) (v := ?_) rfl (by kernel_rfl) (by kernel_rfl) (by kernel_rfl) (by kernel_rfl) (fun _ _ _ h => h) (by kernel_rfl) hClosed (Or.inl ⟨by rfl, ?_⟩) hHeld (fun hClosed => ?_)
    rotate_left
    · intro wv hSw; go_simp; all_goals (with_reducible rfl)
    (try simp only [List.getElem_toArray, List.getElem_cons_succ, List.getElem_cons_zero, put_at, List.set])
    refine wpAnyL_takeP (i := 16) (v := ?_) rfl (by kernel_rfl) (by kernel_rfl) (by kernel_rfl) (by kernel_rfl) (fun _ _ _ h => h) (by kernel_rfl) hClosed (Or.inl ⟨by rfl, ?_⟩) hHeld (fun hClosed => ?_)
    rotate_left
    · intro wv hSw; have q0 := hSw.2.1.cell 0; have q1 := hSw.2.1.cell 1; have q2 := hSw.2.1.cell 2; have u0 := hSw.2.2.cell 0; have u1 := hSw.2.2.cell 1; have u2 := hSw.2.2.cell 2; go_simp; all_goals (with_reducible rfl)
    (try simp only [List.getElem_toArray, List.getElem_cons_succ, List.getElem_cons_zero, put_at, List.set])
    refine wpAnyL_takeP (i := 18) (v := ?_) rfl (by kernel_rfl) (by kernel_rfl) (by kernel_rfl) (by kernel_rfl) (fun _ _ _ h => h) (by kernel_rfl) hClosed (Or.inl ⟨by rfl, ?_⟩) hHeld (fun hClosed => ?_)
    rotate_left
    · intro wv hSw; go_simp; all_goals (with_reducible rfl)
    (try simp only [List.getElem_toArray, List.getElem_cons_succ, List.getElem_cons_zero, put_at, List.set])
    refine wpAnyL_takeP (i := 19) (v := ?_) rfl (by kernel_rfl) (by kernel_rfl) (by kernel_rfl) (by kernel_rfl) (fun _ _ _ h => h) (by kernel_rfl) hClosed (Or.inl ⟨by rfl, ?_⟩) hHeld (fun hClosed => ?_)
    rotate_left
    · intro wv hSw; go_simp; all_goals (with_reducible rfl)
    (try simp only [List.getElem_toArray, List.getElem_cons_succ, List.getElem_cons_zero, put_at, List.set])
    refine wpAnyL_takeP (i := 20) (v := ?_) rfl (by kernel_rfl) (by kernel_rfl) (by kernel_rfl) (by kernel_rfl) (fun _ _ _ h => h) (by kernel_rfl) hClosed (Or.inl ⟨by rfl, ?_⟩) hHeld (fun hClosed => ?_)
    rotate_left
    · intro wv hSw; have q0 := hSw.2.1.cell 0; have q1 := hSw.2.1.cell 1; have q2 := hSw.2.1.cell 2; have u0 := hSw.2.2.cell 0; have u1 := hSw.2.2.cell 1; have u2 := hSw.2.2.cell 2; go_simp; all_goals (with_reducible rfl)
    (try simp only [List.getElem_toArray, List.getElem_cons_succ, List.getElem_cons_zero, put_at, List.set])
    refine wpAnyL_one (i := 17) rfl (by kernel_rfl) (by kernel_rfl) hClosed (fun KK hK => ?_)
    go_simp
    have U := s_until hHeld.1 ⟨#[104, 116, 116, 112, 58, 47, 47, 98]⟩ (by show _ ≤ maxLen; decide)
    rw [T1.out] at U
    refine U.mono ?_
    rintro e wz ⟨rfl, hw⟩
    subst wz
    clear U
    go_wp2_with fail
    refine hK.out _ _ ?_ (fun hClosed hHeld => ?_)
    · exact hHeld
    clear hK KK
    (first | simp only [List.getElem_toArray, List.getElem_cons_succ, List.getElem_cons_zero, put_at, List.set] | (try simp only [put_at, List.set]))
    refine wpAnyL_one (i := 21) rfl (by kernel_rfl) (by kernel_rfl) hClosed (fun KK hK => ?_)
    go_simp
    refine hK.out _ _ ?_ (fun hClosed hHeld => ?_)
    · exact hHeld
    clear hK KK
    (first | simp only [List.getElem_toArray, List.getElem_cons_succ, List.getElem_cons_zero, put_at, List.set] | (try simp only [put_at, List.set]))
    refine wpAnyL_one (i := 22) rfl (by kernel_rfl) (by kernel_rfl) hClosed (fun KK hK => ?_)
    go_simp
    refine hK.out _ _ ?_ (fun hClosed hHeld => ?_)
    · exact hHeld
    clear hK KK
    (first | simp only [List.getElem_toArray, List.getElem_cons_succ, List.getElem_cons_zero, put_at, List.set] | (try simp only [put_at, List.set]))
    refine wpAnyL_one (i := 23) rfl (by kernel_rfl) (by kernel_rfl) hClosed (fun KK hK => ?_)
    go_simp
    refine hK.out _ _ ?_ (fun hClosed hHeld => ?_)
    · exact hHeld
    clear hK KK
    (first | simp only [List.getElem_toArray, List.getElem_cons_succ, List.getElem_cons_zero, put_at, List.set] | (try simp only [put_at, List.set]))
    refine wpAnyL_takeP (i := 24) (v := ?_) rfl (by kernel_rfl) (by kernel_rfl) (by kernel_rfl) (by kernel_rfl) (fun _ _ _ h => h) (by kernel_rfl) hClosed (Or.inl ⟨by rfl, ?_⟩) hHeld (fun hClosed => ?_)
    rotate_left
    · intro wv hSw; go_simp; all_goals (with_reducible rfl)
    (try simp only [List.getElem_toArray, List.getElem_cons_succ, List.getElem_cons_zero, put_at, List.set])
    refine wpAnyL_takeP (i := 25) (v := ?_) rfl (by kernel_rfl) (by kernel_rfl) (by kernel_rfl) (by kernel_rfl) (fun _ _ _ h => h) (by kernel_rfl) hClosed (Or.inl ⟨by rfl, ?_⟩) hHeld (fun hClosed => ?_)
    rotate_left
    · intro wv hSw; go_simp; all_goals (with_reducible rfl)
    (try simp only [List.getElem_toArray, List.getElem_cons_succ, List.getElem_cons_zero, put_at, List.set])
    refine wpAnyL_takeP (i := 26) (v := ?_) rfl (by kernel_rfl) (by kernel_rfl) (by kernel_rfl) (by kernel_rfl) (fun _ _ _ h => h) (by kernel_rfl) hClosed (Or.inl ⟨by rfl, ?_⟩) hHeld (fun hClosed => ?_)
    rotate_left
    · intro wv hSw; go_simp; all_goals (with_reducible rfl)
    (try simp only [List.getElem_toArray, List.getElem_cons_succ, List.getElem_cons_zero, put_at, List.set])
    refine wpAnyL_takeP (i := 27) (v := ?_) rfl (by kernel_rfl) (by kernel_rfl) (by kernel_rfl) (by kernel_rfl) (fun _ _ _ h => h) (by kernel_rfl) hClosed (Or.inl ⟨by rfl, ?_⟩) hHeld (fun hClosed => ?_)
    rotate_left
    · intro wv hSw; have q0 := hSw.2.1.cell 0; have q1 := hSw.2.1.cell 1; have q2 := hSw.2.1.cell 2; have u0 := hSw.2.2.cell 0; have u1 := hSw.2.2.cell 1; have u2 := hSw.2.2.cell 2; go_simp; all_goals (with_reducible rfl)
    (try simp only [List.getElem_toArray, List.getElem_cons_succ, List.getElem_cons_zero, put_at, List.set])
    refine wpAnyL_takeP (i := 29) (v := ?_) rfl (by kernel_rfl) (by kernel_rfl) (by kernel_rfl) (by kernel_rfl) (fun _ _ _ h => h) (by kernel_rfl) hClosed (Or.inl ⟨by rfl, ?_⟩) hHeld (fun hClosed => ?_)
    rotate_left
    · intro wv hSw; go_simp; all_goals (with_reducible rfl)
    (try simp only [List.getElem_toArray, List.getElem_cons_succ, List.getElem_cons_zero, put_at, List.set])
    refine wpAnyL_takeP (i := 30) (v := ?_) rfl (by kernel_rfl) (by kernel_rfl) (by kernel_rfl) (by kernel_rfl) (fun _ _ _ h => h) (by kernel_rfl) hClosed (Or.inl ⟨by rfl, ?_⟩) hHeld (fun hClosed => ?_)
    rotate_left
    · intro wv hSw; go_simp; all_goals (with_reducible rfl)
    (try simp only [List.getElem_toArray, List.getElem_cons_succ, List.getElem_cons_zero, put_at, List.set])
    refine wpAnyL_takeP (i := 31) (v := ?_) rfl (by kernel_rfl) (by kernel_rfl) (by kernel_rfl) (by kernel_rfl) (fun _ _ _ h => h) (by kernel_rfl) hClosed (Or.inl ⟨by rfl, ?_⟩) hHeld (fun hClosed => ?_)
    rotate_left
    · intro wv hSw; have q0 := hSw.2.1.cell 0; have q1 := hSw.2.1.cell 1; have q2 := hSw.2.1.cell 2; have u0 := hSw.2.2.cell 0; have u1 := hSw.2.2.cell 1; have u2 := hSw.2.2.cell 2; go_simp; all_goals (with_reducible rfl)
    (try simp only [List.getElem_toArray, List.getElem_cons_succ, List.getElem_cons_zero, put_at, List.set])
    refine wpAnyL_one (i := 28) rfl (by kernel_rfl) (by kernel_rfl) hClosed (fun KK hK => ?_)
    go_simp
    have U := s_until hHeld.1 ⟨#[104, 116, 116, 112, 115, 58, 47, 47, 99, 58, 56]⟩ (by show _ ≤ maxLen; decide)
    rw [T2.out] at U
    refine U.mono ?_
    rintro e wz ⟨rfl, hw⟩
    subst wz
    clear U
    go_wp2_with fail
    refine hK.out _ _ ?_ (fun hClosed hHeld => ?_)
    · exact hHeld
    clear hK KK
    (first | simp only [List.getElem_toArray, List.getElem_cons_succ, List.getElem_cons_zero, put_at, List.set] | (try simp only [put_at, List.set]))
    refine wpAnyL_one (i := 32) rfl (by kernel_rfl) (by kernel_rfl) hClosed (fun KK hK => ?_)
    go_simp
    refine hK.out _ _ ?_ (fun hClosed hHeld => ?_)
    · exact hHeld
    clear hK KK
    (first | simp only [List.getElem_toArray, List.getElem_cons_succ, List.getElem_cons_zero, put_at, List.set] | (try simp only [put_at, List.set]))
    refine wpAnyL_one (i := 33) rfl (by kernel_rfl) (by kernel_rfl) hClosed (fun KK hK => ?_)
    go_simp
    refine hK.out _ _ ?_ (fun hClosed hHeld => ?_)
    · exact hHeld
    clear hK KK
    (first | simp only [List.getElem_toArray, List.getElem_cons_succ, List.getElem_cons_zero, put_at, List.set] | (try simp only [put_at, List.set]))
    refine wpAnyL_one (i := 34) rfl (by kernel_rfl) (by kernel_rfl) hClosed (fun KK hK => ?_)
    go_simp
    refine hK.out _ _ ?_ (fun hClosed hHeld => ?_)
    · exact hHeld
    clear hK KK
    (first | simp only [List.getElem_toArray, List.getElem_cons_succ, List.getElem_cons_zero, put_at, List.set] | (try simp only [put_at, List.set]))
    refine wpAnyL_one (i := 35) rfl (by kernel_rfl) (by kernel_rfl) hClosed (fun KK hK => ?_)
    go_simp
    refine hK.out _ _ ?_ (fun hClosed hHeld => ?_)
    · exact hHeld
    clear hK KK
    (first | simp only [List.getElem_toArray, List.getElem_cons_succ, List.getElem_cons_zero, put_at, List.set] | (try simp only [put_at, List.set]))
    refine wpAnyL_one (i := 36) rfl (by kernel_rfl) (by kernel_rfl) hClosed (fun KK hK => ?_)
    go_simp
    have U := s_until hHeld.1 ⟨#[120]⟩ (by show _ ≤ maxLen; decide)
    rw [TX.out] at U
    refine U.mono ?_
    rintro e wz ⟨rfl, hw⟩
    subst wz
    clear U
    go_wp2_with fail
    refine hK.out _ _ ?_ (fun hClosed hHeld => ?_)
    · exact hHeld
    clear hK KK
    (first | simp only [List.getElem_toArray, List.getElem_cons_succ, List.getElem_cons_zero, put_at, List.set] | (try simp only [put_at, List.set]))
    refine wpAnyL_one (i := 37) rfl (by kernel_rfl) (by kernel_rfl) hClosed (fun KK hK => ?_)
    go_simp
    refine hK.out _ _ ?_ (fun hClosed hHeld => ?_)
    · exact hHeld
    clear hK KK
    (first | simp only [List.getElem_toArray, List.getElem_cons_succ, List.getElem_cons_zero, put_at, List.set] | (try simp only [put_at, List.set]))
    refine wpAnyL_one (i := 38) rfl (by kernel_rfl) (by kernel_rfl) hClosed (fun KK hK => ?_)
    go_simp
    refine hK.out _ _ ?_ (fun hClosed hHeld => ?_)
    · exact hHeld
    clear hK KK
    (first | simp only [List.getElem_toArray, List.getElem_cons_succ, List.getElem_cons_zero, put_at, List.set] | (try simp only [put_at, List.set]))
    refine wpAnyL_one (i := 39) rfl (by kernel_rfl) (by kernel_rfl) hClosed (fun KK hK => ?_)
    go_simp
    refine hK.out _ _ ?_ (fun hClosed hHeld => ?_)
    · exact hHeld
    clear hK KK
    (first | simp only [List.getElem_toArray, List.getElem_cons_succ, List.getElem_cons_zero, put_at, List.set] | (try simp only [put_at, List.set]))
    refine wpAnyL_one (i := 40) rfl (by kernel_rfl) (by kernel_rfl) hClosed (fun KK hK => ?_)
    go_simp
    refine hK.out _ _ ?_ (fun hClosed hHeld => ?_)
    · exact hHeld
    clear hK KK
    (first | simp only [List.getElem_toArray, List.getElem_cons_succ, List.getElem_cons_zero, put_at, List.set] | (try simp only [put_at, List.set]))
    refine wpAnyL_one (i := 41) rfl (by kernel_rfl) (by kernel_rfl) hClosed (fun KK hK => ?_)
    go_simp
    have Z := s_size hHeld.1 M HM.out
    refine Z.mono ?_
    rintro e wz ⟨rfl, hs9, hb9⟩
    clear Z
    go_wp2_with fail
    refine hK.out _ _ ?_ (fun hClosed hHeld => ?_)
    · exact ⟨hs9, hHeld.2.1.later hb9, hHeld.2.2.later hb9⟩
    clear hK KK
    (first | simp only [List.getElem_toArray, List.getElem_cons_succ, List.getElem_cons_zero, put_at, List.set] | (try simp only [put_at, List.set]))
    refine wpAnyL_one (i := 42) rfl (by kernel_rfl) (by kernel_rfl) hClosed (fun KK hK => ?_)
    go_simp
    refine hK.out _ _ ?_ (fun hClosed hHeld => ?_)
    · exact hHeld
    clear hK KK
    (first | simp only [List.getElem_toArray, List.getElem_cons_succ, List.getElem_cons_zero, put_at, List.set] | (try simp only [put_at, List.set]))
    refine wpAnyL_one (i := 43) rfl (by kernel_rfl) (by kernel_rfl) hClosed (fun KK hK => ?_)
    go_simp
    refine hK.out _ _ ?_ (fun hClosed hHeld => ?_)
    · exact hHeld
    clear hK KK
    (first | simp only [List.getElem_toArray, List.getElem_cons_succ, List.getElem_cons_zero, put_at, List.set] | (try simp only [put_at, List.set]))
    refine wpAnyL_last rfl (by kernel_rfl) (by kernel_rfl) (fun KK hK => ?_)
    go_simp
    refine hK.out _ _ ?_
    (try simp only [put_at, List.set])
    go_wp2_with fail
    go_ret
    exact ⟨rfl, hHeld.1.bl⟩
end Go.Proofs.YteinblpkcpjpnaaGreatDoor
