/- Part of a chain: SpCmw. -/
import Derived.Test.YteinblpkcpjpnaaGreatDoorSm00
import Derived.Test.YteinblpkcpjpnaaGreatDoorSn01
import Derived.Test.YteinblpkcpjpnaaGreatDoorSm01
/- SpillCompacts, walked. Laid by gen_cmw.py out of cmw.txt. -/
namespace Go.Proofs.YteinblpkcpjpnaaGreatDoor
open Go Go.RowKit Go.Maps
set_option linter.unusedVariables false
set_option linter.unusedSimpArgs false
set_option maxRecDepth 100000

section
variable {w wr w' : World} {d L K : Nat} {g g2 : Lg} {RD RL R3 R4 : Nat → Prop}
theorem SpS.setz {z j : Nat} {v : Value} (h : SpS w d L K g RD RL wr) (hz : ¬ (RD z ∨ RL z) ∧ w.heap.size ≤ z) : SpS w d L K g RD RL (wr.setCell ⟨z, j, none⟩ v) := by
  have ho : Only (fun k => k = z) wr (wr.setCell ⟨z, j, none⟩ v) := (Only.refl (fun k => k = z) wr).setCell (p := ⟨z, j, none⟩) (Or.inl rfl) v
  refine ⟨h.lg.keep ho.size (fun k hk hm => ho.block k hk (fun e => ?_)), h.ge, h.bl.trans (ho.below h.bl.size fun k hk => hk ▸ hz.2), h.now, h.few⟩
  subst e
  rcases hm with e | e | e
  · exact hz.1 (Or.inl e)
  · exact hz.1 (Or.inr e)
  · have := h.now.lt
    have := hz.2
    omega
theorem SpS.nd (h : SpS w d L K g RD RL wr) : (g.x.puts.map Prod.fst).Nodup := by
  obtain ⟨pm, wm, hi, _⟩ := h.lg.lx.ix
  exact hi.puts.nd
/-- A list of requests that lies apart from the log. -/
structure KpL (W : World) (a : Option Addr) (P : List Rc) (RD RL : Nat → Prop) : Prop where
  at_ : RqAt W a P
  off : ∀ z, a = some ⟨z, 0, none⟩ → ¬ (RD z ∨ RL z) ∧ z < W.heap.size
theorem KpL.later {a : Option Addr} {P : List Rc} (h : KpL wr a P RD RL) (hb : Below wr.heap.size wr w') : KpL w' a P RD RL := ⟨h.at_.later hb, fun z hz => ⟨(h.off z hz).1, Nat.lt_of_lt_of_le (h.off z hz).2 hb.size⟩⟩
theorem KpL.aft {a : Option Addr} {P : List Rc} (h : KpL wr a P RD RL) (hw : ∀ k, R3 k ∨ R4 k → (RD k ∨ RL k) ∨ wr.heap.size ≤ k) (ho : Only (fun k => RD k ∨ RL k) wr w') : KpL w' a P R3 R4 := by
  refine ⟨fun i r hr => ?_, fun z hz => ⟨fun e => ?_, Nat.lt_of_lt_of_le (h.off z hz).2 ho.size⟩⟩
  · obtain ⟨g, h1, h2⟩ := h.at_ i r hr
    refine ⟨g, h1, fun j u hu => ?_⟩
    have hb := ho.block g (h.off g h1).2 (h.off g h1).1
    exact (cell_blk hb _).trans (h2 j u hu)
  · rcases hw z e with e | e
    · exact (h.off z hz).1 e
    · have := (h.off z hz).2; omega
theorem KpL.new {B n c : Nat} {a : Option Addr} {P : List Rc} (ho : Own wr B 31 5 a n c (flatQ P)) (hn : P.length = n) (hB : ∀ k, RD k ∨ RL k → k < B) : KpL wr a P RD RL :=
  ⟨rqAt_own ho hn, fun z hz => by
    subst hz
    have := ho.lt
    exact ⟨fun e => by have := hB z e; omega, this.2⟩⟩
theorem SpS.lt (h : SpS w d L K g RD RL wr) : ∀ k, RD k ∨ RL k → k < wr.heap.size := fun k hk => by
  rcases hk with hk | hk
  · exact h.lg.dk.lt k hk
  · exact h.lg.lx.lt k hk
end
theorem log_good {S : Sgs} (hs : SS S) (hb : BytS S) : GoodL (logS S) := fun r hr => by
  unfold logS at hr
  obtain ⟨p, hp, hrp⟩ := List.mem_flatMap.1 hr
  have := hb p.1
  rw [gD_self hs hp] at this
  exact good_scan this r hrp
/-- What stands while the acts are done. -/
structure CpS (w wr : World) (d L i : Nat) (g : Lg) (RD RL : Nat → Prop) : Prop where
  sp : SpS w d L (32768 + 2 * i) g RD RL wr
  cl : CLx 180 i g
  tp : mxT (logS g.D.S) ≤ (i : Int)
  n : g.n = 7
  mo : g.D.most = 16
section
variable {w wr w' : World} {d L i : Nat} {g g2 : Lg} {RD RL : Nat → Prop}
theorem CpS.few (h : CpS w wr d L i g RD RL) (hi : i ≤ 25) : g.D.S.length ≤ 3 := by
  have h1 := h.cl.base.disk.segs
  have e : (2048 - 180 : Nat) = 1868 := rfl
  rw [e] at h1
  omega
theorem CpS.seg (h : CpS w wr d L i g RD RL) (hi : i ≤ 25) : (g.D.S.length : Int) < g.n := by
  have := h.few hi
  rw [h.n]
  omega
theorem CpS.next (h : CpS w wr d L i g RD RL) (hi : i ≤ 25) : nextI g.x = mxT (logS g.D.S) + 1 := next_of h.cl rfl (by have := h.tp; omega)
theorem CpS.put (h : CpS w wr d L i g RD RL) (hi : i < 25) {r : Rc} (hk : r.kind = 1) (hid : r.id = mxT (logS g.D.S) + 1) (hf : r.till < 9223372036854775808) (hsz : soundR r → r.host.size + r.path.size ≤ 150) {X : Lg × Int} (hX : putL g r = X) :
    CLx 180 (i + 1) X.1 ∧ mxT (logS X.1.D.S) ≤ ((i + 1 : Nat) : Int) ∧ X.1.n = 7 ∧ X.1.D.most = 16 := by
  have hm := put_most g r
  rw [hX] at hm
  have ht := h.tp
  by_cases hs : soundR r
  · obtain ⟨g2, hp, hc2, hl2, hn2⟩ := h.cl.put (by omega) (h.seg (by omega)) hk hs ⟨by omega, hf⟩ (by have := hsz hs; unfold encR; rw [recB_length, contR_length]; omega) (by decide)
    rw [hX] at hp
    subst hp
    refine ⟨hc2, ?_, by rw [hm.2, h.n], by rw [hm.1, h.mo]⟩
    dsimp only
    rw [hl2, mxT_snoc]
    unfold stT
    rw [if_pos (Or.inl hk)]
    omega
  · rw [put_no hs] at hX
    subst hX
    exact ⟨h.cl.mono (Nat.le_succ _), by dsimp only; omega, h.n, h.mo⟩
theorem CpS.done (h : CpS w wr d L i g RD RL) (hi : i < 25) {id : Int} (hid : okI id) {X : Lg × Int} (hX : doneL g id = X) :
    CLx 180 (i + 1) X.1 ∧ mxT (logS X.1.D.S) ≤ ((i + 1 : Nat) : Int) ∧ X.1.n = 7 ∧ X.1.D.most = 16 := by
  have hm := done_most g id
  rw [hX] at hm
  have ht := h.tp
  cases hq : lstP id (logS g.D.S) with
  | none =>
    rw [h.cl.base.done_none hq] at hX
    subst hX
    exact ⟨h.cl.mono (Nat.le_succ _), by dsimp only; omega, h.n, h.mo⟩
  | some q =>
    obtain ⟨m1, m2, m3⟩ := lstP_mem hq
    have h0 := (log_good h.cl.base.disk.ss h.cl.base.disk.byt q m1).1.2.2.1
    have h1 := (okI_iff hid).2
    have h2 := mxT_ge m1 (Or.inl m2)
    obtain ⟨g2, hp, hc2, hl2, hn2⟩ := h.cl.done (by omega) (h.seg (by omega)) hq (by omega) (by omega) (by decide) (by decide)
    rw [hX] at hp
    subst hp
    refine ⟨hc2, ?_, by rw [hm.2, h.n], by rw [hm.1, h.mo]⟩
    dsimp only
    rw [hl2, mxT_snoc]
    unfold stT
    rw [if_pos (Or.inr rfl)]
    dsimp only
    omega
theorem CpS.wait (h : CpS w wr d L i g RD RL) (hi : i < 25) {s : ByteArray} {t : Int} (ht : okI t) (hs : s.size ≤ 100) {X : Lg × Int} (hX : waitL g s t = X) :
    CLx 180 (i + 1) X.1 ∧ mxT (logS X.1.D.S) ≤ ((i + 1 : Nat) : Int) ∧ X.1.n = 7 ∧ X.1.D.most = 16 := by
  have hm := wait_most g s t
  rw [hX] at hm
  have htp := h.tp
  by_cases h0 : 0 ≤ t
  · obtain ⟨g2, hp, hc2, hl2, hn2⟩ := h.cl.wait (s := s) (t := t) (by omega) (h.seg (by omega)) h0 (by have := (okI_iff ht).2; omega) (by omega) (by omega) (by decide)
    rw [hX] at hp
    subst hp
    refine ⟨hc2, ?_, by rw [hm.2, h.n], by rw [hm.1, h.mo]⟩
    dsimp only
    rw [hl2, mxT_snoc]
    unfold stT
    rw [if_neg (by show ¬ ((3 : Int) = 1 ∨ (3 : Int) = 2); decide)]
    omega
  · have hns : ¬ soundR (waitRc s t) := fun e => h0 e.2.2.2.1
    rw [wait_no hns] at hX
    subst hX
    exact ⟨h.cl.mono (Nat.le_succ _), by dsimp only; omega, h.n, h.mo⟩
theorem CpS.step (h : CpS w wr d L i g RD RL) {M : Nat} (hM : M ≤ 32768 + 2 * (i + 1)) (ha : SpA w d L M RD RL wr g2 w') (hc : CLx 180 (i + 1) g2 ∧ mxT (logS g2.D.S) ≤ ((i + 1 : Nat) : Int) ∧ g2.n = 7 ∧ g2.D.most = 16) : ∃ R3 R4, CpS w w' d L (i + 1) g2 R3 R4 := by
  obtain ⟨R3, R4, hs, _, _⟩ := ha
  exact ⟨R3, R4, hs.mono hM, hc.1, hc.2.1, hc.2.2.1, hc.2.2.2⟩
theorem CpS.skip (h : CpS w wr d L i g RD RL) (hb : Below wr.heap.size wr w') : CpS w w' d L (i + 1) g RD RL := ⟨(h.sp.later hb).mono (by omega), h.cl.mono (Nat.le_succ _), by have := h.tp; omega, h.n, h.mo⟩
theorem CpS.later (h : CpS w wr d L i g RD RL) (hb : Below wr.heap.size wr w') : CpS w w' d L i g RD RL := ⟨h.sp.later hb, h.cl, h.tp, h.n, h.mo⟩
end
set_option maxHeartbeats 8000000 in
theorem spillCompacts_walk (x : Option Addr × Nat × Nat) (first fails keep : Int) (w : World) (hx : IsActz w x) (hf1 : (Lit.int .u8 first).wf = true) (hf2 : (Lit.int .u8 fails).wf = true) (hkw : (Lit.int .i64 keep).wf = true) (hN : NowM w) :
    Calls Tryz.prog 6 #[.slice x.1 x.2.1 x.2.2, .int .u8 first, .int .u8 fails, .int .i64 keep] w fun e w' => e = .returned (.bool true) ∧ Below w.heap.size w w' := by
  obtain ⟨a, len, cap⟩ := x
  obtain ⟨b, off, ha, hlm, hc⟩ := hx
  dsimp only at ha hlm hc ⊢
  unfold maxLen at hlm
  have HA := Lib.hid ha
  have HC := Lib.hid hc
  have HN := Lib.hid hN
  have HKW := Lib.hid hkw
  simp [Lit.wf, IntKind.min, IntKind.max, IntKind.signed, IntKind.bits] at hf1 hf2
  clear ha hc hN hkw
  have NW := Lib.hid (s_new HN.out (Below.refl _ w) 16)
  go_enter Tryz.func6, Tryz.ntmps6
  go_wp2_with fail
  refine NW.out.mono ?_
  rintro e w1 ⟨d, RD0, rfl, hd, _, _⟩
  have D1 := Lib.hid hd
  clear hd NW
  have OP := Lib.hid (s_open D1.out 7)
  go_wp2_with fail
  refine OP.out.mono ?_
  rintro e w2 ⟨L, RL0, rfl, hs, _, _⟩
  have X0 : Hid (CpS w w2 d L 0 (openL ⟨[], [], moI 16, 0, 0⟩ 7) RD0 RL0) := Lib.hid ⟨hs, CLx.new 180 16 7 (by decide), by decide, rfl, rfl⟩
  clear hs OP D1
  go_upto_block 0 with fail
  go_cut [] (fun wx => ∃ (i : Nat) (g : Lg) (RD RL : Nat → Prop), i ≤ 25 ∧ Hid (CpS w wx d L i g RD RL))
  case first =>
    go_wp2_with fail
    go_loopw [12] (fun v wr => ∃ (i : Nat) (g : Lg) (RD RL : Nat → Prop), i ≤ len ∧ i ≤ 25 ∧ v = .int .i64 (i : Int) ∧ Hid (CpS w wr d L i g RD RL)) (fun v _ => 25 - (vI v).toNat)
    case atStart => exact ⟨0, _, _, _, by omega, by omega, rfl, X0⟩
    case round =>
      obtain ⟨i, g, RD, RL, hi, hi25, rfl, HS⟩ := hrel
      clear X0
      by_cases hgo : i < len ∧ i < 25
      · obtain ⟨h1, h2⟩ := hgo
        have d1 : decide ((i : Int) < (len : Int)) = true := decide_eq_true (by omega)
        have d2 : decide ((i : Int) < 25) = true := decide_eq_true (by omega)
        have haa := HA.out (by omega)
        subst haa
        obtain ⟨x, hsz, hx⟩ := HC.out i h1
        have hx2 := hx.later HS.out.sp.bl
        have m0 := hx2.c0
        have m1 := hx2.c1
        have m2 := hx2.c2
        have m3 := hx2.c3
        have m4 := hx2.c4
        have m5 := hx2.c5
        have m6 := hx2.c6
        have m7 := hx2.c7
        have m8 := hx2.c8
        have HRW := Lib.hid hx.rw
        have HNW := Lib.hid hx.nw
        clear hx hx2
        obtain ⟨xw, xn, xm, ⟨rk, ri, rh, rp, ro, ru⟩, xh⟩ := x
        dsimp only at m0 m1 m2 m3 m4 m5 m6 m7 m8 HRW HNW hsz
        unfold maxLen at hsz
        have hx0 : (0 : Int) ≤ (i : Int) := by omega
        have hx1 : (i : Int) < (len : Int) := by omega
        go_upto_region 9 with fail
        refine code_forget (fun W => Hid (Box W wr.heap.size #[.int .i64 xw, .int .i64 xn, .int .i64 xm, .int .i64 ri, .string rh, .string rp, .int .i64 ro, .int .i64 ru, .string xh] 33) ∧ Hid (Below wr.heap.size wr W)) ⟨Lib.hid (Box.new wr _ _), Lib.hid ((Below.refl wr.heap.size wr).alloc (Nat.le_refl _) _)⟩ ?_
        obtain ⟨ab, hab⟩ : ∃ p, wr.heap.size = p := ⟨_, rfl⟩
        have HAB := Lib.hid hab
        rw [hab]
        rintro wa ⟨BA, hba⟩
        rw [← HAB.out] at hba
        have SA := Lib.hid (HS.out.later hba.out)
        have HOF : Hid (¬ (RD ab ∨ RL ab) ∧ w.heap.size ≤ ab) := Lib.hid ⟨HS.out.sp.lg.not_own (by have := HAB.out; omega), by have := HAB.out; have := HS.out.sp.bl.size; omega⟩
        clear m0 m1 m2 m3 m4 m5 m6 m7 m8 hab HS hba
        have a0 := BA.out.cell 0
        have a1 := BA.out.cell 1
        have a3 := BA.out.cell 3
        have a4 := BA.out.cell 4
        have a5 := BA.out.cell 5
        have a6 := BA.out.cell 6
        have a7 := BA.out.cell 7
        have a8 := BA.out.cell 8
        have la := BA.out.lt
        obtain ⟨v, hwr⟩ : ∃ v, IntKind.i64.wrap ((rh.size : Int) + (rp.size : Int)) = v := ⟨_, rfl⟩
        have HV : Hid (v ≤ 150 → rh.size ≤ 256 → rp.size ≤ 768 → rh.size + rp.size ≤ 150) := Lib.hid (by rw [← hwr, IntKind.wrap_i64]; omega)
        by_cases hb1 : 150 < v
        · have e1 : decide (v > 150) = true := decide_eq_true (by omega)
          have e1' : decide ((150 : Int) < v) = true := decide_eq_true (by omega)
          have NF := Lib.hid (SA.out.skip (Below.refl _ _))
          clear SA BA HOF HRW HNW
          go_wp2_with fail
          go_roundw
          case rel => exact ⟨i + 1, g, RD, RL, by omega, by omega, by go_num, NF⟩
          case measure => exact cra_ms 25 i h2
        · have e1 : decide (v > 150) = false := decide_eq_false (by omega)
          have e1' : decide ((150 : Int) < v) = false := decide_eq_false (by omega)
          by_cases hb2 : 100 < xh.size
          · have e2 : decide ((xh.size : Int) > 100) = true := decide_eq_true (by omega)
            have e2' : decide ((100 : Int) < (xh.size : Int)) = true := decide_eq_true (by omega)
            have NF := Lib.hid (SA.out.skip (Below.refl _ _))
            clear SA BA HOF HRW HNW
            go_wp2_with fail
            go_roundw
            case rel => exact ⟨i + 1, g, RD, RL, by omega, by omega, by go_num, NF⟩
            case measure => exact cra_ms 25 i h2
          · have e2 : decide ((xh.size : Int) > 100) = false := decide_eq_false (by omega)
            have e2' : decide ((100 : Int) < (xh.size : Int)) = false := decide_eq_false (by omega)
            by_cases k0 : xw = 0
            · subst k0
              have NX := Lib.hid (s_next SA.out.sp)
              rw [SA.out.next (by omega)] at NX
              obtain ⟨T, hT⟩ : ∃ T, mxT (logS g.D.S) + 1 = T := ⟨_, rfl⟩
              rw [hT] at NX
              have HT : Hid (T = mxT (logS g.D.S) + 1 ∧ 0 ≤ T ∧ T ≤ 26) := Lib.hid ⟨hT.symm, by have := mxT_nn (logS g.D.S); omega, by have := SA.out.tp; omega⟩
              clear hT
              have fa := BA.out.free 3
              go_wp2_with fail
              refine NX.out.mono ?_
              rintro e wz ⟨rfl, hwz⟩
              subst wz
              have SB := Lib.hid (SA.out.sp.setz (j := 3) (v := .int .i64 T) HOF.out)
              have BB := Lib.hid (BA.out.set 3 (.int .i64 T))
              obtain ⟨X, hX⟩ : ∃ X, putL g ⟨1, T, rh, rp, ro, ru⟩ = X := ⟨_, rfl⟩
              have PC := Lib.hid (s_put SB.out ⟨1, T, rh, rp, ro, ru⟩ rfl (okI_of (by have := HT.out; show _ ≤ T; omega) (by have := HT.out; show T ≤ _; omega)) (by omega) (by omega) (by rw [SA.out.n]; decide) X hX)
              have HD := Lib.hid (SA.out.put h2 (r := ⟨1, T, rh, rp, ro, ru⟩) rfl HT.out.1 (by have := (okI_iff HRW.out.ti).2; dsimp only at this ⊢; omega) (fun hs => HV.out (by omega) hs.2.2.2.2.2.2.1 hs.2.2.2.2.2.2.2) hX)
              have SBC : Hid (CpS w (wa.setCell ⟨ab, 3, none⟩ (.int .i64 T)) d L i g RD RL) := Lib.hid ⟨SB.out, SA.out.cl, SA.out.tp, SA.out.n, SA.out.mo⟩
              unfold reqL at PC
              dsimp only at PC
              clear hX NX a0 a1 a4 a5 a6 a7 a8 SA BA SB
              have b3 : (wa.setCell ⟨ab, 3, none⟩ (.int .i64 T)).cell? ⟨ab, 3, none⟩ = some (.int .i64 T) := BB.out.cell 3
              have b4 : (wa.setCell ⟨ab, 3, none⟩ (.int .i64 T)).cell? ⟨ab, 4, none⟩ = some (.string rh) := BB.out.cell 4
              have b5 : (wa.setCell ⟨ab, 3, none⟩ (.int .i64 T)).cell? ⟨ab, 5, none⟩ = some (.string rp) := BB.out.cell 5
              have b6 : (wa.setCell ⟨ab, 3, none⟩ (.int .i64 T)).cell? ⟨ab, 6, none⟩ = some (.int .i64 ro) := BB.out.cell 6
              have b7 : (wa.setCell ⟨ab, 3, none⟩ (.int .i64 T)).cell? ⟨ab, 7, none⟩ = some (.int .i64 ru) := BB.out.cell 7
              go_wp2_with fail
              refine PC.out.mono ?_
              rintro e w5 ⟨rfl, hq⟩
              obtain ⟨R3, R4, h5⟩ := SBC.out.step (by omega) hq HD.out
              have NF := Lib.hid h5
              clear hq h5 PC HD SBC b3 b4 b5 b6 b7 BB fa la a3
              go_wp2_with fail
              go_roundw
              case rel => exact ⟨i + 1, X.1, R3, R4, by omega, by omega, by go_num, NF⟩
              case measure => exact cra_ms 25 i h2
            · have f0 : (xw == 0) = false := beq_eq_false_iff_ne.2 k0
              by_cases k1 : xw = 1
              · subst k1
                obtain ⟨X, hX⟩ : ∃ X, doneL g xn = X := ⟨_, rfl⟩
                have PC := Lib.hid (s_done SA.out.sp xn HNW.out (by omega) (by omega) (by rw [SA.out.n]; decide) X hX)
                have HD := Lib.hid (SA.out.done h2 HNW.out hX)
                clear hX
                go_wp2_with fail
                refine PC.out.mono ?_
                rintro e w5 ⟨rfl, hq⟩
                obtain ⟨R3, R4, h5⟩ := SA.out.step (by omega) hq HD.out
                have NF := Lib.hid h5
                clear hq h5 PC HD SA BA a0 a1 a3 a4 a5 a6 a7 a8
                go_wp2_with fail
                go_roundw
                case rel => exact ⟨i + 1, X.1, R3, R4, by omega, by omega, by go_num, NF⟩
                case measure => exact cra_ms 25 i h2
              · have f1 : (xw == 1) = false := beq_eq_false_iff_ne.2 k1
                by_cases k2 : xw = 2
                · subst k2
                  obtain ⟨X, hX⟩ : ∃ X, waitL g xh xn = X := ⟨_, rfl⟩
                  have PC := Lib.hid (s_wait SA.out.sp xh xn HNW.out (by omega) (by omega) (by rw [SA.out.n]; decide) X hX)
                  have HD := Lib.hid (SA.out.wait h2 HNW.out (by omega) hX)
                  clear hX
                  go_wp2_with fail
                  refine PC.out.mono ?_
                  rintro e w5 ⟨rfl, hq⟩
                  obtain ⟨R3, R4, h5⟩ := SA.out.step (by omega) hq HD.out
                  have NF := Lib.hid h5
                  clear hq h5 PC HD SA BA a0 a1 a3 a4 a5 a6 a7 a8
                  go_wp2_with fail
                  go_roundw
                  case rel => exact ⟨i + 1, X.1, R3, R4, by omega, by omega, by go_num, NF⟩
                  case measure => exact cra_ms 25 i h2
                · have f2 : (xw == 2) = false := beq_eq_false_iff_ne.2 k2
                  have NF := Lib.hid (SA.out.skip (Below.refl _ _))
                  clear SA BA HOF HRW HNW
                  go_wp2_with fail
                  go_roundw
                  case rel => exact ⟨i + 1, g, RD, RL, by omega, by omega, by go_num, NF⟩
                  case measure => exact cra_ms 25 i h2
      · clear HA HC
        by_cases h1 : i < len
        · have d1 : decide ((i : Int) < (len : Int)) = true := decide_eq_true (by omega)
          have d2 : decide ((i : Int) < 25) = false := decide_eq_false (by omega)
          go_wp2_with fail
          go_meet
          exact ⟨i, g, RD, RL, hi25, HS⟩
        · have d1 : decide ((i : Int) < (len : Int)) = false := decide_eq_false (by omega)
          go_wp2_with fail
          go_meet
          exact ⟨i, g, RD, RL, hi25, HS⟩
  case rest =>
    obtain ⟨i, g, RD, RL, hi25, HS⟩ := hcut
    clear X0 HA HC
    obtain ⟨P, hP⟩ : ∃ P, pendL g = P := ⟨_, rfl⟩
    obtain ⟨M, hM⟩ : ∃ M, P.length = M := ⟨_, rfl⟩
    have hM2 : M ≤ 999999 := by
      rw [← hM, ← hP]
      unfold pendL
      have h1 := List.length_filterMap_le (loadL g) (srtI (g.x.puts.map Prod.fst))
      rw [srtI_len, List.length_map] at h1
      have := HS.out.sp.few.1
      omega
    have HM := Lib.hid hM
    have HPE := Lib.hid hP
    have P1 := Lib.hid (s_pend HS.out.sp (by omega) P hP M hM)
    clear hP hM
    go_wp2_with fail
    refine P1.out.mono ?_
    rintro e w3 ⟨a1, c1, rfl, ho, hs3, hb3⟩
    have K3 : Hid (KpL w3 a1 P RD RL) := Lib.hid (KpL.new ho HM.out HS.out.sp.lt)
    have S3 := Lib.hid hs3
    clear ho hs3 hb3 P1
    obtain ⟨U, hU⟩ : ∃ U, tillI g.x ⟨#[104, 116, 116, 112, 58, 47, 47, 97]⟩ = U := ⟨_, rfl⟩
    obtain ⟨N0, hN0⟩ : ∃ N0, nextI g.x = N0 := ⟨_, rfl⟩
    have UN := Lib.hid (s_until S3.out ⟨#[104, 116, 116, 112, 58, 47, 47, 97]⟩ (by show _ ≤ maxLen; decide))
    rw [hU] at UN
    go_wp2_with fail
    refine UN.out.mono ?_
    rintro e wz ⟨rfl, hwz⟩
    subst wz
    have NE := Lib.hid (s_next S3.out)
    rw [hN0] at NE
    clear UN
    go_wp2_with fail
    refine NE.out.mono ?_
    rintro e wz ⟨rfl, hwz⟩
    subst wz
    clear NE
    obtain ⟨fx, hfx⟩ : ∃ m, Int.tmod first 12 = m := ⟨_, rfl⟩
    obtain ⟨fy, hfy⟩ : ∃ m, Int.tmod fails 4 = m := ⟨_, rfl⟩
    have hx0 : 0 ≤ fx ∧ fx < 12 := by rw [← hfx]; exact ⟨Int.tmod_nonneg 12 hf1.1, Int.tmod_lt_of_pos first (by decide)⟩
    have hy0 : 0 ≤ fy ∧ fy < 4 := by rw [← hfy]; exact ⟨Int.tmod_nonneg 4 hf2.1, Int.tmod_lt_of_pos fails (by decide)⟩
    have hwx : IntKind.i64.wrap fx = fx := by rw [IntKind.wrap_i64]; omega
    have hwy : IntKind.i64.wrap fy = fy := by rw [IntKind.wrap_i64]; omega
    have FA := Lib.hid (s_fault S3.out fx fy (by omega) (by omega))
    go_wp2_with fail
    refine FA.out.mono ?_
    rintro e w5 ⟨rfl, R3, R4, hs5, hw5, ho5⟩
    have S5 := Lib.hid hs5
    have K5 := Lib.hid (K3.out.aft hw5 ho5)
    obtain ⟨⟨X1, X2⟩, hX⟩ : ∃ X, compactL ⟨faultD g.D fx fy, g.n, g.x⟩ = X := ⟨_, rfl⟩
    have CF := Lib.hid (HS.out.cl.compact_fail HS.out.sp.lg.lx.ok (by omega) (by decide) (by decide) (by have := HS.out.few hi25; rw [HS.out.n]; omega) (fun k hk => by rw [HS.out.n]; have e : (2048 - 180 : Nat) = 1868 := rfl; rw [e] at hk; omega) (by rw [HS.out.n, HS.out.mo]; decide) fx fy hX)
    have PC := Lib.hid (s_compact S5.out (by omega) (by omega) (by rw [HS.out.n]; decide) _ hX)
    dsimp only at PC CF
    have HND := Lib.hid HS.out.sp.nd
    clear FA hs5 hw5 ho5 K3 S3 hX hwx
    go_wp2_with fail
    refine PC.out.mono ?_
    rintro e w6 ⟨rfl, R5, R6, hs6, hw6, ho6⟩
    have S6 := Lib.hid hs6
    have K6 := Lib.hid (K5.out.aft hw6 ho6)
    clear PC hs6 hw6 ho6 K5 S5
    go_upto_region 21 with fail
    go_cut [118] (fun v wx => v = .bool false ∧ wx = w6)
    case first =>
      by_cases z0 : X2 = 0
      · subst z0
        go_wp2_with fail
        go_meet
        exact ⟨rfl, rfl⟩
      · have z7 : X2 = 7 := CF.out.1.resolve_left z0
        subst z7
        have hyn : (fy == 0) = false := beq_eq_false_iff_ne.2 fun e => z0 (CF.out.2.1 e)
        go_wp2_with fail
        go_meet
        exact ⟨rfl, rfl⟩
    obtain ⟨rfl, he1⟩ := hcut
    have he1 := he1.symm
    subst he1
    have HS1 := Lib.hid CF.out.2.2.1
    have HPX : Hid (pendL X1 = P) := Lib.hid (by rw [pend_ext HS1.out HND.out S6.out.nd]; exact HPE.out)
    have HUX : Hid (tillI X1.x ⟨#[104, 116, 116, 112, 58, 47, 47, 97]⟩ = U) := Lib.hid (by rw [HS1.out.till]; exact hU)
    have HNX : Hid (nextI X1.x = N0) := Lib.hid (by rw [← hN0]; unfold nextI; rw [HS1.out.top])
    have P2 := Lib.hid (s_pend S6.out (by omega) P HPX.out M HM.out)
    clear hfx hfy hwy hx0 hy0 hf1 hf2
    go_wp2_with fail
    refine P2.out.mono ?_
    rintro e w7 ⟨a2, c2, rfl, ho, hs7, hb7⟩
    have RQ := Lib.hid (reqs_at P M HM.out hM2 a2 a1 c2 c1 w7 (rqAt_own ho HM.out) (K6.out.later hb7).at_)
    have K7 := Lib.hid (K6.out.later hb7)
    have S7 := Lib.hid hs7
    clear P2 ho hs7 hb7 K6 S6
    go_wp2_with fail
    refine RQ.out.mono ?_
    rintro e w8 ⟨rfl, hb8⟩
    have K8 := Lib.hid (K7.out.later hb8)
    have S8 := Lib.hid (S7.out.later hb8)
    have UN := Lib.hid (s_until S8.out ⟨#[104, 116, 116, 112, 58, 47, 47, 97]⟩ (by show _ ≤ maxLen; decide))
    rw [HUX.out] at UN
    have hu1 : (U != U) = false := by simp
    have hn1 : (N0 != N0) = false := by simp
    clear RQ hb8 K7 S7
    go_wp2_with fail
    refine UN.out.mono ?_
    rintro e wz ⟨rfl, hwz⟩
    subst wz
    have NE := Lib.hid (s_next S8.out)
    rw [HNX.out] at NE
    clear UN
    go_wp2_with fail
    refine NE.out.mono ?_
    rintro e wz ⟨rfl, hwz⟩
    subst wz
    have CR := Lib.hid (s_crash S8.out keep (okI_iff HKW.out).1 (okI_iff HKW.out).2)
    clear NE
    go_wp2_with fail
    refine CR.out.mono ?_
    rintro e w9 ⟨rfl, R7, R8, hs9, hw9, ho9⟩
    have S9 := Lib.hid hs9
    have K9 := Lib.hid (K8.out.aft hw9 ho9)
    have OPN := Lib.hid (s_open S9.out.disk 7)
    clear CR hs9 hw9 ho9 K8 S8
    dsimp only at OPN
    go_wp2_with fail
    refine OPN.out.mono ?_
    rintro e wa ⟨L2, RL2, rfl, hsa, hba, hga⟩
    have HS2 := Lib.hid (CF.out.2.2.2 keep 7)
    obtain ⟨G, hG⟩ : ∃ G, openL (crashD X1.D keep) 7 = G := ⟨_, rfl⟩
    rw [hG] at HS2 hsa
    have SA := Lib.hid hsa
    have KA : Hid (RqAt wa a1 P) := Lib.hid (K9.out.at_.later hba)
    have HPG : Hid (pendL G = P) := Lib.hid (by rw [pend_ext HS2.out HND.out SA.out.nd]; exact HPE.out)
    have HUG : Hid (tillI G.x ⟨#[104, 116, 116, 112, 58, 47, 47, 97]⟩ = U) := Lib.hid (by rw [HS2.out.till]; exact hU)
    have HNG : Hid (nextI G.x = N0) := Lib.hid (by rw [← hN0]; unfold nextI; rw [HS2.out.top])
    clear OPN hsa hba hga hG K9 S9 HS2 HS1 CF HPX HUX HNX
    have AW := Lib.hid (awake15_at wa SA.out.lg.now)
    go_wp2_with fail
    refine AW.out.mono ?_
    rintro e wb ⟨rfl, hbb⟩
    have SB := Lib.hid (SA.out.later hbb)
    have KB := Lib.hid (KA.out.later hbb)
    have P3 := Lib.hid (s_pend SB.out (by omega) P HPG.out M HM.out)
    clear AW hbb SA KA
    go_wp2_with fail
    refine P3.out.mono ?_
    rintro e wc ⟨a3, c3, rfl, ho, hsc, hbc⟩
    have RQ := Lib.hid (reqs_at P M HM.out hM2 a3 a1 c3 c1 wc (rqAt_own ho HM.out) (KB.out.later hbc))
    have SC := Lib.hid hsc
    clear P3 ho hsc hbc SB KB
    go_wp2_with fail
    refine RQ.out.mono ?_
    rintro e wd ⟨rfl, hbd⟩
    have SD := Lib.hid (SC.out.later hbd)
    have UN := Lib.hid (s_until SD.out ⟨#[104, 116, 116, 112, 58, 47, 47, 97]⟩ (by show _ ≤ maxLen; decide))
    rw [HUG.out] at UN
    have hu2 : (U == U) = true := beq_self_eq_true _
    have hn2 : (N0 == N0) = true := beq_self_eq_true _
    clear RQ hbd SC
    go_wp2_with fail
    refine UN.out.mono ?_
    rintro e wz ⟨rfl, hwz⟩
    subst wz
    have NE := Lib.hid (s_next SD.out)
    rw [HNG.out] at NE
    clear UN
    go_wp2_with fail
    refine NE.out.mono ?_
    rintro e wz ⟨rfl, hwz⟩
    subst wz
    clear NE
    go_wp2_with fail
    go_ret
    exact ⟨rfl, SD.out.bl⟩
end Go.Proofs.YteinblpkcpjpnaaGreatDoor
