/- Part of a chain: SpLst. -/
import Derived.Test.YteinblpkcpjpnaaGreatDoorSl02
import Derived.Test.YteinblpkcpjpnaaGreatDoorSl03
/- SpillLasts, walked. Written by gen_lst.py. -/
namespace Go.Proofs.YteinblpkcpjpnaaGreatDoor
open Go Go.RowKit Go.Maps
set_option linter.unusedVariables false
set_option linter.unusedSimpArgs false
set_option maxRecDepth 100000

theorem LsS.setz {w wr : World} {d L K c : Nat} {g : Lg} {RD RL : Nat → Prop} {ever sure : List Rc} {ea sa : Option Addr} {en ec sn sc : Nat} (h : LsS w wr d L K c g RD RL ever sure ea en ec sa sn sc) {z j : Nat} {v : Value} (hz : ¬ (RD z ∨ RL z) ∧ w.heap.size ≤ z) (he : ea ≠ some ⟨z, 0, none⟩) (hs : sa ≠ some ⟨z, 0, none⟩) : LsS w (wr.setCell ⟨z, j, none⟩ v) d L K c g RD RL ever sure ea en ec sa sn sc :=
  ⟨h.sp.setz hz, h.j, h.n4, h.eo.other (fun k hk e => he (by rw [hk, e])) _, h.el, h.e60, h.so.other (fun k hk e => hs (by rw [hk, e])) _, h.sl, h.s60, h.off, h.ne⟩
theorem LsS.bare {w wr : World} {d L K c : Nat} {g : Lg} {RD RL : Nat → Prop} {ever sure : List Rc} {ea sa : Option Addr} {en ec sn sc : Nat} (h : LsS w wr d L K c g RD RL ever sure ea en ec sa sn sc) : LsS w wr d L K c g RD RL ever [] ea en ec none 0 0 :=
  ⟨h.sp, h.j.wide (fun r hr => hr) (fun r hr => by cases hr), h.n4, h.eo, h.el, h.e60, Own.nil _ _ _ _, rfl, Nat.zero_le _, fun z hz => h.off z (hz.elim Or.inl (fun e => by cases e)), fun z _ e => by cases e⟩
theorem LsS.fresh {w wr : World} {d L K c : Nat} {g : Lg} {RD RL : Nat → Prop} {ever : List Rc} {ea : Option Addr} {en ec : Nat} (h : LsS w wr d L K c g RD RL ever [] ea en ec none 0 0) : LsS w (wr.alloc (.cells #[] 31)) d L K c g RD RL ever [] ea en ec (some ⟨wr.heap.size, 0, none⟩) 0 0 := by
  have hb : Below wr.heap.size wr (wr.alloc (.cells #[] 31)) := (Below.refl _ _).alloc (Nat.le_refl _) _
  refine ⟨h.sp.later hb, h.j, h.n4, h.eo.later hb, h.el, h.e60, Own.lit (w := wr) (B := w.heap.size) (n := 0) (size := 5) (cs := #[]) (E := 31) h.sp.bl.size (by omega) rfl, rfl, Nat.zero_le _, fun z hz => ?_, fun z hz e => ?_⟩
  · rcases hz with hz | hz
    · exact h.off z (Or.inl hz)
    · injection hz with hz
      injection hz with hz
      exact h.sp.lg.not_own (by omega)
  · injection e with e
    injection e with e
    have := (h.lt (Or.inl hz)).1
    omega
theorem new_apart {wr : World} {ra sa : Option Addr} {ab g7 B n cap : Nat} {E : TypeId} {xs : List Value} (p4 : ra.map (·.block) = some g7 ∨ g7 = wr.heap.size + 1) (ho : Own wr B E 5 ra n cap xs) (hA : ∀ z, ra = some ⟨z, 0, none⟩ → z ≠ ab ∧ sa ≠ some ⟨z, 0, none⟩) (hab : ab < wr.heap.size) (hs : ∀ z, sa = some ⟨z, 0, none⟩ → z < wr.heap.size) :
    ∀ z, (some ⟨g7, 0, none⟩ : Option Addr) = some ⟨z, 0, none⟩ → z ≠ ab ∧ sa ≠ some ⟨z, 0, none⟩ := fun z hz => by
  injection hz with hz
  injection hz with hz
  subst hz
  rcases p4 with p4 | p4
  · exact hA _ (map_block ho p4)
  · exact ⟨by omega, fun e => by have := hs _ e; omega⟩
theorem next_nn {g : Lg} (h : 0 ≤ g.x.top) : 0 ≤ nextI g.x ∧ (nextI g.x ≤ 1152921504606846976 → nextI g.x = g.x.top + 1) := by
  unfold nextI
  split
  · exact ⟨h, fun e => by omega⟩
  · exact ⟨by omega, fun _ => rfl⟩
set_option maxHeartbeats 16000000 in
theorem spillLasts_walk (x : Option Addr × Nat × Nat) (keep : Int) (w : World) (hx : IsActz w x) (hkw : (Lit.int .i64 keep).wf = true) (hN : NowM w) :
    Calls Tryz.prog 3 #[.slice x.1 x.2.1 x.2.2, .int .i64 keep] w fun e w' => e = .returned (.bool true) ∧ Below w.heap.size w w' := by
  obtain ⟨a, len, cap⟩ := x
  obtain ⟨b, off, ha, hlm, hc⟩ := hx
  dsimp only at ha hlm hc ⊢
  unfold maxLen at hlm
  have HA := Lib.hid ha
  have HC := Lib.hid hc
  have HN := Lib.hid hN
  have HKW := Lib.hid hkw
  clear ha hc hN hkw
  have NW := Lib.hid (s_new HN.out (Below.refl _ w) 9)
  go_enter Tryz.func3, Tryz.ntmps3
  go_wp2_with fail
  refine NW.out.mono ?_
  rintro e w1 ⟨d, RD0, rfl, hd, _, _⟩
  have D1 := Lib.hid hd
  clear hd NW
  have OP := Lib.hid (s_open D1.out 4)
  go_wp2_with fail
  refine OP.out.mono ?_
  rintro e w2 ⟨L0, RL0, rfl, hs, _, _⟩
  have S2 := Lib.hid hs
  clear hs OP D1
  go_upto_region 7 with fail
  refine code_forget (fun W => Hid (LsS w W d L0 32768 0 (openL ⟨[], [], moI 9, 0, 0⟩ 4) RD0 RL0 [] [] (some ⟨w2.heap.size, 0, none⟩) 0 0 (some ⟨w2.heap.size + 1, 0, none⟩) 0 0)) (Lib.hid ⟨S2.out.later (((Below.refl w2.heap.size w2).alloc (Nat.le_refl _) _).alloc (by simp) _), JL.new _ _, rfl, (Own.lit (w := w2) (B := w.heap.size) (n := 0) (size := 5) (cs := #[]) (E := 31) S2.out.bl.size (by omega) rfl).alloc _, rfl, Nat.le_refl _, (by have h9 := Own.lit (w := w2.alloc (.cells #[] 31)) (B := w.heap.size) (n := 0) (size := 5) (cs := #[]) (E := 31) (by rw [World.size_alloc]; have := S2.out.bl.size; omega) (by omega) rfl; rw [World.size_alloc] at h9; exact h9), rfl, Nat.le_refl _, fun z hz => ?_, fun z hz e => ?_⟩) ?_
  · refine S2.out.lg.not_own ?_
    rcases hz with hz | hz
    · injection hz with hz; injection hz with hz; omega
    · injection hz with hz; injection hz with hz; omega
  · injection hz with hz; injection hz with hz; injection e with e; injection e with e; omega
  obtain ⟨eb, heb⟩ : ∃ p, w2.heap.size = p := ⟨_, rfl⟩
  rw [heb]
  rintro w3 X0
  clear heb S2
  go_upto_block 0 with fail
  go_cut [6, 8, 9] (fun v6 v8 v9 wx => ∃ (L KK CC : Nat) (g : Lg) (RD RL : Nat → Prop) (ever sure : List Rc) (ea : Option Addr) (en ec : Nat) (sa : Option Addr) (sn sc : Nat), v6 = .pointer (some ⟨L, 0, none⟩) ∧ v8 = .slice ea en ec ∧ v9 = .slice sa sn sc ∧ KK ≤ 40000 ∧ CC ≤ 60 ∧ Hid (LsS w wx d L KK CC g RD RL ever sure ea en ec sa sn sc))
  case first =>
    go_wp2_with fail
    go_loopw [6, 8, 9, 10] (fun v6 v8 v9 v10 wr => ∃ (i L : Nat) (g : Lg) (RD RL : Nat → Prop) (ever sure : List Rc) (ea : Option Addr) (en ec : Nat) (sa : Option Addr) (sn sc : Nat), i ≤ len ∧ i ≤ 60 ∧ v6 = .pointer (some ⟨L, 0, none⟩) ∧ v8 = .slice ea en ec ∧ v9 = .slice sa sn sc ∧ v10 = .int .i64 (i : Int) ∧ Hid (LsS w wr d L (32768 + 2 * i) i g RD RL ever sure ea en ec sa sn sc)) (fun _ _ _ v _ => 60 - (vI v).toNat)
    case atStart => exact ⟨0, L0, _, _, _, _, _, _, _, _, _, _, _, by omega, by omega, rfl, rfl, rfl, rfl, X0⟩
    case round =>
      obtain ⟨i, L, g, RD, RL, ever, sure, ea, en, ec, sa, sn, sc, hi, hi60, rfl, rfl, rfl, rfl, HS⟩ := hrel
      clear X0
      by_cases hgo : i < len ∧ i < 60
      · obtain ⟨h1, h2⟩ := hgo
        have d1 : decide ((i : Int) < (len : Int)) = true := decide_eq_true (by omega)
        have d2 : decide ((i : Int) < 60) = true := decide_eq_true (by omega)
        have haa := HA.out (by omega)
        subst haa
        obtain ⟨x, hsz, hx⟩ := HC.out i h1
        have hx2 := hx.later HS.out.sp.bl
        have m0 := hx2.c0
        have m1 := hx2.c1
        have m2 := hx2.c2
        have m3 := hx2.c3
        have m4 := hx2.c4
        have m5 := hx2.c5
        have m6 := hx2.c6
        have m7 := hx2.c7
        have m8 := hx2.c8
        have HRW := Lib.hid hx.rw
        have HNW := Lib.hid hx.nw
        have HMW := Lib.hid hx.mw
        clear hx hx2
        obtain ⟨xw, xn, xm, ⟨rk, ri, rh, rp, ro, ru⟩, xh⟩ := x
        dsimp only at m0 m1 m2 m3 m4 m5 m6 m7 m8 HRW HNW HMW hsz
        have hx0 : (0 : Int) ≤ (i : Int) := by omega
        have hx1 : (i : Int) < (len : Int) := by omega
        go_upto_region 11 with fail
        refine code_forget (fun W => Hid (Box W wr.heap.size #[.int .i64 xw, .int .i64 xn, .int .i64 xm, .int .i64 ri, .string rh, .string rp, .int .i64 ro, .int .i64 ru, .string xh] 33) ∧ Hid (Below wr.heap.size wr W)) ⟨Lib.hid (Box.new wr _ _), Lib.hid ((Below.refl wr.heap.size wr).alloc (Nat.le_refl _) _)⟩ ?_
        obtain ⟨ab, hab⟩ : ∃ p, wr.heap.size = p := ⟨_, rfl⟩
        have HAB := Lib.hid hab
        rw [hab]
        rintro wa ⟨BA, hba⟩
        rw [← HAB.out] at hba
        have SA := Lib.hid (HS.out.later hba.out)
        have HOF : Hid (¬ (RD ab ∨ RL ab) ∧ w.heap.size ≤ ab ∧ ea ≠ some ⟨ab, 0, none⟩ ∧ sa ≠ some ⟨ab, 0, none⟩) := Lib.hid ⟨HS.out.sp.lg.not_own (by have := HAB.out; omega), by have := HAB.out; have := HS.out.sp.bl.size; omega, fun e => by have := (HS.out.lt (Or.inl e)).1; have := HAB.out; omega, fun e => by have := (HS.out.lt (Or.inr e)).1; have := HAB.out; omega⟩
        clear m0 m1 m2 m3 m4 m5 m6 m7 m8 hab HS hba
        have a3 := BA.out.cell 3
        have a4 := BA.out.cell 4
        have a5 := BA.out.cell 5
        have a6 := BA.out.cell 6
        have a7 := BA.out.cell 7
        obtain ⟨q, hq⟩ : ∃ q, (decide ((rh.size : Int) ≤ 300) && decide ((rp.size : Int) ≤ 800)) = q := ⟨_, rfl⟩
        have SM := Lib.hid (small_at ri rh rp ro ru wa q hq.symm)
        clear hq
        go_wp2_with fail
        refine SM.out.mono ?_
        rintro e wb ⟨rfl, hbb⟩
        have SB := Lib.hid (SA.out.later hbb)
        have BB := Lib.hid (BA.out.later hbb)
        clear SM hbb SA BA a3 a4 a5 a6 a7
        cases q with
        | false =>
          have NF := Lib.hid (SB.out.mono (M := 32768 + 2 * (i + 1)) (c' := i + 1) (by omega) (by omega))
          clear SB BB HOF HRW HNW
          go_wp2_with fail
          go_roundw
          case rel => exact ⟨i + 1, L, g, RD, RL, ever, sure, ea, en, ec, sa, sn, sc, by omega, by omega, rfl, rfl, rfl, by go_num, NF⟩
          case measure => exact cra_ms 60 i h2
        | true =>
          have a0 := BB.out.cell 0
          go_upto_block 2 with fail
          go_cut [6, 8, 9] (fun v6 v8 v9 wx => ∃ (L : Nat) (g : Lg) (RD RL : Nat → Prop) (ever sure : List Rc) (ea : Option Addr) (en ec : Nat) (sa : Option Addr) (sn sc : Nat), v6 = .pointer (some ⟨L, 0, none⟩) ∧ v8 = .slice ea en ec ∧ v9 = .slice sa sn sc ∧ Hid (LsS w wx d L (32768 + 2 * (i + 1)) (i + 1) g RD RL ever sure ea en ec sa sn sc))
          case first =>
            by_cases k0 : xw = 0
            · subst k0
              have b3 := BB.out.cell 3
              have b4 := BB.out.cell 4
              have b5 := BB.out.cell 5
              have b6 := BB.out.cell 6
              have b7 := BB.out.cell 7
              go_upto_region 21 with fail
              refine code_forget (fun W => Hid (Box W wb.heap.size #[.int .i64 ri, .string rh, .string rp, .int .i64 ro, .int .i64 ru] 31) ∧ Hid (Below wb.heap.size wb W)) ⟨Lib.hid (Box.new wb _ _), Lib.hid ((Below.refl wb.heap.size wb).alloc (Nat.le_refl _) _)⟩ ?_
              obtain ⟨rb, hrb⟩ : ∃ p, wb.heap.size = p := ⟨_, rfl⟩
              have HRB := Lib.hid hrb
              rw [hrb]
              rintro wc ⟨BR, hbc⟩
              rw [← HRB.out] at hbc
              have SC := Lib.hid (SB.out.later hbc.out)
              have HOR : Hid (¬ (RD rb ∨ RL rb) ∧ w.heap.size ≤ rb ∧ ea ≠ some ⟨rb, 0, none⟩ ∧ sa ≠ some ⟨rb, 0, none⟩) := Lib.hid ⟨SB.out.sp.lg.not_own (by have := HRB.out; omega), by have := HRB.out; have := SB.out.sp.bl.size; omega, fun e => by have := (SB.out.lt (Or.inl e)).1; have := HRB.out; omega, fun e => by have := (SB.out.lt (Or.inr e)).1; have := HRB.out; omega⟩
              obtain ⟨T, hT⟩ : ∃ T, nextI g.x = T := ⟨_, rfl⟩
              have HT : Hid (0 ≤ T ∧ (T ≤ 1152921504606846976 → T = g.x.top + 1)) := Lib.hid (by rw [← hT]; exact next_nn SC.out.j.top0)
              have NX := Lib.hid (s_next SC.out.sp)
              rw [hT] at NX
              have fr := BR.out.free 0
              have lr := BR.out.lt
              have q0 := BR.out.cell 0
              clear b3 b4 b5 b6 b7 hrb hbc hT SB BB a0 HOF
              go_wp2_with fail
              refine NX.out.mono ?_
              rintro e wz ⟨rfl, hwz⟩
              subst wz
              have SD0 := Lib.hid (SC.out.setz (j := 0) (v := .int .i64 T) ⟨HOR.out.1, HOR.out.2.1⟩ HOR.out.2.2.1 HOR.out.2.2.2)
              have BD0 : Hid (Box (wc.setCell ⟨rb, 0, none⟩ (.int .i64 T)) rb #[.int .i64 T, .string rh, .string rp, .int .i64 ro, .int .i64 ru] 31) := Lib.hid (BR.out.set 0 (.int .i64 T))
              go_upto_region 22 with fail
              refine code_forget (fun W => Hid (LsS w W d L (32768 + 2 * i) i g RD RL ever sure ea en ec sa sn sc) ∧ Hid (Box W rb #[.int .i64 T, .string rh, .string rp, .int .i64 ro, .int .i64 ru] 31)) ⟨SD0, BD0⟩ ?_
              rintro wn ⟨SD, BD⟩
              clear fr lr q0 BR SD0 BD0 NX SC
              have c0 := BD.out.cell 0
              have c1 := BD.out.cell 1
              have c2 := BD.out.cell 2
              have c3 := BD.out.cell 3
              have c4 := BD.out.cell 4
              have e1 : decide (T < 0) = false := decide_eq_false (by have := HT.out.1; omega)
              by_cases hbig : 1152921504606846976 < T
              · have e2 : decide (T > 1152921504606846976) = true := decide_eq_true hbig
                have e2' : decide (1152921504606846976 < T) = true := decide_eq_true hbig
                have AW := Lib.hid (awake15_at wn SD.out.sp.lg.now)
                go_wp2_with fail
                refine AW.out.mono ?_
                rintro e wy ⟨rfl, hby⟩
                have BF := Lib.hid (SD.out.sp.bl.trans (hby.mono SD.out.sp.bl.size))
                clear AW hby
                go_wp2_with fail
                go_ret
                exact ⟨rfl, BF.out⟩
              · have e2 : decide (T > 1152921504606846976) = false := decide_eq_false hbig
                have e2' : decide (1152921504606846976 < T) = false := decide_eq_false hbig
                have hTT := HT.out.2 (by omega)
                have hT0 := HT.out.1
                have hen := SD.out.e60
                have hsn := SD.out.s60
                obtain ⟨ZS, hZS⟩ : ∃ zs, flatQ ever ++ reqL ⟨1, T, rh, rp, ro, ru⟩ = zs := ⟨_, rfl⟩
                have HZS := Lib.hid hZS
                have OE := Lib.hid SD.out.eo
                have hB3 := SD.out.sp.bl.size
                obtain ⟨X, hX⟩ : ∃ X, putL g ⟨1, T, rh, rp, ro, ru⟩ = X := ⟨_, rfl⟩
                have HX := Lib.hid hX
                have HTT := Lib.hid hTT
                clear hZS hX hTT
                have JP := Lib.hid (SD.out.j.put SD.out.sp.fit (r := ⟨1, T, rh, rp, ro, ru⟩) ⟨by show T < _; omega, by have := (okI_iff HRW.out.ti).2; show ru < _; dsimp only at this; omega⟩ rfl HTT.out)
                rw [HX.out] at JP
                have HXN : Hid (X.1.n = 4) := Lib.hid (by have := (put_most g ⟨1, T, rh, rp, ro, ru⟩).2; rw [HX.out] at this; rw [this]; exact SD.out.n4)
                go_wp2_with (at_builtin; refine wpList_app1 rowQ rfl _ _ rfl w.heap.size ea en ec _ rfl OE.out #[.int .i64 T, .string rh, .string rp, .int .i64 ro, .int .i64 ru] rfl rfl (by simp [Value.oneCell']) (by omega) (by decide) hB3 (en + 1) rfl _ HZS.out ?_; rintro g5 c5 w5 p1 p2 p3 p4; have S5 := Lib.hid (SD.out.everApp (r := ⟨1, T, rh, rp, ro, ru⟩) HZS.out p1 p2 p3 p4); have B5 : Hid (Box w5 rb #[.int .i64 T, .string rh, .string rp, .int .i64 ro, .int .i64 ru] 31) := Lib.hid ((p2.block rb BD.out.lt (fun e => HOR.out.2.2.1 (map_block OE.out e.symm))).trans BD.out); have c0 := B5.out.cell 0; have c1 := B5.out.cell 1; have c2 := B5.out.cell 2; have c3 := B5.out.cell 3; have c4 := B5.out.cell 4; clear p1 p2 p3 p4)
                have PC := Lib.hid (s_put S5.out.sp ⟨1, T, rh, rp, ro, ru⟩ rfl (okI_of (by show _ ≤ T; omega) (by show T ≤ _; omega)) (by omega) (by omega) (by rw [S5.out.n4]; decide) X HX.out)
                unfold reqL at PC
                dsimp only at PC
                clear OE BD HT
                refine PC.out.mono ?_
                rintro e w6 ⟨rfl, ha6⟩
                obtain ⟨R3, R4, h6, hw6, ho6⟩ := S5.out.step ha6 JP.out.1 HXN.out
                have S6 := Lib.hid h6
                have B6 := Lib.hid (B5.out.only ho6 HOR.out.1)
                clear ha6 h6 hw6 ho6 S5 B5 PC c0 c1 c2 c3 c4
                by_cases hz : X.2 = 0
                · have ez : (X.2 == 0) = true := by simp [hz]
                  have HJ := Lib.hid (JP.out.2 hz)
                  obtain ⟨Z2, hZ2⟩ : ∃ zs, flatQ sure ++ reqL ⟨1, T, rh, rp, ro, ru⟩ = zs := ⟨_, rfl⟩
                  have HZ2 := Lib.hid hZ2
                  have OS := Lib.hid S6.out.so
                  have hB4 := S6.out.sp.bl.size
                  have c0 := B6.out.cell 0
                  have c1 := B6.out.cell 1
                  have c2 := B6.out.cell 2
                  have c3 := B6.out.cell 3
                  have c4 := B6.out.cell 4
                  clear hZ2 hz JP
                  go_wp2_with (at_builtin; refine wpList_app1 rowQ rfl _ _ rfl w.heap.size sa sn sc _ rfl OS.out #[.int .i64 T, .string rh, .string rp, .int .i64 ro, .int .i64 ru] rfl rfl (by simp [Value.oneCell']) (by omega) (by decide) hB4 (sn + 1) rfl _ HZ2.out ?_; rintro g7 c7 w7 p1 p2 p3 p4; have S7 := Lib.hid (S6.out.sureApp HJ.out HZ2.out p1 p2 p3 p4 (by omega)); clear p1 p2 p3 p4)
                  go_meet
                  exact ⟨L, X.1, R3, R4, _, _, _, _, _, _, _, _, rfl, rfl, rfl, Lib.hid (S7.out.mono (by omega) (by omega))⟩
                · have ez : (X.2 == 0) = false := by simp [hz]
                  clear hz JP
                  go_wp2_with fail
                  go_meet
                  exact ⟨L, X.1, R3, R4, _, _, _, _, _, _, _, _, rfl, rfl, rfl, Lib.hid (S6.out.mono (by omega) (by omega))⟩
            · have f0 : (xw == 0) = false := beq_eq_false_iff_ne.2 k0
              by_cases k1 : xw = 1
              · subst k1
                have b1 := BB.out.cell 1
                obtain ⟨X, hX⟩ : ∃ X, doneL g xn = X := ⟨_, rfl⟩
                have JD : Hid (JL X.1 ever (sure.filter fun q => decide (q.id ≠ xn)) ∧ X.1.n = 4) := Lib.hid ⟨by rw [← hX]; exact SB.out.j.done SB.out.sp.fit (by have := (okI_iff HNW.out).2; omega) (fun r hr => ⟨(List.mem_filter.1 hr).1, of_decide_eq_true (List.mem_filter.1 hr).2⟩), by have := (done_most g xn).2; rw [hX] at this; rw [this]; exact SB.out.n4⟩
                have PC := Lib.hid (s_done SB.out.sp xn HNW.out (by omega) (by omega) (by rw [SB.out.n4]; decide) X hX)
                clear hX
                go_wp2_with fail
                refine PC.out.mono ?_
                rintro e wc ⟨rfl, ha⟩
                obtain ⟨R3, R4, h5, hw5, ho5⟩ := SB.out.bare.step ha (JD.out.1.wide (fun r hr => hr) (fun r hr => by cases hr)) JD.out.2
                have SE := Lib.hid h5
                have SU : Hid (Own wc w.heap.size 31 5 sa sn sc (flatQ sure)) := Lib.hid (SB.out.so.only ho5 (fun z hz => SB.out.off z (Or.inr hz)))
                have HSL : Hid (sure.length = sn) := Lib.hid SB.out.sl
                have hs60 := SB.out.s60
                have BC := Lib.hid (BB.out.only ho5 HOF.out.1)
                have HSO : Hid (∀ z, sa = some ⟨z, 0, none⟩ → z < wc.heap.size ∧ z ≠ ab) := Lib.hid (fun z hz => ⟨by have h9 := SU.out; rw [hz] at h9; exact h9.lt.2, fun e => HOF.out.2.2.2 (by rw [hz, e])⟩)
                have HAL := Lib.hid BC.out.lt
                clear ha h5 hw5 ho5 PC SB BB b1 a0
                go_upto_region 30 with fail
                refine code_forget (fun W => Hid (LsS w W d L (32768 + 2 * i) i X.1 R3 R4 ever [] ea en ec (some ⟨wc.heap.size, 0, none⟩) 0 0) ∧ Hid (RqAt W sa sure) ∧ Hid (Box W ab #[.int .i64 1, .int .i64 xn, .int .i64 xm, .int .i64 ri, .string rh, .string rp, .int .i64 ro, .int .i64 ru, .string xh] 33) ∧ Hid (Below wc.heap.size wc W)) ⟨Lib.hid SE.out.fresh, Lib.hid (rqAt_own (SU.out.alloc _) HSL.out), Lib.hid (BC.out.alloc _), Lib.hid ((Below.refl wc.heap.size wc).alloc (Nat.le_refl _) _)⟩ ?_
                obtain ⟨nb, hnb⟩ : ∃ p, wc.heap.size = p := ⟨_, rfl⟩
                have HNB := Lib.hid hnb
                rw [hnb]
                rintro wd ⟨SF, SV, BD, hbd⟩
                have HSO2 : Hid (∀ z, sa = some ⟨z, 0, none⟩ → z < wd.heap.size) := Lib.hid (fun z hz => Nat.lt_of_lt_of_le (HSO.out z hz).1 hbd.out.size)
                have HRA : Hid (∀ z, (some ⟨nb, 0, none⟩ : Option Addr) = some ⟨z, 0, none⟩ → z ≠ ab ∧ sa ≠ some ⟨z, 0, none⟩) := Lib.hid (fun z hz => by
                  injection hz with hz
                  injection hz with hz
                  subst hz
                  have h8 := HAL.out
                  have h9 := HNB.out
                  exact ⟨by omega, fun e => by have := (HSO.out _ e).1; omega⟩)
                clear SE SU BC HAL hnb hbd
                go_wp2_with fail
                go_loopw [13, 14] (fun v13 v14 wr => ∃ (k rn rc : Nat) (ra : Option Addr), k ≤ sn ∧ v13 = .slice ra rn rc ∧ v14 = .int .i64 (k : Int) ∧ Hid (LsS w wr d L (32768 + 2 * i) i X.1 R3 R4 ever ((sure.take k).filter fun q => decide (q.id ≠ xn)) ea en ec ra rn rc) ∧ Hid (RqAt wr sa sure) ∧ Hid (Box wr ab #[.int .i64 1, .int .i64 xn, .int .i64 xm, .int .i64 ri, .string rh, .string rp, .int .i64 ro, .int .i64 ru, .string xh] 33) ∧ Hid (∀ z, ra = some ⟨z, 0, none⟩ → z ≠ ab ∧ sa ≠ some ⟨z, 0, none⟩) ∧ Hid (∀ z, sa = some ⟨z, 0, none⟩ → z < wr.heap.size)) (fun _ v _ => sn - (vI v).toNat)
                case atStart => exact ⟨0, 0, 0, _, by omega, rfl, rfl, SF, SV, BD, HRA, HSO2⟩
                case round =>
                  obtain ⟨k, rn, rc, ra, hk, rfl, rfl, HK, HR, HB, HA2, HS2⟩ := hrel
                  clear SF SV BD HRA HSO2
                  by_cases hlt : k < sn
                  · have hkd : decide ((k : Int) < (sn : Int)) = true := decide_eq_true (by omega)
                    obtain ⟨z, hz⟩ : ∃ z, sure[k]? = some z := ⟨_, List.getElem?_eq_getElem (by rw [HSL.out]; exact hlt)⟩
                    have HTK : Hid (sure.take (k + 1) = sure.take k ++ [z]) := Lib.hid (by rw [List.take_add_one, hz]; rfl)
                    obtain ⟨gz, rfl, m⟩ := HR.out k z hz
                    have m0 := m 0 _ rfl
                    have m1 := m 1 _ rfl
                    have m2 := m 2 _ rfl
                    have m3 := m 3 _ rfl
                    have m4 := m 4 _ rfl
                    simp only [Nat.add_zero] at m0
                    have b1 := HB.out.cell 1
                    have hx0 : (0 : Int) ≤ (k : Int) := by omega
                    have hx1' : (k : Int) < (sn : Int) := by omega
                    have HZ := Lib.hid hz
                    clear m hz
                    by_cases hne : z.id = xn
                    · have en1 : (z.id != xn) = false := by simp [hne]
                      have NF : Hid ((sure.take (k + 1)).filter (fun q => decide (q.id ≠ xn)) = (sure.take k).filter (fun q => decide (q.id ≠ xn))) := Lib.hid (by rw [HTK.out, List.filter_append]; simp [hne])
                      clear hne
                      go_upto_region 33 with fail
                      go_quiet (fail)
                      have hbn : Below wr.heap.size wr (wr.drewN nq) := bin_drewN (Below.refl _ _) nq
                      have K8 := Lib.hid (HK.out.later hbn)
                      rw [← NF.out] at K8
                      have R8 := Lib.hid (HR.out.later hbn)
                      have B8 := Lib.hid (HB.out.later hbn)
                      have S8 : Hid (∀ z, (some ⟨gz, 0, none⟩ : Option Addr) = some ⟨z, 0, none⟩ → z < (wr.drewN nq).heap.size) := Lib.hid (fun z hz => Nat.lt_of_lt_of_le (HS2.out z hz) hbn.size)
                      clear hbn HK HR HB HS2 m0 m1 m2 m3 m4 b1
                      go_wp2
                      go_roundw
                      case rel => exact ⟨k + 1, rn, rc, ra, by omega, rfl, by go_num, K8, R8, B8, HA2, S8⟩
                      case measure => exact cra_ms sn k hlt
                    · have en1 : (z.id != xn) = true := by simp [hne]
                      have NF : Hid ((sure.take (k + 1)).filter (fun q => decide (q.id ≠ xn)) = (sure.take k).filter (fun q => decide (q.id ≠ xn)) ++ [z]) := Lib.hid (by rw [HTK.out, List.filter_append]; simp [hne])
                      have JZ : Hid (JL X.1 ever ((sure.take k).filter (fun q => decide (q.id ≠ xn)) ++ [z])) := Lib.hid (JD.out.1.wide (fun r hr => hr) (fun r hr => by
                        rw [← NF.out] at hr
                        have h9 := List.mem_filter.1 hr
                        exact List.mem_filter.2 ⟨List.mem_of_mem_take h9.1, h9.2⟩))
                      clear hne
                      go_upto_region 33 with fail
                      go_quiet (fail)
                      have hbn : Below wr.heap.size wr (wr.drewN nq) := bin_drewN (Below.refl _ _) nq
                      obtain ⟨wn, hwn⟩ : ∃ W, wr.drewN nq = W := ⟨_, rfl⟩
                      rw [hwn] at hbn ⊢
                      have K8 := Lib.hid (HK.out.later hbn)
                      have R8 := Lib.hid (HR.out.later hbn)
                      have B8 := Lib.hid (HB.out.later hbn)
                      have S8 : Hid (∀ z, (some ⟨gz, 0, none⟩ : Option Addr) = some ⟨z, 0, none⟩ → z < wn.heap.size) := Lib.hid (fun z hz => Nat.lt_of_lt_of_le (HS2.out z hz) hbn.size)
                      have n0 := (hbn.cell (World.block_lt_of_cell? _ _ m0)).trans m0
                      have n1 := (hbn.cell (World.block_lt_of_cell? _ _ m1)).trans m1
                      have n2 := (hbn.cell (World.block_lt_of_cell? _ _ m2)).trans m2
                      have n3 := (hbn.cell (World.block_lt_of_cell? _ _ m3)).trans m3
                      have n4 := (hbn.cell (World.block_lt_of_cell? _ _ m4)).trans m4
                      obtain ⟨Z2, hZ2⟩ : ∃ zs, flatQ ((sure.take k).filter fun q => decide (q.id ≠ xn)) ++ reqL z = zs := ⟨_, rfl⟩
                      have HZ2 := Lib.hid hZ2
                      have OS := Lib.hid K8.out.so
                      have hB4 := K8.out.sp.bl.size
                      have hrn : rn + 1 ≤ i := by
                        have h9 := K8.out.sl
                        have h8 := List.length_filter_le (fun q : Rc => decide (q.id ≠ xn)) (sure.take k)
                        rw [List.length_take] at h8
                        omega
                      clear hbn HK HR HB HS2 m0 m1 m2 m3 m4 b1 hwn hZ2
                      go_wp2_with (at_builtin; refine wpList_app1 rowQ rfl _ _ rfl w.heap.size ra rn rc _ rfl OS.out #[.int .i64 z.id, .string z.host, .string z.path, .int .i64 z.prio, .int .i64 z.till] rfl rfl (by simp [Value.oneCell']) (by omega) (by decide) hB4 (rn + 1) rfl _ HZ2.out ?_; rintro g7 c7 w7 p1 p2 p3 p4; have S7 := Lib.hid (K8.out.sureApp JZ.out HZ2.out p1 p2 p3 p4 hrn); have R7 := Lib.hid (RqAt.blocks R8.out (w' := w7) (fun z hz => p2.block z (S8.out z hz) (fun e => (HA2.out z (map_block OS.out e.symm)).2 hz))); have B7 : Hid (Box w7 ab #[.int .i64 1, .int .i64 xn, .int .i64 xm, .int .i64 ri, .string rh, .string rp, .int .i64 ro, .int .i64 ru, .string xh] 33) := Lib.hid ((p2.block ab B8.out.lt (fun e => (HA2.out ab (map_block OS.out e.symm)).1 rfl)).trans B8.out); have A7 : Hid (∀ z, (some ⟨g7, 0, none⟩ : Option Addr) = some ⟨z, 0, none⟩ → z ≠ ab ∧ (some ⟨gz, 0, none⟩ : Option Addr) ≠ some ⟨z, 0, none⟩) := Lib.hid (new_apart p4 OS.out (fun z hz => HA2.out z hz) B8.out.lt (fun z hz => S8.out z hz)); have L7 : Hid (∀ z, (some ⟨gz, 0, none⟩ : Option Addr) = some ⟨z, 0, none⟩ → z < w7.heap.size) := Lib.hid (fun z hz => Nat.lt_of_lt_of_le (S8.out z hz) p2.size); clear p1 p2 p3 p4)
                      rw [← NF.out] at S7
                      clear K8 R8 B8 S8 OS HA2
                      go_roundw
                      case rel => exact ⟨k + 1, rn + 1, _, _, by omega, rfl, by go_num, S7, R7, B7, A7, L7⟩
                      case measure => exact cra_ms sn k hlt
                  · have hkd : decide ((k : Int) < (sn : Int)) = false := decide_eq_false (by omega)
                    have NF := Lib.hid (HK.out.mono (M := 32768 + 2 * (i + 1)) (c' := i + 1) (by omega) (by omega))
                    clear HK HR HB HA2 HS2
                    go_wp2_with fail
                    go_meet
                    exact ⟨L, X.1, R3, R4, ever, _, ea, en, ec, ra, rn, rc, rfl, rfl, rfl, NF⟩
              · have f1 : (xw == 1) = false := beq_eq_false_iff_ne.2 k1
                by_cases k2 : xw = 2
                · subst k2
                  have b1 := BB.out.cell 1
                  have b8 := BB.out.cell 8
                  obtain ⟨X, hX⟩ : ∃ X, waitL g xh xn = X := ⟨_, rfl⟩
                  have JW : Hid (JL X.1 ever sure ∧ X.1.n = 4) := Lib.hid ⟨by rw [← hX]; exact SB.out.j.wait SB.out.sp.fit (by have := (okI_iff HNW.out).2; omega), by have := (wait_most g xh xn).2; rw [hX] at this; rw [this]; exact SB.out.n4⟩
                  have PC := Lib.hid (s_wait SB.out.sp xh xn HNW.out (by omega) (by omega) (by rw [SB.out.n4]; decide) X hX)
                  clear hX
                  go_wp2_with fail
                  refine PC.out.mono ?_
                  rintro e w5 ⟨rfl, ha⟩
                  obtain ⟨R3, R4, h5, _, _⟩ := SB.out.step ha JW.out.1 JW.out.2
                  have NF := Lib.hid (h5.mono (M := 32768 + 2 * (i + 1)) (c' := i + 1) (by omega) (by omega))
                  clear ha h5 PC SB BB b1 b8
                  go_wp2_with fail
                  go_meet
                  exact ⟨L, X.1, R3, R4, ever, sure, ea, en, ec, sa, sn, sc, rfl, rfl, rfl, NF⟩
                · have f2 : (xw == 2) = false := beq_eq_false_iff_ne.2 k2
                  by_cases k3 : xw = 3
                  · subst k3
                    obtain ⟨X, hX⟩ : ∃ X, compactL g = X := ⟨_, rfl⟩
                    have JW : Hid (JL X.1 ever sure ∧ X.1.n = 4) := Lib.hid ⟨by rw [← hX]; exact (SB.out.j.compact SB.out.sp.fit).1, by have := (compact_most g).2; rw [hX] at this; rw [this]; exact SB.out.n4⟩
                    have PC := Lib.hid (s_compact SB.out.sp (by omega) (by omega) (by rw [SB.out.n4]; decide) X hX)
                    clear hX
                    go_wp2_with fail
                    refine PC.out.mono ?_
                    rintro e w5 ⟨rfl, ha⟩
                    obtain ⟨R3, R4, h5, _, _⟩ := SB.out.step ha JW.out.1 JW.out.2
                    have NF := Lib.hid (h5.mono (M := 32768 + 2 * (i + 1)) (c' := i + 1) (by omega) (by omega))
                    clear ha h5 PC SB BB
                    go_wp2_with fail
                    go_meet
                    exact ⟨L, X.1, R3, R4, ever, sure, ea, en, ec, sa, sn, sc, rfl, rfl, rfl, NF⟩
                  · have f3 : (xw == 3) = false := beq_eq_false_iff_ne.2 k3
                    by_cases k4 : xw = 4
                    · subst k4
                      have b1 := BB.out.cell 1
                      have b2 := BB.out.cell 2
                      have JW : Hid (JL ⟨faultD g.D xn xm, g.n, g.x⟩ ever sure) := Lib.hid (SB.out.j.cong rfl (Or.inl rfl) (fun _ => rfl) (Int.le_refl _))
                      have PC := Lib.hid (s_fault SB.out.sp xn xm (okI_iff HNW.out).2 (okI_iff HMW.out).2)
                      go_wp2_with fail
                      refine PC.out.mono ?_
                      rintro e w5 ⟨rfl, ha⟩
                      obtain ⟨R3, R4, h5, _, _⟩ := SB.out.step ha JW.out SB.out.n4
                      have NF := Lib.hid (h5.mono (M := 32768 + 2 * (i + 1)) (c' := i + 1) (by omega) (by omega))
                      clear ha h5 PC SB BB b1 b2
                      go_wp2_with fail
                      go_meet
                      exact ⟨L, _, R3, R4, ever, sure, ea, en, ec, sa, sn, sc, rfl, rfl, rfl, NF⟩
                    · have f4 : (xw == 4) = false := beq_eq_false_iff_ne.2 k4
                      by_cases k5 : xw = 5
                      · subst k5
                        have b1 := BB.out.cell 1
                        have PC := Lib.hid (s_crash SB.out.sp xn (okI_iff HNW.out).1 (okI_iff HNW.out).2)
                        go_wp2_with fail
                        refine PC.out.mono ?_
                        rintro e w5 ⟨rfl, R3, R4, hs5, hw5, ho5⟩
                        have S5 := Lib.hid hs5
                        have OPN := Lib.hid (s_open S5.out.disk 4)
                        dsimp only at OPN
                        clear hs5 PC
                        go_wp2_with fail
                        refine OPN.out.mono ?_
                        rintro e w7 ⟨L2, RL2, rfl, hs7, hb7, hg7⟩
                        have NF := Lib.hid ((SB.out.crashed hw5 ho5 hs7 hb7 hg7 (SB.out.j.crash_ xn 4) rfl).mono (M := 32768 + 2 * (i + 1)) (c' := i + 1) (by omega) (by omega))
                        clear hs7 hb7 hg7 hw5 ho5 OPN S5 SB BB b1
                        go_wp2_with fail
                        go_meet
                        exact ⟨L2, _, R3, RL2, ever, sure, ea, en, ec, sa, sn, sc, rfl, rfl, rfl, NF⟩
                      · have f5 : (xw == 5) = false := beq_eq_false_iff_ne.2 k5
                        have OPN := Lib.hid (s_open SB.out.sp.disk 4)
                        go_wp2_with fail
                        refine OPN.out.mono ?_
                        rintro e w7 ⟨L2, RL2, rfl, hs7, hb7, hg7⟩
                        have NF := Lib.hid ((SB.out.opened hs7 hb7 hg7 (SB.out.j.open_ 4) rfl).mono (M := 32768 + 2 * (i + 1)) (c' := i + 1) (by omega) (by omega))
                        clear hs7 hb7 hg7 OPN SB BB
                        go_wp2_with fail
                        go_meet
                        exact ⟨L2, _, RD, RL2, ever, sure, ea, en, ec, sa, sn, sc, rfl, rfl, rfl, NF⟩
          case rest => as_aux_lemma =>
            obtain ⟨L, g, RD, RL, ever, sure, ea, en, ec, sa, sn, sc, rfl, rfl, rfl, HL⟩ := hcut
            clear SB BB HOF HRW HNW HMW a0
            obtain ⟨KK, hKK⟩ : ∃ KK, 32768 + 2 * (i + 1) = KK := ⟨_, rfl⟩
            obtain ⟨CC, hCC⟩ : ∃ CC, i + 1 = CC := ⟨_, rfl⟩
            rw [hKK, hCC] at HL
            have hs60 := HL.out.s60
            obtain ⟨P, hP⟩ : ∃ P, pendL g = P := ⟨_, rfl⟩
            obtain ⟨M, hM⟩ : ∃ M, P.length = M := ⟨_, rfl⟩
            have hM2 : M ≤ 999999 := by
              rw [← hM, ← hP]
              unfold pendL
              have h1 := List.length_filterMap_le (loadL g) (srtI (g.x.puts.map Prod.fst))
              rw [srtI_len, List.length_map] at h1
              have := HL.out.sp.few.1
              omega
            have HM := Lib.hid hM
            obtain ⟨f1, f2, f3⟩ := HL.out.j.pend HL.out.sp.nd
            rw [hP] at f1 f2 f3
            have HPS := Lib.hid f1
            have HPE := Lib.hid f2
            have HPO := Lib.hid f3
            have P1 := Lib.hid (s_pend HL.out.sp (by omega) P hP M hM)
            clear f1 f2 f3 hP hM
            go_wp2_with fail
            refine P1.out.mono ?_
            rintro e w6 ⟨pa, pc, rfl, ho, _, hb6⟩
            have HPA := Lib.hid (rqAt_own ho HM.out)
            have HL1 := HL
            clear HL
            have HL := Lib.hid (HL1.out.later hb6)
            clear ho hb6 HL1 P1
            go_upto_block 5 with fail
            go_cut [] (fun wx => Hid (LsS w wx d L KK CC g RD RL ever sure ea en ec sa sn sc) ∧ Hid (RqAt wx pa P))
            case first =>
              go_wp2_with fail
              go_loopw [18] (fun v wr => ∃ k : Nat, k ≤ sn ∧ v = .int .i64 (k : Int) ∧ Hid (LsS w wr d L KK CC g RD RL ever sure ea en ec sa sn sc) ∧ Hid (RqAt wr pa P)) (fun v _ => sn - (vI v).toNat)
              case atStart => exact ⟨0, by omega, rfl, HL, HPA⟩
              case round =>
                obtain ⟨k, hk, rfl, HK, HP⟩ := hrel
                by_cases hlt : k < sn
                · have hkd : decide ((k : Int) < (sn : Int)) = true := decide_eq_true (by omega)
                  obtain ⟨z, hz⟩ : ∃ z, sure[k]? = some z := ⟨_, List.getElem?_eq_getElem (by rw [HK.out.sl]; exact hlt)⟩
                  obtain ⟨gz, rfl, m⟩ := HK.out.sure_at k z hz
                  have HZM : Hid (z ∈ P) := Lib.hid (HPS.out z (List.mem_of_getElem? hz))
                  have m0 := m 0 _ rfl
                  have m1 := m 1 _ rfl
                  have m2 := m 2 _ rfl
                  have m3 := m 3 _ rfl
                  have m4 := m 4 _ rfl
                  simp only [Nat.add_zero] at m0
                  have hx0 : (0 : Int) ≤ (k : Int) := by omega
                  have hx1 : (k : Int) < (sn : Int) := by omega
                  have IN := Lib.hid (in_at P M HM.out hM2 pa pc z wr HP.out HZM.out)
                  clear m hz
                  go_wp2_with fail
                  refine IN.out.mono ?_
                  rintro e w8 ⟨rfl, hb8⟩
                  have K8 := Lib.hid (HK.out.later hb8)
                  have P8 := Lib.hid (HP.out.later hb8)
                  clear IN hb8 HK HP m0 m1 m2 m3 m4
                  go_wp2_with fail
                  go_roundw
                  case rel => exact ⟨k + 1, by omega, by go_num, K8, P8⟩
                  case measure => exact cra_ms sn k hlt
                · have hkd : decide ((k : Int) < (sn : Int)) = false := decide_eq_false (by omega)
                  go_wp2_with fail
                  go_meet
                  exact ⟨HK, HP⟩
            rename_i wl1
            obtain ⟨HL, HPA⟩ := hcut
            go_wp2_with fail
            go_loopw [19] (fun v wr => ∃ k : Nat, k ≤ M ∧ v = .int .i64 (k : Int) ∧ Hid (LsS w wr d L KK CC g RD RL ever sure ea en ec sa sn sc) ∧ Hid (RqAt wr pa P)) (fun v _ => M - (vI v).toNat)
            case atStart => exact ⟨0, by omega, rfl, HL, HPA⟩
            case round =>
              obtain ⟨k, hk, rfl, HK, HP⟩ := hrel
              by_cases hlt : k < M
              · have hkd : decide ((k : Int) < (M : Int)) = true := decide_eq_true (by omega)
                obtain ⟨z, hz⟩ : ∃ z, P[k]? = some z := ⟨_, List.getElem?_eq_getElem (by rw [HM.out]; exact hlt)⟩
                have HPk := Lib.hid HP.out
                obtain ⟨gz, rfl, m⟩ := HP.out k z hz
                have HZM : Hid (z ∈ ever) := Lib.hid (HPE.out z (List.mem_of_getElem? hz))
                have m0 := m 0 _ rfl
                have m1 := m 1 _ rfl
                have m2 := m 2 _ rfl
                have m3 := m 3 _ rfl
                have m4 := m 4 _ rfl
                simp only [Nat.add_zero] at m0
                have hx0 : (0 : Int) ≤ (k : Int) := by omega
                have hx1 : (k : Int) < (M : Int) := by omega

                have HRD : Hid (∀ W, RqAt W (some ⟨gz, 0, none⟩) P → W.cell? ⟨gz, k * 5, none⟩ = some (.int .i64 z.id) ∧ W.cell? ⟨gz, k * 5 + 1, none⟩ = some (.string z.host) ∧ W.cell? ⟨gz, k * 5 + 2, none⟩ = some (.string z.path) ∧ W.cell? ⟨gz, k * 5 + 3, none⟩ = some (.int .i64 z.prio) ∧ W.cell? ⟨gz, k * 5 + 4, none⟩ = some (.int .i64 z.till)) := Lib.hid (fun W hW => by
                  obtain ⟨g9, hg9, m9⟩ := hW k z hz
                  injection hg9 with hg9
                  injection hg9 with hg9
                  subst hg9
                  exact ⟨m9 0 _ rfl, m9 1 _ rfl, m9 2 _ rfl, m9 3 _ rfl, m9 4 _ rfl⟩)
                clear m m0 m1 m2 m3 m4
                by_cases hk0 : k = 0
                · subst hk0
                  have d0 : decide (((0 : Nat) : Int) > 0) = false := rfl
                  have d0' : decide ((0 : Int) > 0) = false := rfl
                  clear hz
                  go_upto_region 51 with fail
                  refine wp_region_last 24 (fun w' => Hid (LsS w w' d L KK CC g RD RL ever sure ea en ec sa sn sc) ∧ Hid (RqAt w' (some ⟨gz, 0, none⟩) P)) (by kernel_rfl) (⟨Lib.hid (HK.out.later (Below.refl _ _).drew), Lib.hid (HP.out.later (Below.refl _ _).drew)⟩) (fun hHeld hClosed => ?_)
                  refine wpAnyL_takeP (i := 0) (v := ?_) rfl (by kernel_rfl) (by kernel_rfl) (by kernel_rfl) (by kernel_rfl) (fun _ _ _ h => h) (by kernel_rfl) hClosed (Or.inl ⟨by rfl, ?_⟩) hHeld (fun hClosed => ?_)
                  rotate_left
                  · intro wv hSw; go_simp; all_goals (with_reducible rfl)
                  (try simp only [List.getElem_toArray, List.getElem_cons_zero, put_at, List.set])
                  refine wpAnyL_takeP (i := 1) (v := ?_) rfl (by kernel_rfl) (by kernel_rfl) (by kernel_rfl) (by kernel_rfl) (fun _ _ _ h => h) (by kernel_rfl) hClosed (Or.inl ⟨by rfl, ?_⟩) hHeld (fun hClosed => ?_)
                  rotate_left
                  · intro wv hSw; go_simp; all_goals (with_reducible rfl)
                  (try simp only [List.getElem_toArray, List.getElem_cons_succ, List.getElem_cons_zero, put_at, List.set])
                  refine wpAnyL_one (i := 2) rfl (by kernel_rfl) (by kernel_rfl) hClosed (fun KK hK => ?_)
                  go_simp
                  refine hK.out _ _ ?_ (fun hClosed hHeld => ?_)
                  · exact hHeld
                  clear hK KK
                  (first | simp only [List.getElem_toArray, List.getElem_cons_succ, List.getElem_cons_zero, put_at, List.set] | (try simp only [put_at, List.set]))
                  refine wpAnyL_one (i := 3) rfl (by kernel_rfl) (by kernel_rfl) hClosed (fun KK hK => ?_)
                  go_simp
                  refine hK.out _ _ ?_ (fun hClosed hHeld => ?_)
                  · exact hHeld
                  clear hK KK
                  (first | simp only [List.getElem_toArray, List.getElem_cons_succ, List.getElem_cons_zero, put_at, List.set] | (try simp only [put_at, List.set]))
                  refine wpAnyL_one (i := 4) rfl (by kernel_rfl) (by kernel_rfl) hClosed (fun KK hK => ?_)
                  have r0 := (HRD.out _ hHeld.2.out).1
                  have r1 := (HRD.out _ hHeld.2.out).2.1
                  have r2 := (HRD.out _ hHeld.2.out).2.2.1
                  have r3 := (HRD.out _ hHeld.2.out).2.2.2.1
                  have r4 := (HRD.out _ hHeld.2.out).2.2.2.2
                  go_simp
                  refine hK.out _ _ ?_ (fun hClosed hHeld => ?_)
                  · exact hHeld
                  clear hK KK
                  (first | simp only [List.getElem_toArray, List.getElem_cons_succ, List.getElem_cons_zero, put_at, List.set] | (try simp only [put_at, List.set]))
                  refine wpAnyL_one (i := 5) rfl (by kernel_rfl) (by kernel_rfl) hClosed (fun KK hK => ?_)
                  go_simp
                  refine (in_at ever en hHeld.1.out.el (by have := hHeld.1.out.e60; omega) ea ec z _ hHeld.1.out.ever_at HZM.out).mono ?_
                  rintro e wx ⟨rfl, hwx⟩
                  go_wp2_with fail
                  refine hK.out _ _ ?_ (fun hClosed hHeld => ?_)
                  · exact ⟨Lib.hid (hHeld.1.out.later hwx), Lib.hid (hHeld.2.out.later hwx)⟩
                  clear hK KK
                  (first | simp only [List.getElem_toArray, List.getElem_cons_succ, List.getElem_cons_zero, put_at, List.set] | (try simp only [put_at, List.set]))
                  refine wpAnyL_one (i := 6) rfl (by kernel_rfl) (by kernel_rfl) hClosed (fun KK hK => ?_)
                  go_simp
                  refine hK.out _ _ ?_ (fun hClosed hHeld => ?_)
                  · exact hHeld
                  clear hK KK
                  (first | simp only [List.getElem_toArray, List.getElem_cons_succ, List.getElem_cons_zero, put_at, List.set] | (try simp only [put_at, List.set]))
                  refine wpAnyL_one (i := 7) rfl (by kernel_rfl) (by kernel_rfl) hClosed (fun KK hK => ?_)
                  go_simp
                  refine hK.out _ _ ?_ (fun hClosed hHeld => ?_)
                  · exact hHeld
                  clear hK KK
                  (first | simp only [List.getElem_toArray, List.getElem_cons_succ, List.getElem_cons_zero, put_at, List.set] | (try simp only [put_at, List.set]))
                  refine wpAnyL_one (i := 8) rfl (by kernel_rfl) (by kernel_rfl) hClosed (fun KK hK => ?_)
                  go_simp
                  refine hK.out _ _ ?_ (fun hClosed hHeld => ?_)
                  · exact hHeld
                  clear hK KK
                  (first | simp only [List.getElem_toArray, List.getElem_cons_succ, List.getElem_cons_zero, put_at, List.set] | (try simp only [put_at, List.set]))
                  refine wpAnyL_one (i := 9) rfl (by kernel_rfl) (by kernel_rfl) hClosed (fun KK hK => ?_)
                  go_simp
                  refine hK.out _ _ ?_ (fun hClosed hHeld => ?_)
                  · exact hHeld
                  clear hK KK
                  (first | simp only [List.getElem_toArray, List.getElem_cons_succ, List.getElem_cons_zero, put_at, List.set] | (try simp only [put_at, List.set]))
                  refine wpAnyL_one (i := 10) rfl (by kernel_rfl) (by kernel_rfl) hClosed (fun KK hK => ?_)
                  go_simp
                  refine hK.out _ _ ?_ (fun hClosed hHeld => ?_)
                  · exact hHeld
                  clear hK KK
                  (first | simp only [List.getElem_toArray, List.getElem_cons_succ, List.getElem_cons_zero, put_at, List.set] | (try simp only [put_at, List.set]))
                  refine wpAnyL_takeP (i := 11) (v := undef) rfl (by kernel_rfl) (by kernel_rfl) (by kernel_rfl) (by kernel_rfl) (fun _ _ _ h => h) (by kernel_rfl) hClosed (Or.inr ⟨by rfl, rfl⟩) hHeld (fun hClosed => ?_)
                  (try simp only [List.getElem_toArray, List.getElem_cons_succ, List.getElem_cons_zero, put_at, List.set])
                  refine wpAnyL_takeP (i := 12) (v := undef) rfl (by kernel_rfl) (by kernel_rfl) (by kernel_rfl) (by kernel_rfl) (fun _ _ _ h => h) (by kernel_rfl) hClosed (Or.inr ⟨by rfl, rfl⟩) hHeld (fun hClosed => ?_)
                  (try simp only [List.getElem_toArray, List.getElem_cons_succ, List.getElem_cons_zero, put_at, List.set])
                  refine wpAnyL_takeP (i := 13) (v := undef) rfl (by kernel_rfl) (by kernel_rfl) (by kernel_rfl) (by kernel_rfl) (fun _ _ _ h => h) (by kernel_rfl) hClosed (Or.inr ⟨by rfl, rfl⟩) hHeld (fun hClosed => ?_)
                  (try simp only [List.getElem_toArray, List.getElem_cons_succ, List.getElem_cons_zero, put_at, List.set])
                  refine wpAnyL_takeP (i := 14) (v := undef) rfl (by kernel_rfl) (by kernel_rfl) (by kernel_rfl) (by kernel_rfl) (fun _ _ _ h => h) (by kernel_rfl) hClosed (Or.inr ⟨by rfl, rfl⟩) hHeld (fun hClosed => ?_)
                  (try simp only [List.getElem_toArray, List.getElem_cons_succ, List.getElem_cons_zero, put_at, List.set])
                  refine wpAnyL_takeP (i := 15) (v := undef) rfl (by kernel_rfl) (by kernel_rfl) (by kernel_rfl) (by kernel_rfl) (fun _ _ _ h => h) (by kernel_rfl) hClosed (Or.inr ⟨by rfl, rfl⟩) hHeld (fun hClosed => ?_)
                  (try simp only [List.getElem_toArray, List.getElem_cons_succ, List.getElem_cons_zero, put_at, List.set])
                  refine wpAnyL_takeP (i := 16) (v := undef) rfl (by kernel_rfl) (by kernel_rfl) (by kernel_rfl) (by kernel_rfl) (fun _ _ _ h => h) (by kernel_rfl) hClosed (Or.inr ⟨by rfl, rfl⟩) hHeld (fun hClosed => ?_)
                  (try simp only [List.getElem_toArray, List.getElem_cons_succ, List.getElem_cons_zero, put_at, List.set])
                  refine wpAnyL_takeP (i := 17) (v := undef) rfl (by kernel_rfl) (by kernel_rfl) (by kernel_rfl) (by kernel_rfl) (fun _ _ _ h => h) (by kernel_rfl) hClosed (Or.inr ⟨by rfl, rfl⟩) hHeld (fun hClosed => ?_)
                  (try simp only [List.getElem_toArray, List.getElem_cons_succ, List.getElem_cons_zero, put_at, List.set])
                  refine wpAnyL_takeP (i := 18) (v := undef) rfl (by kernel_rfl) (by kernel_rfl) (by kernel_rfl) (by kernel_rfl) (fun _ _ _ h => h) (by kernel_rfl) hClosed (Or.inr ⟨by rfl, rfl⟩) hHeld (fun hClosed => ?_)
                  (try simp only [List.getElem_toArray, List.getElem_cons_succ, List.getElem_cons_zero, put_at, List.set])
                  refine wpAnyL_takeP (i := 19) (v := undef) rfl (by kernel_rfl) (by kernel_rfl) (by kernel_rfl) (by kernel_rfl) (fun _ _ _ h => h) (by kernel_rfl) hClosed (Or.inr ⟨by rfl, rfl⟩) hHeld (fun hClosed => ?_)
                  (try simp only [List.getElem_toArray, List.getElem_cons_succ, List.getElem_cons_zero, put_at, List.set])
                  refine wpAnyL_takeP (i := 20) (v := undef) rfl (by kernel_rfl) (by kernel_rfl) (by kernel_rfl) (by kernel_rfl) (fun _ _ _ h => h) (by kernel_rfl) hClosed (Or.inr ⟨by rfl, rfl⟩) hHeld (fun hClosed => ?_)
                  (try simp only [List.getElem_toArray, List.getElem_cons_succ, List.getElem_cons_zero, put_at, List.set])
                  refine wpAnyL_takeP (i := 21) (v := undef) rfl (by kernel_rfl) (by kernel_rfl) (by kernel_rfl) (by kernel_rfl) (fun _ _ _ h => h) (by kernel_rfl) hClosed (Or.inr ⟨by rfl, rfl⟩) hHeld (fun hClosed => ?_)
                  (try simp only [List.getElem_toArray, List.getElem_cons_succ, List.getElem_cons_zero, put_at, List.set])
                  refine wpAnyL_takeP (i := 22) (v := undef) rfl (by kernel_rfl) (by kernel_rfl) (by kernel_rfl) (by kernel_rfl) (fun _ _ _ h => h) (by kernel_rfl) hClosed (Or.inr ⟨by rfl, rfl⟩) hHeld (fun hClosed => ?_)
                  (try simp only [List.getElem_toArray, List.getElem_cons_succ, List.getElem_cons_zero, put_at, List.set])
                  refine wpAnyL_one (i := 23) rfl (by kernel_rfl) (by kernel_rfl) hClosed (fun KK hK => ?_)
                  go_simp
                  refine hK.out _ _ ?_ (fun hClosed hHeld => ?_)
                  · exact hHeld
                  clear hK KK
                  (first | simp only [List.getElem_toArray, List.getElem_cons_succ, List.getElem_cons_zero, put_at, List.set] | (try simp only [put_at, List.set]))
                  refine wpAnyL_last rfl (by kernel_rfl) (by kernel_rfl) (fun KK hK => ?_)
                  go_simp
                  refine hK.out _ _ ?_
                  (try simp only [put_at, List.set])
                  have K8 := hHeld.1
                  have P8 := hHeld.2
                  clear hHeld hClosed
                  go_wp2_with fail
                  go_roundw
                  case rel => exact ⟨0 + 1, by omega, by go_num, K8, P8⟩
                  case measure => exact cra_ms M 0 hlt
                · obtain ⟨k1, rfl⟩ : ∃ k1, k = k1 + 1 := ⟨k - 1, by omega⟩
                  obtain ⟨y, hy⟩ : ∃ y, P[k1]? = some y := ⟨_, List.getElem?_eq_getElem (by rw [HM.out]; omega)⟩
                  have hyz : y.id < z.id := by
                    have hlz : k1 + 1 < P.length := by rw [HM.out]; exact hlt
                    have h9 := List.pairwise_iff_getElem.1 HPO.out k1 (k1 + 1) (by omega) hlz (by omega)
                    rw [(List.getElem?_eq_some_iff.1 hy).2, (List.getElem?_eq_some_iff.1 hz).2] at h9
                    exact h9
                  have HYD : Hid (∀ W, RqAt W (some ⟨gz, 0, none⟩) P → W.cell? ⟨gz, k1 * 5, none⟩ = some (.int .i64 y.id)) := Lib.hid (fun W hW => by
                    obtain ⟨g9, hg9, m9⟩ := hW k1 y hy
                    injection hg9 with hg9
                    injection hg9 with hg9
                    subst hg9
                    exact m9 0 _ rfl)
                  have d0 : decide (((k1 + 1 : Nat) : Int) > 0) = true := decide_eq_true (by omega)
                  have d0' : decide ((0 : Int) < ((k1 + 1 : Nat) : Int)) = true := decide_eq_true (by omega)
                  have dw : IntKind.i64.wrap (((k1 + 1 : Nat) : Int) - 1) = (k1 : Int) := by rw [IntKind.wrap_i64]; omega
                  have dw2 : IntKind.i64.wrap (k1 : Int) = (k1 : Int) := by rw [IntKind.wrap_i64]; omega
                  have hy0 : (0 : Int) ≤ (k1 : Int) := by omega
                  have hy1 : (k1 : Int) < (M : Int) := by omega
                  have dge : decide (y.id ≥ z.id) = false := decide_eq_false (by omega)
                  have dge' : decide (z.id ≤ y.id) = false := decide_eq_false (by omega)
                  clear hz hy
                  go_upto_region 51 with fail
                  refine wp_region_last 24 (fun w' => Hid (LsS w w' d L KK CC g RD RL ever sure ea en ec sa sn sc) ∧ Hid (RqAt w' (some ⟨gz, 0, none⟩) P)) (by kernel_rfl) (⟨Lib.hid (HK.out.later (Below.refl _ _).drew), Lib.hid (HP.out.later (Below.refl _ _).drew)⟩) (fun hHeld hClosed => ?_)
                  refine wpAnyL_takeP (i := 0) (v := ?_) rfl (by kernel_rfl) (by kernel_rfl) (by kernel_rfl) (by kernel_rfl) (fun _ _ _ h => h) (by kernel_rfl) hClosed (Or.inl ⟨by rfl, ?_⟩) hHeld (fun hClosed => ?_)
                  rotate_left
                  · intro wv hSw; go_simp; all_goals (with_reducible rfl)
                  (try simp only [List.getElem_toArray, List.getElem_cons_zero, put_at, List.set])
                  refine wpAnyL_takeP (i := 1) (v := ?_) rfl (by kernel_rfl) (by kernel_rfl) (by kernel_rfl) (by kernel_rfl) (fun _ _ _ h => h) (by kernel_rfl) hClosed (Or.inl ⟨by rfl, ?_⟩) hHeld (fun hClosed => ?_)
                  rotate_left
                  · intro wv hSw; go_simp; all_goals (with_reducible rfl)
                  (try simp only [List.getElem_toArray, List.getElem_cons_succ, List.getElem_cons_zero, put_at, List.set])
                  refine wpAnyL_one (i := 2) rfl (by kernel_rfl) (by kernel_rfl) hClosed (fun KK hK => ?_)
                  go_simp
                  refine hK.out _ _ ?_ (fun hClosed hHeld => ?_)
                  · exact hHeld
                  clear hK KK
                  (first | simp only [List.getElem_toArray, List.getElem_cons_succ, List.getElem_cons_zero, put_at, List.set] | (try simp only [put_at, List.set]))
                  refine wpAnyL_one (i := 3) rfl (by kernel_rfl) (by kernel_rfl) hClosed (fun KK hK => ?_)
                  go_simp
                  refine hK.out _ _ ?_ (fun hClosed hHeld => ?_)
                  · exact hHeld
                  clear hK KK
                  (first | simp only [List.getElem_toArray, List.getElem_cons_succ, List.getElem_cons_zero, put_at, List.set] | (try simp only [put_at, List.set]))
                  refine wpAnyL_one (i := 4) rfl (by kernel_rfl) (by kernel_rfl) hClosed (fun KK hK => ?_)
                  have r0 := (HRD.out _ hHeld.2.out).1
                  have r1 := (HRD.out _ hHeld.2.out).2.1
                  have r2 := (HRD.out _ hHeld.2.out).2.2.1
                  have r3 := (HRD.out _ hHeld.2.out).2.2.2.1
                  have r4 := (HRD.out _ hHeld.2.out).2.2.2.2
                  have y0 := HYD.out _ hHeld.2.out
                  go_simp
                  refine hK.out _ _ ?_ (fun hClosed hHeld => ?_)
                  · exact hHeld
                  clear hK KK
                  (first | simp only [List.getElem_toArray, List.getElem_cons_succ, List.getElem_cons_zero, put_at, List.set] | (try simp only [put_at, List.set]))
                  refine wpAnyL_one (i := 5) rfl (by kernel_rfl) (by kernel_rfl) hClosed (fun KK hK => ?_)
                  go_simp
                  refine (in_at ever en hHeld.1.out.el (by have := hHeld.1.out.e60; omega) ea ec z _ hHeld.1.out.ever_at HZM.out).mono ?_
                  rintro e wx ⟨rfl, hwx⟩
                  go_wp2_with fail
                  refine hK.out _ _ ?_ (fun hClosed hHeld => ?_)
                  · exact ⟨Lib.hid (hHeld.1.out.later hwx), Lib.hid (hHeld.2.out.later hwx)⟩
                  clear hK KK
                  (first | simp only [List.getElem_toArray, List.getElem_cons_succ, List.getElem_cons_zero, put_at, List.set] | (try simp only [put_at, List.set]))
                  refine wpAnyL_one (i := 6) rfl (by kernel_rfl) (by kernel_rfl) hClosed (fun KK hK => ?_)
                  go_simp
                  refine hK.out _ _ ?_ (fun hClosed hHeld => ?_)
                  · exact hHeld
                  clear hK KK
                  (first | simp only [List.getElem_toArray, List.getElem_cons_succ, List.getElem_cons_zero, put_at, List.set] | (try simp only [put_at, List.set]))
                  refine wpAnyL_one (i := 7) rfl (by kernel_rfl) (by kernel_rfl) hClosed (fun KK hK => ?_)
                  go_simp
                  refine hK.out _ _ ?_ (fun hClosed hHeld => ?_)
                  · exact hHeld
                  clear hK KK
                  (first | simp only [List.getElem_toArray, List.getElem_cons_succ, List.getElem_cons_zero, put_at, List.set] | (try simp only [put_at, List.set]))
                  refine wpAnyL_one (i := 8) rfl (by kernel_rfl) (by kernel_rfl) hClosed (fun KK hK => ?_)
                  go_simp
                  refine hK.out _ _ ?_ (fun hClosed hHeld => ?_)
                  · exact hHeld
                  clear hK KK
                  (first | simp only [List.getElem_toArray, List.getElem_cons_succ, List.getElem_cons_zero, put_at, List.set] | (try simp only [put_at, List.set]))
                  refine wpAnyL_one (i := 9) rfl (by kernel_rfl) (by kernel_rfl) hClosed (fun KK hK => ?_)
                  go_simp
                  refine hK.out _ _ ?_ (fun hClosed hHeld => ?_)
                  · exact hHeld
                  clear hK KK
                  (first | simp only [List.getElem_toArray, List.getElem_cons_succ, List.getElem_cons_zero, put_at, List.set] | (try simp only [put_at, List.set]))
                  refine wpAnyL_one (i := 10) rfl (by kernel_rfl) (by kernel_rfl) hClosed (fun KK hK => ?_)
                  go_simp
                  refine hK.out _ _ ?_ (fun hClosed hHeld => ?_)
                  · exact hHeld
                  clear hK KK
                  (first | simp only [List.getElem_toArray, List.getElem_cons_succ, List.getElem_cons_zero, put_at, List.set] | (try simp only [put_at, List.set]))
                  refine wpAnyL_takeP (i := 11) (v := ?_) rfl (by kernel_rfl) (by kernel_rfl) (by kernel_rfl) (by kernel_rfl) (fun _ _ _ h => h) (by kernel_rfl) hClosed (Or.inl ⟨by rfl, ?_⟩) hHeld (fun hClosed => ?_)
                  rotate_left
                  · intro wv hSw; go_simp; all_goals (with_reducible rfl)
                  (try simp only [List.getElem_toArray, List.getElem_cons_succ, List.getElem_cons_zero, put_at, List.set])
                  refine wpAnyL_takeP (i := 12) (v := ?_) rfl (by kernel_rfl) (by kernel_rfl) (by kernel_rfl) (by kernel_rfl) (fun _ _ _ h => h) (by kernel_rfl) hClosed (Or.inl ⟨by rfl, ?_⟩) hHeld (fun hClosed => ?_)
                  rotate_left
                  · intro wv hSw; go_simp; all_goals (with_reducible rfl)
                  (try simp only [List.getElem_toArray, List.getElem_cons_succ, List.getElem_cons_zero, put_at, List.set])
                  refine wpAnyL_takeP (i := 13) (v := ?_) rfl (by kernel_rfl) (by kernel_rfl) (by kernel_rfl) (by kernel_rfl) (fun _ _ _ h => h) (by kernel_rfl) hClosed (Or.inl ⟨by rfl, ?_⟩) hHeld (fun hClosed => ?_)
                  rotate_left
                  · intro wv hSw; go_simp; all_goals (with_reducible rfl)
                  (try simp only [List.getElem_toArray, List.getElem_cons_succ, List.getElem_cons_zero, put_at, List.set])
                  refine wpAnyL_takeP (i := 14) (v := ?_) rfl (by kernel_rfl) (by kernel_rfl) (by kernel_rfl) (by kernel_rfl) (fun _ _ _ h => h) (by kernel_rfl) hClosed (Or.inl ⟨by rfl, ?_⟩) hHeld (fun hClosed => ?_)
                  rotate_left
                  · intro wv hSw; go_simp; all_goals (with_reducible rfl)
                  (try simp only [List.getElem_toArray, List.getElem_cons_succ, List.getElem_cons_zero, put_at, List.set])
                  refine wpAnyL_takeP (i := 15) (v := ?_) rfl (by kernel_rfl) (by kernel_rfl) (by kernel_rfl) (by kernel_rfl) (fun _ _ _ h => h) (by kernel_rfl) hClosed (Or.inl ⟨by rfl, ?_⟩) hHeld (fun hClosed => ?_)
                  rotate_left
                  · intro wv hSw; go_simp; all_goals (with_reducible rfl)
                  (try simp only [List.getElem_toArray, List.getElem_cons_succ, List.getElem_cons_zero, put_at, List.set])
                  refine wpAnyL_takeP (i := 16) (v := ?_) rfl (by kernel_rfl) (by kernel_rfl) (by kernel_rfl) (by kernel_rfl) (fun _ _ _ h => h) (by kernel_rfl) hClosed (Or.inl ⟨by rfl, ?_⟩) hHeld (fun hClosed => ?_)
                  rotate_left
                  · intro wv hSw; have r0 := (HRD.out _ hSw.2.out).1; have r1 := (HRD.out _ hSw.2.out).2.1; have r2 := (HRD.out _ hSw.2.out).2.2.1; have r3 := (HRD.out _ hSw.2.out).2.2.2.1; have r4 := (HRD.out _ hSw.2.out).2.2.2.2; have y0 := HYD.out _ hSw.2.out; go_simp; all_goals (with_reducible rfl)
                  (try simp only [List.getElem_toArray, List.getElem_cons_succ, List.getElem_cons_zero, put_at, List.set])
                  refine wpAnyL_takeP (i := 17) (v := ?_) rfl (by kernel_rfl) (by kernel_rfl) (by kernel_rfl) (by kernel_rfl) (fun _ _ _ h => h) (by kernel_rfl) hClosed (Or.inl ⟨by rfl, ?_⟩) hHeld (fun hClosed => ?_)
                  rotate_left
                  · intro wv hSw; go_simp; all_goals (with_reducible rfl)
                  (try simp only [List.getElem_toArray, List.getElem_cons_succ, List.getElem_cons_zero, put_at, List.set])
                  refine wpAnyL_one (i := 18) rfl (by kernel_rfl) (by kernel_rfl) hClosed (fun KK hK => ?_)
                  go_simp
                  refine hK.out _ _ ?_ (fun hClosed hHeld => ?_)
                  · exact hHeld
                  clear hK KK
                  (first | simp only [List.getElem_toArray, List.getElem_cons_succ, List.getElem_cons_zero, put_at, List.set] | (try simp only [put_at, List.set]))
                  refine wpAnyL_one (i := 19) rfl (by kernel_rfl) (by kernel_rfl) hClosed (fun KK hK => ?_)
                  go_simp
                  refine hK.out _ _ ?_ (fun hClosed hHeld => ?_)
                  · exact hHeld
                  clear hK KK
                  (first | simp only [List.getElem_toArray, List.getElem_cons_succ, List.getElem_cons_zero, put_at, List.set] | (try simp only [put_at, List.set]))
                  refine wpAnyL_one (i := 20) rfl (by kernel_rfl) (by kernel_rfl) hClosed (fun KK hK => ?_)
                  go_simp
                  refine hK.out _ _ ?_ (fun hClosed hHeld => ?_)
                  · exact hHeld
                  clear hK KK
                  (first | simp only [List.getElem_toArray, List.getElem_cons_succ, List.getElem_cons_zero, put_at, List.set] | (try simp only [put_at, List.set]))
                  refine wpAnyL_one (i := 21) rfl (by kernel_rfl) (by kernel_rfl) hClosed (fun KK hK => ?_)
                  have r0 := (HRD.out _ hHeld.2.out).1
                  have r1 := (HRD.out _ hHeld.2.out).2.1
                  have r2 := (HRD.out _ hHeld.2.out).2.2.1
                  have r3 := (HRD.out _ hHeld.2.out).2.2.2.1
                  have r4 := (HRD.out _ hHeld.2.out).2.2.2.2
                  have y0 := HYD.out _ hHeld.2.out
                  go_simp
                  refine hK.out _ _ ?_ (fun hClosed hHeld => ?_)
                  · exact hHeld
                  clear hK KK
                  (first | simp only [List.getElem_toArray, List.getElem_cons_succ, List.getElem_cons_zero, put_at, List.set] | (try simp only [put_at, List.set]))
                  refine wpAnyL_one (i := 22) rfl (by kernel_rfl) (by kernel_rfl) hClosed (fun KK hK => ?_)
                  go_simp
                  refine hK.out _ _ ?_ (fun hClosed hHeld => ?_)
                  · exact hHeld
                  clear hK KK
                  (first | simp only [List.getElem_toArray, List.getElem_cons_succ, List.getElem_cons_zero, put_at, List.set] | (try simp only [put_at, List.set]))
                  refine wpAnyL_one (i := 23) rfl (by kernel_rfl) (by kernel_rfl) hClosed (fun KK hK => ?_)
                  go_simp
                  refine hK.out _ _ ?_ (fun hClosed hHeld => ?_)
                  · exact hHeld
                  clear hK KK
                  (first | simp only [List.getElem_toArray, List.getElem_cons_succ, List.getElem_cons_zero, put_at, List.set] | (try simp only [put_at, List.set]))
                  refine wpAnyL_last rfl (by kernel_rfl) (by kernel_rfl) (fun KK hK => ?_)
                  go_simp
                  refine hK.out _ _ ?_
                  (try simp only [put_at, List.set])
                  have K8 := hHeld.1
                  have P8 := hHeld.2
                  clear hHeld hClosed
                  go_wp2_with fail
                  go_roundw
                  case rel => exact ⟨k1 + 1 + 1, by omega, by go_num, K8, P8⟩
                  case measure => exact cra_ms M (k1 + 1) hlt
              · have hkd : decide ((k : Int) < (M : Int)) = false := decide_eq_false (by omega)
                go_wp2_with fail
                go_roundw
                case rel => exact ⟨i + 1, L, g, RD, RL, ever, sure, ea, en, ec, sa, sn, sc, by omega, by omega, rfl, rfl, rfl, by go_num, by rw [hKK, hCC]; exact HK⟩
                case measure => exact cra_ms 60 i h2
      · clear HA HC
        have NF := Lib.hid HS.out
        by_cases h1 : i < len
        · have d1 : decide ((i : Int) < (len : Int)) = true := decide_eq_true (by omega)
          have d2 : decide ((i : Int) < 60) = false := decide_eq_false (by omega)
          go_wp2_with fail
          go_meet
          exact ⟨L, _, _, g, RD, RL, ever, sure, ea, en, ec, sa, sn, sc, rfl, rfl, rfl, by omega, by omega, NF⟩
        · have d1 : decide ((i : Int) < (len : Int)) = false := decide_eq_false (by omega)
          go_wp2_with fail
          go_meet
          exact ⟨L, _, _, g, RD, RL, ever, sure, ea, en, ec, sa, sn, sc, rfl, rfl, rfl, by omega, by omega, NF⟩
  case rest => as_aux_lemma =>
    obtain ⟨L, KK, CC, g, RD, RL, ever, sure, ea, en, ec, sa, sn, sc, rfl, rfl, rfl, hKK, hCC, HL⟩ := hcut
    clear X0 HA HC
    have CR := Lib.hid (s_crash HL.out.sp keep (okI_iff HKW.out).1 (okI_iff HKW.out).2)
    go_wp2_with fail
    refine CR.out.mono ?_
    rintro e w5 ⟨rfl, R3, R4, hs5, hw5, ho5⟩
    have S5 := Lib.hid hs5
    have OPN := Lib.hid (s_open S5.out.disk 4)
    dsimp only at OPN
    clear hs5 CR
    go_wp2_with fail
    refine OPN.out.mono ?_
    rintro e w7 ⟨L2, RL2, rfl, hs7, hb7, hg7⟩
    have HL0 := Lib.hid (HL.out.crashed hw5 ho5 hs7 hb7 hg7 (HL.out.j.crash_ keep 4) rfl)
    obtain ⟨g9, hg9⟩ : ∃ G, openL (crashD g.D keep) 4 = G := ⟨_, rfl⟩
    rw [hg9] at HL0
    clear hs7 hb7 hg7 hw5 ho5 OPN S5 HL hg9
    have HL := HL0
    clear HL0
    have hs60 := HL.out.s60
    obtain ⟨P, hP⟩ : ∃ P, pendL g9 = P := ⟨_, rfl⟩
    obtain ⟨M, hM⟩ : ∃ M, P.length = M := ⟨_, rfl⟩
    have hM2 : M ≤ 999999 := by
      rw [← hM, ← hP]
      unfold pendL
      have h1 := List.length_filterMap_le (loadL g9) (srtI (g9.x.puts.map Prod.fst))
      rw [srtI_len, List.length_map] at h1
      have := HL.out.sp.few.1
      omega
    have HM := Lib.hid hM
    obtain ⟨f1, f2, f3⟩ := HL.out.j.pend HL.out.sp.nd
    rw [hP] at f1 f2
    have HPS := Lib.hid f1
    have HPE := Lib.hid f2
    have P1 := Lib.hid (s_pend HL.out.sp (by omega) P hP M hM)
    clear f1 f2 f3 hP hM
    go_wp2_with fail
    refine P1.out.mono ?_
    rintro e w6 ⟨pa, pc, rfl, ho, _, hb6⟩
    have HPA := Lib.hid (rqAt_own ho HM.out)
    have HL1 := HL
    clear HL
    have HL := Lib.hid (HL1.out.later hb6)
    clear ho hb6 HL1 P1
    go_upto_block 9 with fail
    go_cut [] (fun wx => Hid (LsS w wx d L2 32768 CC g9 R3 RL2 ever sure ea en ec sa sn sc) ∧ Hid (RqAt wx pa P))
    case first =>
      go_wp2_with fail
      go_loopw [23] (fun v wr => ∃ k : Nat, k ≤ sn ∧ v = .int .i64 (k : Int) ∧ Hid (LsS w wr d L2 32768 CC g9 R3 RL2 ever sure ea en ec sa sn sc) ∧ Hid (RqAt wr pa P)) (fun v _ => sn - (vI v).toNat)
      case atStart => exact ⟨0, by omega, rfl, HL, HPA⟩
      case round =>
        obtain ⟨k, hk, rfl, HK, HP⟩ := hrel
        by_cases hlt : k < sn
        · have hkd : decide ((k : Int) < (sn : Int)) = true := decide_eq_true (by omega)
          obtain ⟨z, hz⟩ : ∃ z, sure[k]? = some z := ⟨_, List.getElem?_eq_getElem (by rw [HK.out.sl]; exact hlt)⟩
          obtain ⟨gz, rfl, m⟩ := HK.out.sure_at k z hz
          have HZM : Hid (z ∈ P) := Lib.hid (HPS.out z (List.mem_of_getElem? hz))
          have m0 := m 0 _ rfl
          have m1 := m 1 _ rfl
          have m2 := m 2 _ rfl
          have m3 := m 3 _ rfl
          have m4 := m 4 _ rfl
          simp only [Nat.add_zero] at m0
          have hx0 : (0 : Int) ≤ (k : Int) := by omega
          have hx1 : (k : Int) < (sn : Int) := by omega
          have IN := Lib.hid (in_at P M HM.out hM2 pa pc z wr HP.out HZM.out)
          clear m hz
          go_wp2_with fail
          refine IN.out.mono ?_
          rintro e w8 ⟨rfl, hb8⟩
          have K8 := Lib.hid (HK.out.later hb8)
          have P8 := Lib.hid (HP.out.later hb8)
          clear IN hb8 HK HP m0 m1 m2 m3 m4
          go_wp2_with fail
          go_roundw
          case rel => exact ⟨k + 1, by omega, by go_num, K8, P8⟩
          case measure => exact cra_ms sn k hlt
        · have hkd : decide ((k : Int) < (sn : Int)) = false := decide_eq_false (by omega)
          go_wp2_with fail
          go_meet
          exact ⟨HK, HP⟩
    rename_i wl2
    obtain ⟨HL, HPA⟩ := hcut
    go_upto_block 11 with fail
    go_cut [] (fun wx => Hid (LsS w wx d L2 32768 CC g9 R3 RL2 ever sure ea en ec sa sn sc))
    case first =>
      go_wp2_with fail
      go_loopw [24] (fun v wr => ∃ k : Nat, k ≤ M ∧ v = .int .i64 (k : Int) ∧ Hid (LsS w wr d L2 32768 CC g9 R3 RL2 ever sure ea en ec sa sn sc) ∧ Hid (RqAt wr pa P)) (fun v _ => M - (vI v).toNat)
      case atStart => exact ⟨0, by omega, rfl, HL, HPA⟩
      case round =>
        obtain ⟨k, hk, rfl, HK, HP⟩ := hrel
        by_cases hlt : k < M
        · have hkd : decide ((k : Int) < (M : Int)) = true := decide_eq_true (by omega)
          obtain ⟨z, hz⟩ : ∃ z, P[k]? = some z := ⟨_, List.getElem?_eq_getElem (by rw [HM.out]; exact hlt)⟩
          have HPk := Lib.hid HP.out
          obtain ⟨gz, rfl, m⟩ := HP.out k z hz
          have HZM : Hid (z ∈ ever) := Lib.hid (HPE.out z (List.mem_of_getElem? hz))
          have m0 := m 0 _ rfl
          have m1 := m 1 _ rfl
          have m2 := m 2 _ rfl
          have m3 := m 3 _ rfl
          have m4 := m 4 _ rfl
          simp only [Nat.add_zero] at m0
          have hx0 : (0 : Int) ≤ (k : Int) := by omega
          have hx1 : (k : Int) < (M : Int) := by omega

          have IN := Lib.hid (in_at ever en HK.out.el (by have := HK.out.e60; omega) ea ec z wr HK.out.ever_at HZM.out)
          clear m hz
          go_wp2_with fail
          refine IN.out.mono ?_
          rintro e w8 ⟨rfl, hb8⟩
          have K8 := Lib.hid (HK.out.later hb8)
          have P8 := Lib.hid (HP.out.later hb8)
          clear IN hb8 HK HP HPk m0 m1 m2 m3 m4
          go_wp2_with fail
          go_roundw
          case rel => exact ⟨k + 1, by omega, by go_num, K8, P8⟩
          case measure => exact cra_ms M k hlt
        · have hkd : decide ((k : Int) < (M : Int)) = false := decide_eq_false (by omega)
          go_wp2_with fail
          go_meet
          exact HK
    have HL := hcut
    have AW := Lib.hid (awake15_at _ HL.out.sp.lg.now)
    have BF0 := Lib.hid HL.out.sp.bl
    clear HL
    go_wp2_with fail
    refine AW.out.mono ?_
    rintro e wy ⟨rfl, hby⟩
    have BF := Lib.hid (BF0.out.trans (hby.mono BF0.out.size))
    clear AW hby BF0
    go_wp2_with fail
    go_ret
    exact ⟨rfl, BF.out⟩
end Go.Proofs.YteinblpkcpjpnaaGreatDoor
