/- Part of a chain: SpNxt. -/
import Derived.Test.YteinblpkcpjpnaaGreatDoorSn00
import Derived.Test.YteinblpkcpjpnaaGreatDoorSc40
import Derived.Test.YteinblpkcpjpnaaGreatDoorSc39
import Derived.Test.YteinblpkcpjpnaaGreatDoorSc41
/- SpillNext, walked. Written by gen_next.py. -/
namespace Go.Proofs.YteinblpkcpjpnaaGreatDoor
open Go Go.RowKit Go.Maps
set_option linter.unusedVariables false
set_option linter.unusedSimpArgs false
set_option maxRecDepth 100000

theorem sp_bytes {w : World} {a : Option Addr} {len cap : Nat} {zs : List Int} (h : IsRow .u8 w a len cap zs) :
    ∃ b off, (0 < len → a = some ⟨b, off, none⟩) ∧ len ≤ maxLen ∧ ∀ k, k < len → w.cell? ⟨b, off + k, none⟩ = some (.int .u8 (zs.getD k 0)) ∧ 0 ≤ zs.getD k 0 ∧ zs.getD k 0 ≤ 255 := by
  rcases h with ⟨rfl, rfl, rfl, rfl⟩ | ⟨x, rfl, hlc, hcm, hz, hcell, hwf⟩
  · exact ⟨0, 0, fun h => absurd h (by decide), by decide, fun k h => absurd h (Nat.not_lt_zero k)⟩
  · by_cases hl : 0 < zs.length
    · obtain ⟨b, off, rfl, hc⟩ := ints_at hcell hl
      refine ⟨b, off, fun _ => rfl, by omega, fun k hk => ⟨hc k (by omega), ?_⟩⟩
      have h0 : k < zs.length := by omega
      have h1 := hwf zs[k] (List.getElem_mem h0)
      simp [Lit.wf, IntKind.min, IntKind.max, IntKind.signed, IntKind.bits] at h1
      rw [List.getD_eq_getElem?_getD, List.getElem?_eq_getElem h0, Option.getD_some]
      omega
    · exact ⟨0, 0, fun h => absurd h (by omega), by omega, fun k h => absurd h (by omega)⟩
theorem CLog.mono {Z c c' : Nat} {g : Lg} (h : CLog Z c g) (hc : c ≤ c') : CLog Z c' g :=
  ⟨⟨h.disk.un, h.disk.beh, h.disk.fal, h.disk.ss, h.disk.byt, fun p hp => by have := h.disk.num p hp; omega, h.disk.whole, h.disk.full, Nat.le_trans h.disk.tot (Nat.mul_le_mul_right Z hc)⟩, h.agr, h.most⟩
theorem CLx.mono {Z c c' : Nat} {g : Lg} (h : CLx Z c g) (hc : c ≤ c') : CLx Z c' g := ⟨h.base.mono hc, Nat.le_trans h.cnt hc, Nat.le_trans h.lgc hc, h.szl, h.szw⟩
theorem next_of {Z c : Nat} {g : Lg} (h : CLx Z c g) {last : Int} (hm : mxT (logS g.D.S) = last) (hl : last ≤ 1000000) : nextI g.x = last + 1 := by
  have ht : g.x.top = last := by rw [h.base.agr.top, hm]
  unfold nextI
  rw [ht, if_neg (by omega)]
structure NxS (w wr : World) (d L i : Nat) (last : Int) (g : Lg) (RD RL : Nat → Prop) : Prop where
  sp : SpS w d L (32768 + i) g RD RL wr
  cl : CLx 100 i g
  mx : mxT (logS g.D.S) = last
  l0 : 0 ≤ last
  l1 : last ≤ (i : Int)
  n : g.n = 7
  mo : g.D.most = 16
theorem NxS.few {w wr : World} {d L i : Nat} {last : Int} {g : Lg} {RD RL : Nat → Prop} (h : NxS w wr d L i last g RD RL) (hi : i ≤ 80) : (g.D.S.length : Int) < g.n := by
  have h1 := h.cl.base.disk.segs
  have e : (2048 - 100 : Nat) = 1948 := rfl
  rw [e] at h1
  rw [h.n]
  omega
structure NxT (w wr : World) (d L i : Nat) (last : Int) (g : Lg) (RD RL : Nat → Prop) : Prop extends NxS w wr d L i last g RD RL where
  seg : (g.D.S.length : Int) < g.n
set_option maxHeartbeats 8000000 in
theorem spillNext_walk (a : Option Addr) (len cap : Nat) (zs : List Int) (w : World) (hrow : IsRow .u8 w a len cap zs) (hN : NowM w) :
    Calls Tryz.prog 7 #[.slice a len cap] w fun e w' => e = .returned (.bool true) ∧ Below w.heap.size w w' := by
  obtain ⟨b, off, ha, hlm, hc⟩ := sp_bytes hrow
  unfold maxLen at hlm
  have HA := Lib.hid ha
  have HC := Lib.hid hc
  have HN := Lib.hid hN
  clear ha hc hrow hN
  have NW := Lib.hid (s_new HN.out (Below.refl _ w) 16)
  go_enter Tryz.func7, Tryz.ntmps7
  go_wp2_with fail
  refine NW.out.mono ?_
  rintro e w1 ⟨d, RD0, rfl, hd, _, _⟩
  have D1 := Lib.hid hd
  clear hd NW
  have OP := Lib.hid (s_open D1.out 7)
  go_wp2_with fail
  refine OP.out.mono ?_
  rintro e w2 ⟨L0, RL0, rfl, hs, _, _⟩
  have X0 : Hid (NxS w w2 d L0 0 0 (openL ⟨[], [], moI 16, 0, 0⟩ 7) RD0 RL0) := Lib.hid ⟨hs, CLx.new 100 16 7 (by decide), rfl, by decide, by decide, rfl, rfl⟩
  clear hs OP D1
  go_wp2_with fail
  go_loopw [4, 6, 7] (fun v4 v6 v7 wr => ∃ (i : Nat) (last : Int) (L : Nat) (g : Lg) (RD RL : Nat → Prop), i ≤ len ∧ i ≤ 80 ∧ v4 = .pointer (some ⟨L, 0, none⟩) ∧ v6 = .int .i64 last ∧ v7 = .int .i64 (i : Int) ∧ Hid (NxS w wr d L i last g RD RL)) (fun _ _ v7 _ => 80 - (vI v7).toNat)
  case atStart => exact ⟨0, 0, L0, _, _, _, by omega, by omega, rfl, rfl, rfl, X0⟩
  case round =>
    obtain ⟨i, last, L, g, RD, RL, hi, hi80, rfl, rfl, rfl, HQ⟩ := hrel
    clear X0
    by_cases hgo : i < len ∧ i < 80
    · obtain ⟨h1, h2⟩ := hgo
      have d1 : decide ((i : Int) < (len : Int)) = true := decide_eq_true (by omega)
      have d2 : decide ((i : Int) < 80) = true := decide_eq_true (by omega)
      have haa := HA.out (by omega)
      subst haa
      obtain ⟨hz, z0, z1⟩ := HC.out i h1
      have hz2 : wr.cell? ⟨b, off + i, none⟩ = some (.int .u8 (zs.getD i 0)) := (HQ.out.sp.bl.cell (World.block_lt_of_cell? _ _ hz)).trans hz
      obtain ⟨z, hzz⟩ : ∃ z, zs.getD i 0 = z := ⟨_, rfl⟩
      rw [hzz] at hz2 z0 z1
      have hx0 : (0 : Int) ≤ (i : Int) := by omega
      have hx1 : (i : Int) < (len : Int) := by omega
      have hl0 := HQ.out.l0
      have hl1 := HQ.out.l1
      have NX1 := Lib.hid (s_next HQ.out.sp)
      rw [next_of HQ.out.cl HQ.out.mx (by omega)] at NX1
      have hle : decide (last + 1 ≤ last) = false := decide_eq_false (by omega)
      have hwr : IntKind.i64.wrap (last + 1) = last + 1 := by rw [IntKind.wrap_i64]; omega
      have hne : ((last + 1) != (last + 1)) = false := by simp
      have HS : Hid (NxT w wr d L i last g RD RL) := Lib.hid ⟨HQ.out, HQ.out.few (by omega)⟩
      clear hz hzz HQ
      go_wp2_with fail
      refine NX1.out.mono ?_
      rintro e wz ⟨rfl, hw⟩
      subst wz
      clear NX1
      obtain ⟨m, hm⟩ : ∃ m, Int.tmod z 5 = m := ⟨_, rfl⟩
      by_cases k0 : m = 0
      · subst k0
        have hsr : soundR ⟨1, last + 1, ⟨#[104]⟩, ⟨#[47]⟩, 0, 0⟩ := ⟨by show (1 : Int) ≤ 1; decide, by show (1 : Int) ≤ 3; decide, by show 0 ≤ last + 1; omega, by show (0 : Int) ≤ 0; decide, by show (0 : Int) ≤ 0; decide, by show (0 : Int) ≤ 7; decide, by show (1 : Nat) ≤ 256; decide, by show (1 : Nat) ≤ 768; decide⟩
        obtain ⟨g2, hp, hc2, hl2, hn2⟩ := HS.out.cl.put (by omega) HS.out.seg (r := ⟨1, last + 1, ⟨#[104]⟩, ⟨#[47]⟩, 0, 0⟩) rfl hsr ⟨by show last + 1 < _; omega, by show (0 : Int) < _; decide⟩ (by unfold encR; rw [recB_length, contR_length]; show 6 + (20 + (1 + 1)) ≤ 100; decide) (by decide)
        have PC := Lib.hid (s_put HS.out.sp ⟨1, last + 1, ⟨#[104]⟩, ⟨#[47]⟩, 0, 0⟩ rfl (okI_of (by show _ ≤ last + 1; omega) (by show last + 1 ≤ _; omega)) (by omega) (by omega) (by rw [HS.out.n]; decide) _ hp)
        have HM2 : Hid (mxT (logS g2.D.S) = last + 1) := Lib.hid (by rw [hl2, mxT_snoc, HS.out.mx]; show max last (last + 1) = _; omega)
        have HN2 : Hid (g2.n = 7 ∧ g2.D.most = 16) := Lib.hid ⟨by rw [hn2, HS.out.n], by have := (put_most g ⟨1, last + 1, ⟨#[104]⟩, ⟨#[47]⟩, 0, 0⟩).1; rw [hp] at this; rw [← HS.out.mo]; exact this⟩
        have HC2 := Lib.hid hc2
        unfold reqL at PC
        dsimp only at PC
        clear hsr hp hc2 hl2 hn2
        go_wp2_with fail
        refine PC.out.mono ?_
        rintro e w2 ⟨rfl, R3, R4, hs2, _, _⟩
        have S2 := Lib.hid hs2
        have X2 : Hid (nextI g2.x = last + 1 + 1) := Lib.hid (next_of HC2.out HM2.out (by omega))
        have NF : Hid (NxS w w2 d L (i + 1) (last + 1) g2 R3 R4) := Lib.hid ⟨S2.out.mono (by omega), HC2.out, HM2.out, by omega, by omega, HN2.out.1, HN2.out.2⟩
        have hwr2 : IntKind.i64.wrap (last + 1 + 1) = last + 1 + 1 := by rw [IntKind.wrap_i64]; omega
        have hne2 : ((last + 1 + 1) != (last + 1 + 1)) = false := by simp
        clear hs2 PC HM2 HN2 HC2 HS

        have NX2 := Lib.hid (s_next S2.out)
        rw [X2.out] at NX2
        go_wp2_with fail
        refine NX2.out.mono ?_
        rintro e wz ⟨rfl, hw⟩
        subst wz
        go_wp2_with fail
        go_roundw
        case rel => exact ⟨i + 1, last + 1, L, g2, R3, R4, by omega, by omega, rfl, by go_num, by go_num, NF.out⟩
        case measure => exact cra_ms 80 i h2
      by_cases k1 : m = 1
      · subst k1
        have hsr : soundR ⟨1, last + 1, ⟨#[104]⟩, ⟨#[47]⟩, 0, 0⟩ := ⟨by show (1 : Int) ≤ 1; decide, by show (1 : Int) ≤ 3; decide, by show 0 ≤ last + 1; omega, by show (0 : Int) ≤ 0; decide, by show (0 : Int) ≤ 0; decide, by show (0 : Int) ≤ 7; decide, by show (1 : Nat) ≤ 256; decide, by show (1 : Nat) ≤ 768; decide⟩
        obtain ⟨g2, hp, hc2, hl2, hn2⟩ := HS.out.cl.put (by omega) HS.out.seg (r := ⟨1, last + 1, ⟨#[104]⟩, ⟨#[47]⟩, 0, 0⟩) rfl hsr ⟨by show last + 1 < _; omega, by show (0 : Int) < _; decide⟩ (by unfold encR; rw [recB_length, contR_length]; show 6 + (20 + (1 + 1)) ≤ 100; decide) (by decide)
        have PC := Lib.hid (s_put HS.out.sp ⟨1, last + 1, ⟨#[104]⟩, ⟨#[47]⟩, 0, 0⟩ rfl (okI_of (by show _ ≤ last + 1; omega) (by show last + 1 ≤ _; omega)) (by omega) (by omega) (by rw [HS.out.n]; decide) _ hp)
        have HM2 : Hid (mxT (logS g2.D.S) = last + 1) := Lib.hid (by rw [hl2, mxT_snoc, HS.out.mx]; show max last (last + 1) = _; omega)
        have HN2 : Hid (g2.n = 7 ∧ g2.D.most = 16) := Lib.hid ⟨by rw [hn2, HS.out.n], by have := (put_most g ⟨1, last + 1, ⟨#[104]⟩, ⟨#[47]⟩, 0, 0⟩).1; rw [hp] at this; rw [← HS.out.mo]; exact this⟩
        have HC2 := Lib.hid hc2
        unfold reqL at PC
        dsimp only at PC
        clear hsr hp hc2 hl2 hn2
        go_wp2_with fail
        refine PC.out.mono ?_
        rintro e w2 ⟨rfl, R3, R4, hs2, _, _⟩
        have S2 := Lib.hid hs2
        have X2 : Hid (nextI g2.x = last + 1 + 1) := Lib.hid (next_of HC2.out HM2.out (by omega))
        have NF : Hid (NxS w w2 d L (i + 1) (last + 1) g2 R3 R4) := Lib.hid ⟨S2.out.mono (by omega), HC2.out, HM2.out, by omega, by omega, HN2.out.1, HN2.out.2⟩
        have hwr2 : IntKind.i64.wrap (last + 1 + 1) = last + 1 + 1 := by rw [IntKind.wrap_i64]; omega
        have hne2 : ((last + 1 + 1) != (last + 1 + 1)) = false := by simp
        clear hs2 PC HM2 HN2 HC2 HS

        have NX2 := Lib.hid (s_next S2.out)
        rw [X2.out] at NX2
        go_wp2_with fail
        refine NX2.out.mono ?_
        rintro e wz ⟨rfl, hw⟩
        subst wz
        go_wp2_with fail
        go_roundw
        case rel => exact ⟨i + 1, last + 1, L, g2, R3, R4, by omega, by omega, rfl, by go_num, by go_num, NF.out⟩
        case measure => exact cra_ms 80 i h2
      by_cases k2 : m = 2
      · subst k2
        obtain ⟨X, hX⟩ : ∃ X, doneL g last = X := ⟨_, rfl⟩
        have PC := Lib.hid (s_done HS.out.sp last (okI_of (by omega) (by omega)) (by omega) (by omega) (by rw [HS.out.n]; decide) _ hX)
        have HD : Hid (CLx 100 (i + 1) X.1 ∧ mxT (logS X.1.D.S) = last ∧ X.1.n = 7 ∧ X.1.D.most = 16) := Lib.hid (by
          have hmo := done_most g last
          rw [hX] at hmo
          have hmo2 : X.1.n = 7 ∧ X.1.D.most = 16 := ⟨by rw [hmo.2, HS.out.n], by rw [hmo.1, HS.out.mo]⟩
          cases hq : lstP last (logS g.D.S) with
          | none =>
            have h9 := HS.out.cl.base.done_none hq
            rw [hX] at h9
            rw [h9] at hmo2 ⊢
            exact ⟨HS.out.cl.mono (Nat.le_succ _), HS.out.mx, hmo2⟩
          | some q =>
            obtain ⟨g2, hp, hc2, hl2, hn2⟩ := HS.out.cl.done (by omega) HS.out.seg hq (by omega) (by omega) (by decide) (by decide)
            rw [hX] at hp
            rw [hp] at hmo2 ⊢
            exact ⟨hc2, by rw [hl2, mxT_snoc, HS.out.mx]; show max last last = _; omega, hmo2⟩)
        clear hX
        obtain ⟨g2, e2⟩ := X
        dsimp only at PC HD
        go_wp2_with fail
        refine PC.out.mono ?_
        rintro e w2 ⟨rfl, R3, R4, hs2, _, _⟩
        have S2 := Lib.hid hs2
        have X2 : Hid (nextI g2.x = last + 1) := Lib.hid (next_of HD.out.1 HD.out.2.1 (by omega))
        have NF : Hid (NxS w w2 d L (i + 1) last g2 R3 R4) := Lib.hid ⟨S2.out.mono (by omega), HD.out.1, HD.out.2.1, by omega, by omega, HD.out.2.2.1, HD.out.2.2.2⟩
        clear hs2 PC HD HS

        have NX2 := Lib.hid (s_next S2.out)
        rw [X2.out] at NX2
        go_wp2_with fail
        refine NX2.out.mono ?_
        rintro e wz ⟨rfl, hw⟩
        subst wz
        go_wp2_with fail
        go_roundw
        case rel => exact ⟨i + 1, last, L, g2, R3, R4, by omega, by omega, rfl, by go_num, by go_num, NF.out⟩
        case measure => exact cra_ms 80 i h2
      by_cases k3 : m = 3
      · subst k3
        obtain ⟨g2, hp, hc2, _, _, _, hl2, hn2⟩ := HS.out.cl.compact HS.out.sp.lg.lx.ok (by omega) (by decide) (by decide) (by have := HS.out.seg; omega) (fun k hk => by rw [HS.out.n]; have e : (2048 - 100 : Nat) = 1948 := rfl; rw [e] at hk; omega) (by rw [HS.out.n, HS.out.mo]; decide)
        have PC := Lib.hid (s_compact HS.out.sp (by omega) (by omega) (by rw [HS.out.n]; decide) _ hp)
        have HD : Hid (CLx 100 (i + 1) g2 ∧ mxT (logS g2.D.S) = last ∧ g2.n = 7 ∧ g2.D.most = 16) := Lib.hid ⟨hc2, by rw [hl2, HS.out.mx], by rw [hn2, HS.out.n], by have := (compact_most g).1; rw [hp] at this; rw [← HS.out.mo]; exact this⟩
        clear hp hc2 hl2 hn2
        go_wp2_with fail
        refine PC.out.mono ?_
        rintro e w2 ⟨rfl, R3, R4, hs2, _, _⟩
        have S2 := Lib.hid hs2
        have X2 : Hid (nextI g2.x = last + 1) := Lib.hid (next_of HD.out.1 HD.out.2.1 (by omega))
        have NF : Hid (NxS w w2 d L (i + 1) last g2 R3 R4) := Lib.hid ⟨S2.out.mono (by omega), HD.out.1, HD.out.2.1, by omega, by omega, HD.out.2.2.1, HD.out.2.2.2⟩
        clear hs2 PC HD HS

        have NX2 := Lib.hid (s_next S2.out)
        rw [X2.out] at NX2
        go_wp2_with fail
        refine NX2.out.mono ?_
        rintro e wz ⟨rfl, hw⟩
        subst wz
        go_wp2_with fail
        go_roundw
        case rel => exact ⟨i + 1, last, L, g2, R3, R4, by omega, by omega, rfl, by go_num, by go_num, NF.out⟩
        case measure => exact cra_ms 80 i h2
      have e0 : (m == 0) = false := beq_eq_false_iff_ne.2 k0
      have e1 : (m == 1) = false := beq_eq_false_iff_ne.2 k1
      have e2 : (m == 2) = false := beq_eq_false_iff_ne.2 k2
      have e3 : (m == 3) = false := beq_eq_false_iff_ne.2 k3
      have PC := Lib.hid (s_open HS.out.sp.disk 7)
      have HD : Hid (CLx 100 (i + 1) (openL g.D 7) ∧ mxT (logS (openL g.D 7).D.S) = last ∧ (openL g.D 7).n = 7 ∧ (openL g.D 7).D.most = 16) := Lib.hid ⟨by have h9 := HS.out.cl.open_; rw [HS.out.n] at h9; exact h9.mono (Nat.le_succ _), HS.out.mx, rfl, HS.out.mo⟩
      go_wp2_with fail
      refine PC.out.mono ?_
      rintro e w2 ⟨L2, RL2, rfl, hs2, _, _⟩
      have S2 := Lib.hid hs2
      have X2 : Hid (nextI (openL g.D 7).x = last + 1) := Lib.hid (next_of HD.out.1 HD.out.2.1 (by omega))
      have NF : Hid (NxS w w2 d L2 (i + 1) last (openL g.D 7) RD RL2) := Lib.hid ⟨S2.out.mono (by omega), HD.out.1, HD.out.2.1, by omega, by omega, HD.out.2.2.1, HD.out.2.2.2⟩
      clear hs2 PC HD HS

      have NX2 := Lib.hid (s_next S2.out)
      rw [X2.out] at NX2
      go_wp2_with fail
      refine NX2.out.mono ?_
      rintro e wz ⟨rfl, hw⟩
      subst wz
      go_wp2_with fail
      go_roundw
      case rel => exact ⟨i + 1, last, L2, (openL g.D 7), RD, RL2, by omega, by omega, rfl, by go_num, by go_num, NF.out⟩
      case measure => exact cra_ms 80 i h2
    · have AW := Lib.hid (awake15_at wr (HN.out.later HQ.out.sp.bl))
      have B1 := Lib.hid HQ.out.sp.bl
      clear HQ
      by_cases h1 : i < len
      · have d1 : decide ((i : Int) < (len : Int)) = true := decide_eq_true (by omega)
        have d2 : decide ((i : Int) < 80) = false := decide_eq_false (by omega)
        go_wp2_with fail
        refine AW.out.mono ?_
        rintro e w2 ⟨rfl, hb⟩
        have BF := Lib.hid (B1.out.trans (hb.mono B1.out.size))
        clear hb AW
        go_wp2_with fail
        go_ret
        exact ⟨rfl, BF.out⟩
      · have d1 : decide ((i : Int) < (len : Int)) = false := decide_eq_false (by omega)
        go_wp2_with fail
        refine AW.out.mono ?_
        rintro e w2 ⟨rfl, hb⟩
        have BF := Lib.hid (B1.out.trans (hb.mono B1.out.size))
        clear hb AW
        go_wp2_with fail
        go_ret
        exact ⟨rfl, BF.out⟩
end Go.Proofs.YteinblpkcpjpnaaGreatDoor
