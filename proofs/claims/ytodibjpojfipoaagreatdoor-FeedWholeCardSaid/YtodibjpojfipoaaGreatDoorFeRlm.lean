/- The document's limit; FeedResets: until when any headers say that nothing is left. -/
import Derived.Test.YtodibjpojfipoaaGreatDoorFxLm
namespace Go.Proofs.YtodibjpojfipoaaGreatDoor
open Go Go.RowKit
set_option linter.unusedVariables false
set_option linter.unusedSimpArgs false
set_option maxRecDepth 10000

def lpR : Int → List FItem → Int
  | b, [] => b
  | b, x :: r => lpR (if (lastF [114] x.ps).2 = true ∧ (lastF [116] x.ps).2 = true ∧ (lastF [114] x.ps).1 ≤ 0 ∧ b < (lastF [116] x.ps).1 then (lastF [116] x.ps).1 else b) r
theorem lpR_ge : ∀ (l : List FItem) (b : Int), b ≤ lpR b l
  | [], b => Int.le_refl _
  | x :: r, b => by
    unfold lpR
    have := lpR_ge r (if (lastF [114] x.ps).2 = true ∧ (lastF [116] x.ps).2 = true ∧ (lastF [114] x.ps).1 ≤ 0 ∧ b < (lastF [116] x.ps).1 then (lastF [116] x.ps).1 else b)
    split at this
    · rename_i h
      rw [if_pos h]
      omega
    · rename_i h
      rw [if_neg h]
      omega
theorem lpG_R : ∀ (l : List FItem) (b : Int), -1 ≤ b → lpG (max 0 b, decide (0 ≤ b)) l = (max 0 (lpR b l), decide (0 ≤ lpR b l))
  | [], b, _ => rfl
  | x :: r, b, hb => by
    unfold lpG lpR
    by_cases h : (lastF [114] x.ps).2 = true ∧ (lastF [116] x.ps).2 = true ∧ (lastF [114] x.ps).1 ≤ 0
    · by_cases ht : 0 ≤ (lastF [116] x.ps).1
      · rw [if_pos ⟨h.1, h.2.1, h.2.2, ht⟩]
        by_cases hg : b < (lastF [116] x.ps).1
        · rw [if_pos ⟨h.1, h.2.1, h.2.2, hg⟩, ← lpG_R r _ (by omega)]
          congr 1
          rw [Prod.mk.injEq]
          exact ⟨by omega, (decide_eq_true ht).symm⟩
        · rw [if_neg (fun hh => hg hh.2.2.2), ← lpG_R r _ hb]
          congr 1
          rw [Prod.mk.injEq]
          exact ⟨by omega, (decide_eq_true (by omega)).symm⟩
      · rw [if_neg (fun hh => ht hh.2.2.2), if_neg (fun hh => by have := hh.2.2.2; omega), lpG_R r _ hb]
    · rw [if_neg (fun hh => h ⟨hh.1, hh.2.1, hh.2.2.1⟩), if_neg (fun hh => h ⟨hh.1, hh.2.1, hh.2.2.1⟩), lpG_R r _ hb]
def rlimG (l : List FItem) : Int × Bool :=
  if (lastF remK (l.map kvF)).2 = true ∧ (lastF resK (l.map kvF)).2 = true ∧ (lastF remK (l.map kvF)).1 ≤ 0 then ((lastF resK (l.map kvF)).1, true) else (lpR (-1) l, decide (0 ≤ lpR (-1) l))
theorem rlimG_is (l : List FItem) : (rlimG l).2 = (limG l).2 ∧ ((rlimG l).2 = true → (rlimG l).1 = (limG l).1) := by
  unfold rlimG limG
  split
  · exact ⟨rfl, fun _ => rfl⟩
  · have h := lpG_R l (-1) (by omega)
    have e : (max 0 (-1 : Int), decide (0 ≤ (-1 : Int))) = ((0, false) : Int × Bool) := by decide
    rw [e] at h
    rw [h]
    refine ⟨rfl, fun h2 => ?_⟩
    have := of_decide_eq_true h2
    dsimp only
    omega
def rlimH (hs : HL) : Int × Bool := if hasH kRl hs = true then match parseF (btL (valH kRl hs)) with
    | some l => rlimG l
    | none => (0, false)
  else (0, false)
theorem rlimH_is (hs : HL) : LimIs hs (rlimH hs).1 (rlimH hs).2 := by
  unfold LimIs rlimH
  by_cases h : hasH kRl hs = true
  · rw [if_pos h]
    unfold limT
    cases hp : parseF (btL (valH kRl hs)) with
    | none => exact ⟨rfl, fun h => by cases h⟩
    | some l => exact rlimG_is l
  · rw [if_neg h, valH_none (by cases hh : hasH kRl hs with | true => exact absurd hh h | false => rfl)]
    exact ⟨by decide, fun h => by cases h⟩
set_option maxHeartbeats 4000000 in
theorem rlimit7_at (sa : Option Addr) (g off c : Nat) (hs : HL) (hl : hs.length ≤ 1000000) (hz : ∀ x ∈ hs, x.1.size ≤ 1000000 ∧ x.2.size ≤ 1000000) (w : World) (hA : hs ≠ [] → HdAt w g off hs) (hSa : hs ≠ [] → sa = some ⟨g, off, none⟩) :
    Calls Tryz.prog 31 #[.slice sa hs.length c] w fun e w' => e = .returned (.tuple #[.int .i64 (rlimH hs).1, .bool (rlimH hs).2]) ∧ Below w.heap.size w w' := by
  obtain ⟨Z, hZ⟩ : ∃ Z, rlimH hs = Z := ⟨_, rfl⟩
  have FD := Lib.hid (rfield_at sa g off c hs hl hz ⟨#[82, 97, 116, 101, 76, 105, 109, 105, 116]⟩ kRl (by decide) (by decide) w hA hSa)
  have hvz := valH_size kRl hs hz
  obtain ⟨v, hv⟩ : ∃ v, valH kRl hs = v := ⟨_, rfl⟩
  obtain ⟨h, hh⟩ : ∃ v, hasH kRl hs = v := ⟨_, rfl⟩
  rw [hv, hh] at FD
  rw [hv] at hvz
  have PS := Lib.hid (fun W : World => rparse7_at v hvz W)
  obtain ⟨po, hpo⟩ : ∃ o, parseF (btL v) = o := ⟨_, rfl⟩
  have HCN0 : Hid (∀ l, po = some l → ∀ x ∈ l, x.ps.length ≤ 1000000) := Lib.hid (fun l hl x hx => by
    have := parseF_cnt (hpo.trans hl) x hx
    rw [btL_length] at this
    omega)
  rw [hpo] at PS
  have HZ : Hid (Z = if h = true then (match po with
    | some l => rlimG l
    | none => (0, false)) else (0, false)) := Lib.hid (by rw [← hZ]; unfold rlimH; rw [hv, hh, hpo])
  rw [hZ]
  obtain ⟨N, hN⟩ : ∃ N, hs.length = N := ⟨_, rfl⟩
  rw [hN] at FD ⊢
  clear hZ hv hh hpo hN hvz hl hz hA hSa
  go_enter Tryz.func31, Tryz.ntmps31
  go_wp2_with fail
  refine FD.out.mono ?_
  rintro e w1 ⟨rfl, hb⟩
  have HB1 := Lib.hid hb
  clear hb FD
  go_wp2_with fail
  refine (PS.out _).mono ?_
  rintro e w2 ⟨ok, L, n, a, cap, rfl, hP, hn, hI, hno, hb⟩
  have HB2 := Lib.hid (HB1.out.trans (hb.mono HB1.out.size))
  have HI := Lib.hid (hI.mono HB1.out.size)
  have HPP := Lib.hid hP
  clear hP hI hno hb HB1 PS
  cases h with
  | false =>
    have HE : Hid (Z = (0, false)) := Lib.hid (by rw [HZ.out]; rfl)
    clear HZ
    go_wp2
    go_ret2
    exact ⟨by rw [HE.out]; rfl, HB2.out⟩
  | true =>
    cases ok with
    | false =>
      have HE : Hid (Z = (0, false)) := Lib.hid (by rw [HZ.out, HPP.out]; rfl)
      clear HZ HPP
      go_wp2
      go_ret2
      exact ⟨by rw [HE.out]; rfl, HB2.out⟩
    | true =>
      have HG : Hid (rlimG (L.map IX.f) = Z) := Lib.hid (by rw [HZ.out, HPP.out]; rfl)
      have HCN : Hid (∀ x ∈ L, x.ps.length ≤ 1000000) := Lib.hid (fun x hx => by
        have := HCN0.out _ (HPP.out.trans (if_pos rfl)) x.f (List.mem_map_of_mem hx)
        have h2 : x.f.ps.length = x.ps.length := by show (x.ps.map PB.f).length = _; rw [List.length_map]
        omega)
      clear HZ HPP HCN0
      have hL := HI.out.len
      subst hL
      have HSA : Hid (∃ g, (L ≠ [] → a = some ⟨g, 0, none⟩) ∧ (L ≠ [] → IxAt w2 g 0 L)) := Lib.hid (by
        by_cases h0 : L = []
        · exact ⟨0, fun h => absurd h0 h, fun h => absurd h0 h⟩
        · have : 0 < L.length := by cases L with | nil => exact absurd rfl h0 | cons => simp
          obtain ⟨g, ha, _⟩ := HI.out.own.some_ this
          exact ⟨g, fun _ => ha, fun _ => ixAt_of HI.out ha⟩)
      obtain ⟨g, hsa, hat⟩ := HSA.out
      have HS := Lib.hid hsa
      have HA := Lib.hid hat
      clear hsa hat HSA
      have LN := Lib.hid (show L.length ≤ 1000 by omega)
      have N1 := Lib.hid (fun (k : ByteArray) (W : World) (hW : Below w2.heap.size w2 W) => rNumber7_at a g 0 cap L LN.out k W (fun h => ⟨Nat.lt_of_lt_of_le (HA.out h).lt hW.size, fun i x hx j v hv => (hW.cell (HA.out h).lt).trans ((HA.out h).at_ i x hx j v hv)⟩) HS.out)
      obtain ⟨⟨r0, r1⟩, hra⟩ : ∃ z, lastF remK ((L.map IX.f).map kvF) = z := ⟨_, rfl⟩
      obtain ⟨⟨q0, q1⟩, hrb⟩ : ∃ z, lastF resK ((L.map IX.f).map kvF) = z := ⟨_, rfl⟩
      have HG2 : Hid ((if r1 = true ∧ q1 = true ∧ r0 ≤ 0 then (q0, true) else (lpR (-1) (L.map IX.f), decide (0 ≤ lpR (-1) (L.map IX.f)))) = Z) := Lib.hid (by
        rw [← HG.out]
        unfold rlimG
        rw [hra, hrb])
      have NA := Lib.hid (N1.out ⟨#[114, 101, 109, 97, 105, 110, 105, 110, 103]⟩)
      have NB := Lib.hid (N1.out ⟨#[114, 101, 115, 101, 116]⟩)
      rw [show lastF (btL ⟨#[114, 101, 109, 97, 105, 110, 105, 110, 103]⟩) ((L.map IX.f).map kvF) = (r0, r1) from hra] at NA
      rw [show lastF (btL ⟨#[114, 101, 115, 101, 116]⟩) ((L.map IX.f).map kvF) = (q0, q1) from hrb] at NB
      clear hra hrb N1 HG
      dsimp only at NA NB
      obtain ⟨m, hm⟩ : ∃ m, L.length = m := ⟨_, rfl⟩
      have HM := Lib.hid hm
      rw [hm] at NA NB hn ⊢
      clear hm
      go_wp2_with fail
      refine (NA.out _ (Below.refl _ _)).mono ?_
      rintro e w3 ⟨rfl, hb⟩
      have HC3 := Lib.hid hb
      clear hb NA
      go_wp2_with fail
      refine (NB.out _ HC3.out).mono ?_
      rintro e w4 ⟨rfl, hb⟩
      have HC4 := Lib.hid (HC3.out.trans (hb.mono HC3.out.size))
      clear hb HC3 NB
      have HBW := Lib.hid (HB2.out.trans (HC4.out.mono HB2.out.size))
      have HI4 := Lib.hid (HI.out.later HC4.out)
      clear HB2 HC4 HI HA
      go_upto_region 7 with fail
      obtain ⟨Q, hQ⟩ : ∃ q : Bool, decide (r1 = true ∧ q1 = true ∧ r0 ≤ 0) = q := ⟨_, rfl⟩
      have HQ := Lib.hid hQ
      clear hQ
      go_cut [51] from 18 (fun v wx => v = .bool Q ∧ wx = w4)
      case first =>
        cases r1 with
        | false =>
          have e : Q = false := by rw [← HQ.out]; simp
          subst e
          go_wp2
          go_meet
          exact ⟨rfl, rfl⟩
        | true =>
          cases q1 with
          | false =>
            have e : Q = false := by rw [← HQ.out]; simp
            subst e
            go_wp2
            go_meet
            exact ⟨rfl, rfl⟩
          | true =>
            have e : decide (r0 ≤ 0) = Q := by rw [← HQ.out]; simp
            have E := Lib.hid e
            cases Q with
            | true =>
              go_wp2
              go_meet
              exact ⟨rfl, rfl⟩
            | false =>
              go_wp2
              go_meet
              exact ⟨rfl, rfl⟩
      case rest =>
      obtain ⟨rfl, he⟩ := hcut
      have he := he.symm
      subst he
      cases Q with
      | true =>
        have HG3 : Hid ((q0, true) = Z) := Lib.hid (by rw [← HG2.out, if_pos (of_decide_eq_true HQ.out)])
        clear HG2 HQ
        go_wp2
        go_ret2
        exact ⟨by rw [← HG3.out]; rfl, HBW.out⟩
      | false =>
        have HG3 : Hid ((lpR (-1) (L.map IX.f), decide (0 ≤ lpR (-1) (L.map IX.f))) = Z) := Lib.hid (by rw [← HG2.out, if_neg (of_decide_eq_false HQ.out)])
        clear HG2 HQ
        go_wp2_with fail
        go_loopw [12, 13] (fun mm j wr => ∃ (i : Nat) (x : Int), i ≤ m ∧ mm = .int .i64 x ∧ j = .int .i64 (i : Int) ∧ Hid (lpR x ((L.drop i).map IX.f) = lpR (-1) (L.map IX.f)) ∧ Hid (Below w.heap.size w wr) ∧ Hid (Below w4.heap.size w4 wr)) (fun _ j _ => m - (intOf j).toNat)
        case atStart => exact ⟨0, -1, by omega, rfl, rfl, Lib.hid rfl, HBW, Lib.hid (Below.refl _ _)⟩
        case round =>
          clear HBW
          obtain ⟨i, x, hi, rfl, rfl, HP, HB, HC⟩ := hrel
          by_cases hlt : i < m
          · have kd : decide ((i : Int) < (m : Int)) = true := decide_eq_true (by omega)
            obtain ⟨z, hz⟩ : ∃ z, L[i]? = some z := ⟨_, List.getElem?_eq_getElem (by rw [HM.out]; exact hlt)⟩
            have hzm : z ∈ L := List.mem_of_getElem? hz
            have HIr := Lib.hid (HI4.out.later HC.out)
            obtain ⟨g2, ha, _⟩ := HIr.out.own.some_ (by rw [← HM.out] at hlt; omega)
            have AT := ixAt_of HIr.out ha
            have k0 := AT.at_ i z hz 0 _ rfl
            have k1 := AT.at_ i z hz 1 _ rfl
            have k2 := AT.at_ i z hz 2 _ rfl
            have k3 := AT.at_ i z hz 3 _ rfl
            have k4 := AT.at_ i z hz 4 _ rfl
            have hatl := AT.lt
            have hpar := HIr.out.par z hzm
            have hdr : L.drop i = z :: L.drop (i + 1) := by
              obtain ⟨hb, he⟩ := List.getElem?_eq_some_iff.1 hz
              rw [← he]
              exact List.drop_eq_getElem_cons hb
            simp only [Nat.zero_add, Nat.add_zero] at k0 k1 k2 k3 k4
            obtain ⟨⟨key, ⟨vk, vn, vs⟩⟩, ps, nn, pa, pc⟩ := z
            dsimp only at k0 k1 k2 k3 k4 hpar
            obtain ⟨hp1, hp2, _⟩ := hpar
            obtain ⟨⟨a0, a2⟩, ha1⟩ : ∃ z, lastF [114] (ps.map PB.f) = z := ⟨_, rfl⟩
            obtain ⟨⟨b0, b2⟩, hb1⟩ : ∃ z, lastF [116] (ps.map PB.f) = z := ⟨_, rfl⟩
            have HP2 : Hid (lpR (if a2 = true ∧ b2 = true ∧ a0 ≤ 0 ∧ x < b0 then b0 else x) ((L.drop (i + 1)).map IX.f) = lpR (-1) (L.map IX.f)) := Lib.hid (by
              rw [← HP.out, hdr]
              show _ = lpR (if (lastF [114] (ps.map PB.f)).2 = true ∧ (lastF [116] (ps.map PB.f)).2 = true ∧ (lastF [114] (ps.map PB.f)).1 ≤ 0 ∧ x < (lastF [116] (ps.map PB.f)).1 then (lastF [116] (ps.map PB.f)).1 else x) _
              rw [ha1, hb1])
            have hnn : ps.length ≤ 1000000 := HCN.out _ hzm
            subst hp2
            have HSP : Hid (∃ g, (ps ≠ [] → pa = some ⟨g, 0, none⟩) ∧ (ps ≠ [] → PbAt wr g 0 ps)) := Lib.hid (by
              by_cases h0 : ps = []
              · exact ⟨0, fun h => absurd h0 h, fun h => absurd h0 h⟩
              · have : 0 < ps.length := by cases ps with | nil => exact absurd rfl h0 | cons => simp
                obtain ⟨g, ha, _⟩ := hp1.some_ this
                exact ⟨g, fun _ => ha, fun _ => pbAt_of hp1 ha⟩)
            obtain ⟨gp, hsp, hpt⟩ := HSP.out
            have PR := Lib.hid (fun (kk : ByteArray) (W : World) (hW : Below wr.heap.size wr W) => rparam7_at key vs vk vn pa gp 0 pc ps hnn kk W (fun h => ⟨Nat.lt_of_lt_of_le (hpt h).lt hW.size, fun i x hx j v hv => (hW.cell (hpt h).lt).trans ((hpt h).at_ i x hx j v hv)⟩) hsp)
            have PA := Lib.hid (PR.out ⟨#[114]⟩)
            have PB' := Lib.hid (PR.out ⟨#[116]⟩)
            rw [show lastF (btL ⟨#[114]⟩) (ps.map PB.f) = (a0, a2) from ha1] at PA
            rw [show lastF (btL ⟨#[116]⟩) (ps.map PB.f) = (b0, b2) from hb1] at PB'
            dsimp only at PA PB'
            have ix0 : (0 : Int) ≤ (i : Int) := by omega
            have ix1 : (i : Int) < (m : Int) := by omega
            subst ha
            have K0 := Lib.hid k0
            have K1 := Lib.hid k1
            have K2 := Lib.hid k2
            have K3 := Lib.hid k3
            have K4 := Lib.hid k4
            clear PR ha1 hb1 hsp hpt HSP hp1 hdr hzm hz AT HIr HP
            obtain ⟨pn, hpn⟩ : ∃ q, ps.length = q := ⟨_, rfl⟩
            have HPN := Lib.hid hpn
            rw [hpn] at PA PB' k4 K4
            clear hpn hnn
            go_wp2_with fail
            refine (PA.out _ (Below.refl _ _)).mono ?_
            rintro e w5 ⟨rfl, hb⟩
            have BL5 := Lib.hid hb
            have k0 := (hb.cell hatl).trans K0.out
            have k1 := (hb.cell hatl).trans K1.out
            have k2 := (hb.cell hatl).trans K2.out
            have k3 := (hb.cell hatl).trans K3.out
            have k4 := (hb.cell hatl).trans K4.out
            clear hb PA
            go_wp2_with fail
            refine (PB'.out _ BL5.out).mono ?_
            rintro e w6 ⟨rfl, hb⟩
            have BL6 := Lib.hid (BL5.out.trans (hb.mono BL5.out.size))
            have HB6 := Lib.hid (HB.out.trans (BL6.out.mono HB.out.size))
            have HC6 := Lib.hid (HC.out.trans (BL6.out.mono HC.out.size))
            clear hb k0 k1 k2 k3 k4 K0 K1 K2 K3 K4 BL5 BL6 PB' HB HC
            by_cases hall : a2 = true ∧ b2 = true ∧ a0 ≤ 0 ∧ x < b0
            · have HP3 : Hid (lpR b0 ((L.drop (i + 1)).map IX.f) = lpR (-1) (L.map IX.f)) := Lib.hid (by rw [← HP2.out]; exact congrArg (fun z => lpR z _) (if_pos hall).symm)
              obtain ⟨rfl, rfl, h1, h2⟩ := hall
              have d1 : decide (a0 ≤ 0) = true := decide_eq_true h1
              have d2 : decide (x < b0) = true := decide_eq_true h2
              clear HP2 h1 h2
              go_wp2
              go_roundw
              case rel => exact ⟨i + 1, b0, by omega, rfl, by go_num, HP3, HB6, HC6⟩
              case measure => simp [intOf]; omega
            · have HP3 : Hid (lpR x ((L.drop (i + 1)).map IX.f) = lpR (-1) (L.map IX.f)) := Lib.hid (by rw [← HP2.out]; exact congrArg (fun z => lpR z _) (if_neg hall).symm)
              clear HP2
              cases a2 with
              | false =>
                clear hall
                go_wp2
                go_roundw
                case rel => exact ⟨i + 1, x, by omega, rfl, by go_num, HP3, HB6, HC6⟩
                case measure => simp [intOf]; omega
              | true =>
                cases b2 with
                | false =>
                  clear hall
                  go_wp2
                  go_roundw
                  case rel => exact ⟨i + 1, x, by omega, rfl, by go_num, HP3, HB6, HC6⟩
                  case measure => simp [intOf]; omega
                | true =>
                  by_cases h1 : a0 ≤ 0
                  · have d1 : decide (a0 ≤ 0) = true := decide_eq_true h1
                    have d2 : decide (x < b0) = false := decide_eq_false (fun h2 => hall ⟨rfl, rfl, h1, h2⟩)
                    clear hall h1
                    go_wp2
                    go_roundw
                    case rel => exact ⟨i + 1, x, by omega, rfl, by go_num, HP3, HB6, HC6⟩
                    case measure => simp [intOf]; omega
                  · have d1 : decide (a0 ≤ 0) = false := decide_eq_false h1
                    clear hall h1
                    go_wp2
                    go_roundw
                    case rel => exact ⟨i + 1, x, by omega, rfl, by go_num, HP3, HB6, HC6⟩
                    case measure => simp [intOf]; omega
          · have kd : decide ((i : Int) < (m : Int)) = false := decide_eq_false (by omega)
            have e : L.drop i = [] := List.drop_eq_nil_of_le (by rw [HM.out]; omega)
            have hx : x = lpR (-1) (L.map IX.f) := by rw [← HP.out, e]; rfl
            obtain ⟨Q, hQ⟩ : ∃ q, decide (0 ≤ x) = q := ⟨_, rfl⟩
            have HE : Hid ((x, Q) = Z) := Lib.hid (by rw [← HG3.out, ← hx, hQ])
            clear e HP hx
            go_wp2
            go_ret2
            exact ⟨by rw [← HE.out]; rfl, HB.out⟩
/-- The document's Reset is the program's. -/
theorem rreset7_at (sa : Option Addr) (g off c : Nat) (hs : HL) (hl : hs.length ≤ 1000000) (hz : ∀ x ∈ hs, x.1.size ≤ 1000000 ∧ x.2.size ≤ 1000000) (now : Int) (w : World) (hA : hs ≠ [] → HdAt w g off hs) (hSa : hs ≠ [] → sa = some ⟨g, off, none⟩) :
    Calls Tryz.prog 14 #[.slice sa hs.length c, .int .i64 now] w (OptP (resO now hs) w) :=
  rreset_at sa g off c hs hl hz now w hA hSa _ _ (rlimH_is hs) (fun W hW => rlimit7_at sa g off c hs hl hz W (fun h => ⟨Nat.lt_of_lt_of_le (hA h).lt hW.size, fun i x hx => (hW.cell (hA h).lt).trans ((hA h).nm i x hx), fun i x hx => (hW.cell (hA h).lt).trans ((hA h).vl i x hx)⟩) hSa)
set_option maxHeartbeats 4000000 in
theorem feedResets_walk (x : Option Addr × Nat × Nat) (now : Int) (w : World) (hx : IsHdrs w x) (_w2 : (Lit.int .i64 now).wf = true) (hT : TabD w) :
    Calls Tryz.prog 5 #[.slice x.1 x.2.1 x.2.2, .int .i64 now] w fun e w' => e = .returned (.bool true) ∧ Below w.heap.size w w' := by
  obtain ⟨sa, n, c⟩ := x
  obtain ⟨hs, hl, _, hb, hz, g, off, hsa, hat⟩ := hx
  dsimp only at hl hb hsa ⊢
  subst hl
  have SM := Lib.hid (fsmall_at sa g off c hs hb hz w hat hsa)
  have AW := Lib.hid (fun (W : World) (hW : Below w.heap.size w W) => fawake_at W (hT.later hW))
  have hat' : ∀ (W : World), Below w.heap.size w W → hs ≠ [] → HdAt W g off hs := fun W hW h => ⟨Nat.lt_of_lt_of_le (hat h).lt hW.size, fun i x hx => (hW.cell (hat h).lt).trans ((hat h).nm i x hx), fun i x hx => (hW.cell (hat h).lt).trans ((hat h).vl i x hx)⟩
  obtain ⟨q, hq⟩ : ∃ q, decide (bulkH hs < 3000) = q := ⟨_, rfl⟩
  rw [hq] at SM
  obtain ⟨a, ha⟩ : ∃ a, (resO now hs).getD 0 = a := ⟨_, rfl⟩
  obtain ⟨b, hb2⟩ : ∃ b, (resO now hs).isSome = b := ⟨_, rfl⟩
  have P : Hid (q = true → ∀ (W : World), Below w.heap.size w W → Calls Tryz.prog 13 #[.slice sa hs.length c, .int .i64 now] W fun e w' => e = .returned (.tuple #[.int .i64 a, .bool b]) ∧ Below W.heap.size W w') := Lib.hid (fun hq' W hW => by
    rw [hq'] at hq
    have hf := of_decide_eq_true hq
    obtain ⟨f1, f2⟩ := bulkH_few hs
    have := freset_at sa g off c hs (by omega) (fun x hx => by have := f2 x hx; omega) now W (hat' W hW) hsa
    rw [← ha, ← hb2]
    exact this)
  have R : Hid (q = true → ∀ (W : World), Below w.heap.size w W → Calls Tryz.prog 14 #[.slice sa hs.length c, .int .i64 now] W fun e w' => e = .returned (.tuple #[.int .i64 a, .bool b]) ∧ Below W.heap.size W w') := Lib.hid (fun hq' W hW => by
    rw [hq'] at hq
    have hf := of_decide_eq_true hq
    obtain ⟨f1, f2⟩ := bulkH_few hs
    have := rreset7_at sa g off c hs (by omega) (fun x hx => by have := f2 x hx; omega) now W (hat' W hW) hsa
    rw [← ha, ← hb2]
    exact this)
  obtain ⟨N, hN⟩ : ∃ N, hs.length = N := ⟨_, rfl⟩
  rw [hN] at SM P R ⊢
  clear hN hq ha hb2 hat hat' hsa hb hz hT _w2
  have k1 : (a == a) = true := by simp
  have k2 : (b == b) = true := by simp
  go_enter Tryz.func5, Tryz.ntmps5
  go_wp2_with fail
  refine SM.out.mono ?_
  rintro e w1 ⟨rfl, hb⟩
  have HB1 := Lib.hid hb
  clear hb SM
  cases q with
  | false =>
    go_wp2_with fail
    refine (AW.out _ HB1.out).mono ?_
    rintro e w2 ⟨rfl, hb⟩
    have HB2 := Lib.hid (HB1.out.trans (hb.mono HB1.out.size))
    clear hb
    go_wp2
    go_ret
    exact ⟨rfl, HB2.out⟩
  | true =>
    go_wp2_with fail
    refine (P.out (by simp) _ HB1.out).mono ?_
    rintro e w2 ⟨rfl, hb⟩
    have HB2 := Lib.hid (HB1.out.trans (hb.mono HB1.out.size))
    clear hb HB1 P
    go_wp2_with fail
    refine (R.out (by simp) _ HB2.out).mono ?_
    rintro e w3 ⟨rfl, hb⟩
    have HB3 := Lib.hid (HB2.out.trans (hb.mono HB2.out.size))
    clear hb HB2 R
    go_wp2_with fail
    refine (AW.out _ HB3.out).mono ?_
    rintro e w4 ⟨rfl, hb⟩
    have HB4 := Lib.hid (HB3.out.trans (hb.mono HB3.out.size))
    clear hb HB3
    go_wp2
    go_ret
    exact ⟨rfl, HB4.out⟩
end Go.Proofs.YtodibjpojfipoaaGreatDoor
