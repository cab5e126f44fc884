/- DiskSure, walked. -/
import Derived.Test.YtmpemldddclceaaDkOpen
namespace Go.Proofs.Ytmpemldddclceaa
open Go Go.RowKit Go.Maps
set_option linter.unusedVariables false
set_option linter.unusedSimpArgs false
set_option maxRecDepth 10000

/-- One segment at most. -/
def One (S : Sgs) (A : List Int) : Prop := (S = [] ∧ A = []) ∨ S = [(7, A)]
theorem One.gd {S : Sgs} {A : List Int} (h : One S A) : gD S 7 = A := by
  rcases h with ⟨rfl, rfl⟩ | rfl <;> rfl
theorem One.put {S : Sgs} {A : List Int} (h : One S A) (b : List Int) : One (pS S 7 b) b := by
  rcases h with ⟨rfl, rfl⟩ | rfl <;> exact Or.inr rfl
theorem One.full {S : Sgs} {A : List Int} (h : One S A) (m : Nat) (hm : A.length + m ≤ 2048) : apF S 16 7 m = false := by
  unfold apF
  rw [h.gd, Bool.or_eq_false_iff]
  refine ⟨?_, decide_eq_false (by omega)⟩
  rcases h with ⟨rfl, rfl⟩ | rfl <;> rfl
def SuS (w wr : World) (B d bm : Nat) (A : List Int) (s : Nat) (un : Pcs) : Prop :=
  ∃ S V ua uc, Dm wr B d bm S V ua uc un 16 0 0 ∧ One S A ∧ Below B w wr ∧ (∀ p ∈ un, p.1 = 7) ∧ loose un 7 + s = A.length
def SuC (w wr : World) (B d bm : Nat) (R : List Int) : Prop := ∃ S V ua uc, Dm wr B d bm S V ua uc [] 16 0 0 ∧ One S R ∧ Below B w wr
theorem SuS.bel {w wr : World} {B d bm s : Nat} {A : List Int} {un : Pcs} (h : SuS w wr B d bm A s un) : Below B w wr := by
  obtain ⟨S, V, ua, uc, _, _, hb, _⟩ := h
  exact hb
theorem su_app {w wr : World} {B d bm s : Nat} {A : List Int} {un : Pcs} (h : SuS w wr B d bm A s un) (hB : B ≤ w.heap.size) (hu : un.length ≤ 99) {zs : List Int} {l c : Nat} {a : Option Addr} (hl : zs.length = l) (hl2 : l ≤ 100) (hA : A.length ≤ 1200) (hr : RdC wr a (u8L zs)) (hlow : ∀ g off, a = some ⟨g, off, none⟩ → zs ≠ [] → g < B) :
    Calls Try.prog 9 #[.pointer (some ⟨d, 0, none⟩), .int .i64 7, .slice a l c] wr fun e w' => e = .returned (.int .i64 0) ∧ Hid (SuS w w' B d bm (A ++ zs) s (un ++ [(7, l)])) := by
  obtain ⟨S, V, ua, uc, hd, h1, hb, h7, hs⟩ := h
  refine (app_at hd 7 (by decide) (by decide) (by omega) zs l hl (by omega) a c hr (fun g off e hne hm => ?_)).mono fun e w' hp => ?_
  · have := hlow g off e hne
    have := (hd.mine hm).2
    omega
  · rw [AppP, hl, h1.full l (by omega), show wfB 0 0 = false from rfl] at hp
    rcases hp with ⟨h, _⟩ | ⟨_, h, _⟩ | ⟨_, _, he, V', ua', uc', k1, k2⟩
    · cases h
    · cases h
    · refine ⟨he, Lib.hid ⟨_, V', ua', uc', k1, ?_, hb.trans (hd.turn k2 (Nat.le_trans hB hb.size)), fun p hp => ?_, ?_⟩⟩
      · rw [h1.gd]
        exact h1.put _
      · rcases List.mem_append.1 hp with hp | hp
        · exact h7 p hp
        · rw [List.mem_singleton] at hp
          rw [hp]
      · rw [loose_app, List.length_append, if_pos rfl]
        omega
theorem su_sync {w wr : World} {B d bm s : Nat} {A : List Int} {un : Pcs} (h : SuS w wr B d bm A s un) (hB : B ≤ w.heap.size) :
    Calls Try.prog 11 #[.pointer (some ⟨d, 0, none⟩)] wr fun e w' => e = .returned (.int .i64 0) ∧ Hid (SuS w w' B d bm A A.length []) := by
  obtain ⟨S, V, ua, uc, hd, h1, hb, h7, hs⟩ := h
  refine (sync_at hd).mono fun e w' ⟨he, V', ua', uc', k1, k2⟩ => ⟨he, Lib.hid ⟨S, V', ua', uc', k1, h1, hb.trans (hd.turn k2 (Nat.le_trans hB hb.size)), fun p hp => (by cases hp), by simp [loose]⟩⟩
theorem su_crash {w wr : World} {B d bm s : Nat} {A : List Int} {un : Pcs} (h : SuS w wr B d bm A s un) (hB : B ≤ w.heap.size) (k : Int) (hk1 : -9223372036854775808 ≤ k) (hk2 : k ≤ 9223372036854775807) (R : List Int) (hR : A.take (s + (max 0 (min k ((A.length : Int) - (s : Int)))).toNat) = R) :
    Calls Try.prog 16 #[.pointer (some ⟨d, 0, none⟩), .int .i64 k] wr fun e w' => e = .returned (.tuple #[]) ∧ Hid (SuC w w' B d bm R) := by
  obtain ⟨S, V, ua, uc, hd, h1, hb, h7, hs⟩ := h
  refine (crash_at hd k hk1 hk2).mono fun e w' ⟨he, V', ua', uc', k1, k2⟩ => ⟨he, Lib.hid ⟨_, V', ua', uc', k1, ?_, hb.trans (hd.turn k2 (Nat.le_trans hB hb.size))⟩⟩
  rcases h1 with ⟨rfl, rfl⟩ | rfl
  · have hun : un = [] := by
      cases un with
      | nil => rfl
      | cons p t =>
        have := hd.un_ok.1 p List.mem_cons_self
        simp [gS] at this
    subst hun
    exact Or.inl ⟨rfl, by rw [← hR, List.take_nil]⟩
  · rw [crash_one un k A h7 (by omega)]
    refine Or.inr ?_
    rw [← hR]
    congr 3
    omega
theorem su_read {w wr : World} {B d bm : Nat} {R : List Int} (h : SuC w wr B d bm R) (hB : B ≤ w.heap.size) :
    Calls Try.prog 19 #[.pointer (some ⟨d, 0, none⟩), .int .i64 7] wr fun e w' => ∃ a l c er, e = .returned (.tuple #[.slice a l c, .int .i64 er]) ∧ Hid (RdC w' a (u8L R) ∧ R.length = l) ∧ Hid (Below B w w') := by
  obtain ⟨S, V, ua, uc, hd, h1, hb⟩ := h
  refine (read_at hd 7 (by decide)).mono fun e w' hp => ?_
  rcases hp with ⟨hn, he, hbw⟩ | ⟨hs, a, c, he, ho, hbw⟩
  · have hR : R = [] := by
      rcases h1 with ⟨_, h⟩ | rfl
      · exact h
      · simp [gS] at hn
    subst hR
    exact ⟨none, 0, 0, 4, he, Lib.hid ⟨fun j u hj => by simp [u8L] at hj, rfl⟩, Lib.hid (hb.trans (hbw.mono (Nat.le_trans hB hb.size)))⟩
  · rw [h1.gd] at he ho
    refine ⟨a, _, c, 0, he, Lib.hid ⟨fun j u hj => ?_, rfl⟩, Lib.hid (hb.trans (hbw.mono (Nat.le_trans hB hb.size)))⟩
    have h0 : 0 < R.length := by
      have := (List.getElem?_eq_some_iff.1 hj).1
      rw [u8L_len] at this
      omega
    obtain ⟨g, rfl, _⟩ := ho.some_ h0
    exact ⟨g, 0, rfl, by rw [Nat.zero_add]; exact ho.cell hj⟩
set_option maxHeartbeats 8000000 in
theorem diskSure_w (a : Option Addr) (len cap b off : Nat) (sq k : Int) (w : World) (hlen : len ≤ maxLen) (ha : 0 < len → a = some ⟨b, off, none⟩) (hel : ∀ i, i < len → ∃ v, w.cell? ⟨b, off + i, none⟩ = some v ∧ RdS w v) (hsq : 0 ≤ sq) (hsq2 : sq ≤ 255) (hk1 : -9223372036854775808 ≤ k) (hk2 : k ≤ 9223372036854775807) :
    Calls Try.prog 4 #[.slice a len cap, .int .u8 sq, .int .i64 k] w fun e w' => e = .returned (.bool true) ∧ Below w.heap.size w w' := by
  unfold maxLen at hlen
  have HA := Lib.hid ha
  have HEL := Lib.hid hel
  have AW := Lib.hid (fun W => d_awake W)
  have HKB : Hid (-9223372036854775808 ≤ k ∧ k ≤ 9223372036854775807) := Lib.hid ⟨hk1, hk2⟩
  clear ha hel
  go_enter Try.func4, Try.ntmps4
  go_wp2_with fail
  refine (dnew_at 16 w w.heap.size (Nat.le_refl _)).mono ?_
  rintro e w1 ⟨rfl, k1, b1⟩
  obtain ⟨B, hB⟩ : ∃ B, w.heap.size = B := ⟨_, rfl⟩
  rw [hB] at k1 b1 ⊢
  have HB0 : Hid (B ≤ w.heap.size) := Lib.hid (Nat.le_of_eq hB.symm)
  have HBE : Hid (B = w.heap.size) := Lib.hid hB.symm
  clear hB
  rw [show moI 16 = 16 from rfl] at k1
  have S0 : Hid (SuS w w1 B (B + 1) B [] 0 []) := Lib.hid ⟨[], _, none, 0, k1, Or.inl ⟨rfl, rfl⟩, b1, fun p hp => (by cases hp), rfl⟩
  clear k1 b1
  go_wp2_with fail
  go_loopw [8, 9, 10] (fun vs va vi wr => ∃ (i s : Nat) (A : List Int) (un : Pcs) (ss al : ByteArray), i ≤ len ∧ i ≤ 12 ∧ vs = .string ss ∧ va = .string al ∧ vi = .int .i64 (i : Int) ∧ A.length ≤ 100 * i ∧ un.length ≤ i ∧ Hid (ss = strL (A.take s)) ∧ Hid (al = strL A) ∧ s ≤ A.length ∧ Hid (SuS w wr B (B + 1) B A s un)) (fun _ _ vi _ => 12 - (vI vi).toNat)
  case atStart => exact ⟨0, 0, [], [], ByteArray.empty, ByteArray.empty, by omega, by omega, rfl, rfl, rfl, by simp, by simp, Lib.hid rfl, Lib.hid rfl, by simp, S0⟩
  case round =>
    obtain ⟨i, s, A, un, ss, al, hi, hi12, rfl, rfl, rfl, hAl, hul, HSS, HAS, hsA, HS⟩ := hrel
    clear S0
    obtain ⟨wo, rfl⟩ : ∃ W, W = wr := ⟨_, rfl⟩
    by_cases hgo : i < len ∧ i < 12
    · obtain ⟨h1, h2⟩ := hgo
      have d1 : decide ((i : Int) < (len : Int)) = true := decide_eq_true (by omega)
      have d2 : decide ((i : Int) < 12) = true := decide_eq_true (by omega)
      obtain ⟨v, hv, hrs⟩ := HEL.out i h1
      obtain ⟨ai, li, ci, zs, rfl, hzl, hzb, hzr⟩ := hrs
      have haa := HA.out (by omega)
      subst haa
      have hbl : Below w.heap.size w wo := by have h9 := HS.out.bel; rw [HBE.out] at h9; exact h9
      have m0 : wo.cell? ⟨b, off + i, none⟩ = some (.slice ai li ci) := (hbl.cell (World.block_lt_of_cell? _ _ hv)).trans hv
      have HZR := Lib.hid (hzr.later hbl)
      have HZW := Lib.hid hzr
      have HVV := Lib.hid hv
      have HZL := Lib.hid hzl
      have HLOW : Hid (∀ g off, ai = some ⟨g, off, none⟩ → zs ≠ [] → g < B) := Lib.hid (fun g o e hne => by
        obtain ⟨b2, o2, e2, hc⟩ := hzr 0 (.int .u8 (zs[0]'(List.length_pos_iff.2 hne))) (by unfold u8L; simp [List.length_pos_iff.2 hne])
        rw [e] at e2
        injection e2 with e2
        injection e2 with e2 _ _
        rw [e2, HBE.out]
        exact World.block_lt_of_cell? _ _ hc)
      have hx0 : (0 : Int) ≤ (i : Int) := by omega
      have hx1 : (i : Int) < (len : Int) := by omega
      clear hv hzr hzb hbl hzl
      by_cases hbig : 100 < li
      · have d3 : decide ((100 : Int) < (li : Int)) = true := decide_eq_true (by omega)
        have BL := Lib.hid HS.out.bel
        clear HS HEL HA HZR HLOW
        go_wp2_with fail
        refine (AW.out _).mono ?_
        rintro e w6 ⟨rfl, b6⟩
        have B6 : Hid (Below w.heap.size w w6) := Lib.hid (by have h9 := BL.out.trans (b6.mono (Nat.le_trans HB0.out BL.out.size)); rw [HBE.out] at h9; exact h9)
        clear b6
        go_wp2
        go_ret
        exact ⟨rfl, B6.out⟩
      · have d3 : decide ((100 : Int) < (li : Int)) = false := decide_eq_false (by omega)
        have AP := Lib.hid (su_app (c := ci) HS.out HB0.out (by omega) HZL.out (by omega) (by omega) HZR.out HLOW.out)
        clear HS
        go_wp2_with fail
        refine AP.out.mono ?_
        rintro e w2 ⟨rfl, HS2⟩
        have hbl2 : Hid (Below w.heap.size w w2) := Lib.hid (by have h9 := HS2.out.bel; rw [HBE.out] at h9; exact h9)
        obtain ⟨v2, hv2, hrs2⟩ := HEL.out i h1
        have m1 : w2.cell? ⟨b, off + i, none⟩ = some v2 := (hbl2.out.cell (World.block_lt_of_cell? _ _ hv2)).trans hv2
        have hvv : v2 = .slice ai li ci := by
          have h9 := HVV.out
          rw [h9] at hv2
          exact (Option.some.inj hv2).symm
        rw [hvv] at m1
        have HZ2 := Lib.hid (HZW.out.later hbl2.out)
        have t1 : (convert 27 9 (.slice ai li ci)).run Try.prog w2 = .ok (.string (strL zs)) w2 := conv_rdc HZ2.out HZL.out
        obtain ⟨ts, hts⟩ : ∃ t, strL zs = t := ⟨_, rfl⟩
        rw [hts] at t1
        have HTS := Lib.hid hts
        obtain ⟨bq, hbq⟩ : ∃ x, ((i : Int) == sq % 12) = x := ⟨_, rfl⟩
        have HA2 : Hid (al ++ ts = strL (A ++ zs)) := Lib.hid (by rw [strL_app, ← HTS.out, HAS.out])
        have hl2 : (A ++ zs).length ≤ 100 * (i + 1) := by rw [List.length_append, HZL.out]; omega
        have hz1 : al.size ≤ 1200 := by rw [HAS.out, strL_size]; omega
        have hz2 : ts.size ≤ 100 := by rw [← HTS.out, strL_size, HZL.out]; omega
        clear hv2 hrs2 hvv AP m0 HZR HLOW hts HZ2
        cases bq with
        | true =>
          go_wp2_with fail
          refine (su_sync HS2.out HB0.out).mono ?_
          rintro e w3 ⟨rfl, HS3⟩
          clear m1 t1
          go_wp2
          go_roundw
          case rel => exact ⟨i + 1, (A ++ zs).length, A ++ zs, [], al ++ ts, al ++ ts, by omega, by omega, rfl, rfl, by go_num, hl2, by simp, Lib.hid (by rw [List.take_of_length_le (Nat.le_refl _)]; exact HA2.out), HA2, Nat.le_refl _, HS3⟩
          case measure => exact cra_ms 12 i h2
        | false =>
          go_wp2
          go_roundw
          case rel => exact ⟨i + 1, s, A ++ zs, un ++ [(7, li)], ss, al ++ ts, by omega, by omega, rfl, rfl, by go_num, hl2, by rw [List.length_append]; simp; omega, Lib.hid (by rw [List.take_append_of_le_length hsA]; exact HSS.out), HA2, by rw [List.length_append]; omega, HS2⟩
          case measure => exact cra_ms 12 i h2
    · have dd : (¬ i < len) ∨ (i < len ∧ ¬ i < 12) := by
        by_cases h1 : i < len
        · exact Or.inr ⟨h1, fun h => hgo ⟨h1, h⟩⟩
        · exact Or.inl h1
      obtain ⟨WN, hWN⟩ : ∃ n, s + (max 0 (min k ((A.length : Int) - (s : Int)))).toNat = n := ⟨_, rfl⟩
      obtain ⟨La, hLa⟩ : ∃ n, A.length = n := ⟨_, rfl⟩
      have hs1 : ss.size = s := by rw [HSS.out, strL_size, List.length_take]; omega
      have hs2 : al.size = La := by rw [HAS.out, strL_size, hLa]
      have CR := Lib.hid (su_crash HS.out HB0.out k HKB.out.1 HKB.out.2 (A.take WN) (by rw [hWN]))
      have TXT : Hid (strL (A.take WN) = al.extract 0 WN) := Lib.hid (by rw [strL_take, HAS.out])
      rw [hLa] at hWN hsA
      have hLb : La ≤ 1200 := by omega
      clear HS HEL HA hLa HSS HAS hAl hul
      rcases dd with h1 | ⟨h1, h2⟩
      · have p1 : ¬ i < len := h1
        have d1 : decide ((i : Int) < (len : Int)) = false := decide_eq_false (by omega)
        have d1n : decide (i < len) = false := decide_eq_false p1
        go_wp2_with fail
        refine CR.out.mono ?_
        rintro e w7 ⟨rfl, HC7⟩
        clear CR
        go_wp2_with fail
        refine (su_read HC7.out HB0.out).mono ?_
        rintro e w8 ⟨ra, rl, rc, er, rfl, HR8, B8'⟩
        have B8 : Hid (Below w.heap.size w w8) := Lib.hid (by have h9 := B8'.out; rw [HBE.out] at h9; exact h9)
        have TX : Hid (∀ W, Below w8.heap.size w8 W → (convert 27 9 (.slice ra rl rc)).run Try.prog W = .ok (.string (al.extract 0 WN)) W) := Lib.hid (fun W hW => by rw [← TXT.out]; exact conv_rdc (HR8.out.1.later hW) HR8.out.2)
        clear HC7 HR8 B8' TXT
        have hwr : IntKind.i64.wrap ((La : Int) - (s : Int)) = (La : Int) - (s : Int) := IntWalk.i64_in _ (by omega)
        have hWL : WN ≤ La := by omega
        have hWL2 : WN ≤ al.size := by omega
        by_cases hneg : k < 0
        · have d5 : decide (k < 0) = true := decide_eq_true hneg
          by_cases hsl : s < La
          · have d6 : decide ((0 : Int) < (La : Int) - (s : Int)) = true := decide_eq_true (by omega)
            have d6p : (0 : Int) < (La : Int) - (s : Int) := by omega
            have hWS : WN = s := by omega
            subst hWS
            have hw9 : IntKind.i64.wrap ((WN : Int) + 0) = (WN : Int) := by rw [IntWalk.i64_in _ (by omega)]; omega
            have hw8 : IntKind.i64.wrap (WN : Int) = (WN : Int) := IntWalk.i64_in _ (by omega)
            clear hWN hneg
            go_upto_region 24 with fail
            refine wp_region_last 9 (fun w' => Below w8.heap.size w8 w') (by kernel_rfl) ((Below.refl _ _).drew) (fun hHeld hClosed => ?_)
            refine wpAnyL_one (i := 0) rfl (by kernel_rfl) (by kernel_rfl) hClosed (fun KK hK => ?_)
            go_simp
            refine (AW.out _).mono ?_
            rintro e w20 ⟨rfl, b20⟩
            go_wp2_with fail
            refine hK.out _ _ ?_ (fun hClosed hHeld => ?_)
            · exact hHeld.trans (b20.mono hHeld.size)
            clear hK KK
            (first | simp only [List.getElem_toArray, List.getElem_cons_zero, put_at, List.set] | (try simp only [put_at, List.set]))
            clear b20
            refine wpAnyL_take (i := 1) (v := ?_) rfl (by kernel_rfl) (by kernel_rfl) (by kernel_rfl) (by kernel_rfl) (fun _ _ _ h => h) (by kernel_rfl) hClosed (Or.inl ⟨by rfl, ?_⟩) hHeld (fun hClosed => ?_)
            rotate_left
            · intro wv hSw; go_simp; all_goals (with_reducible rfl)
            (try simp only [List.getElem_toArray, List.getElem_cons_succ, List.getElem_cons_zero, put_at, List.set])
            refine wpAnyL_take (i := 2) (v := ?_) rfl (by kernel_rfl) (by kernel_rfl) (by kernel_rfl) (by kernel_rfl) (fun _ _ _ h => h) (by kernel_rfl) hClosed (Or.inl ⟨by rfl, ?_⟩) hHeld (fun hClosed => ?_)
            rotate_left
            · intro wv hSw; go_simp; all_goals (with_reducible rfl)
            (try simp only [List.getElem_toArray, List.getElem_cons_succ, List.getElem_cons_zero, put_at, List.set])
            refine wpAnyL_take (i := 3) (v := ?_) rfl (by kernel_rfl) (by kernel_rfl) (by kernel_rfl) (by kernel_rfl) (fun _ _ _ h => h) (by kernel_rfl) hClosed (Or.inl ⟨by rfl, ?_⟩) hHeld (fun hClosed => ?_)
            rotate_left
            · intro wv hSw; have t1 := TX.out _ hSw; go_simp; all_goals (with_reducible rfl)
            (try simp only [List.getElem_toArray, List.getElem_cons_succ, List.getElem_cons_zero, put_at, List.set])
            refine wpAnyL_take (i := 4) (v := ?_) rfl (by kernel_rfl) (by kernel_rfl) (by kernel_rfl) (by kernel_rfl) (fun _ _ _ h => h) (by kernel_rfl) hClosed (Or.inl ⟨by rfl, ?_⟩) hHeld (fun hClosed => ?_)
            rotate_left
            · intro wv hSw; go_simp; all_goals (with_reducible rfl)
            (try simp only [List.getElem_toArray, List.getElem_cons_succ, List.getElem_cons_zero, put_at, List.set])
            refine wpAnyL_take (i := 5) (v := ?_) rfl (by kernel_rfl) (by kernel_rfl) (by kernel_rfl) (by kernel_rfl) (fun _ _ _ h => h) (by kernel_rfl) hClosed (Or.inl ⟨by rfl, ?_⟩) hHeld (fun hClosed => ?_)
            rotate_left
            · intro wv hSw; go_simp; all_goals (with_reducible rfl)
            (try simp only [List.getElem_toArray, List.getElem_cons_succ, List.getElem_cons_zero, put_at, List.set])
            refine wpAnyL_take (i := 6) (v := ?_) rfl (by kernel_rfl) (by kernel_rfl) (by kernel_rfl) (by kernel_rfl) (fun _ _ _ h => h) (by kernel_rfl) hClosed (Or.inl ⟨by rfl, ?_⟩) hHeld (fun hClosed => ?_)
            rotate_left
            · intro wv hSw; go_simp; all_goals (with_reducible rfl)
            (try simp only [List.getElem_toArray, List.getElem_cons_succ, List.getElem_cons_zero, put_at, List.set])
            refine wpAnyL_take (i := 7) (v := ?_) rfl (by kernel_rfl) (by kernel_rfl) (by kernel_rfl) (by kernel_rfl) (fun _ _ _ h => h) (by kernel_rfl) hClosed (Or.inl ⟨by rfl, ?_⟩) hHeld (fun hClosed => ?_)
            rotate_left
            · intro wv hSw; go_simp; all_goals (with_reducible rfl)
            (try simp only [List.getElem_toArray, List.getElem_cons_succ, List.getElem_cons_zero, put_at, List.set])
            refine wpAnyL_take (i := 8) (v := ?_) rfl (by kernel_rfl) (by kernel_rfl) (by kernel_rfl) (by kernel_rfl) (fun _ _ _ h => h) (by kernel_rfl) hClosed (Or.inl ⟨by rfl, ?_⟩) hHeld (fun hClosed => ?_)
            rotate_left
            · intro wv hSw; go_simp; all_goals (with_reducible rfl)
            (try simp only [List.getElem_toArray, List.getElem_cons_succ, List.getElem_cons_zero, put_at, List.set])
            refine wpAnyL_last rfl (by kernel_rfl) (by kernel_rfl) (fun KK hK => ?_)
            go_simp
            refine hK.out _ _ ?_
            (try simp only [put_at, List.set])
            have FF := Lib.hid (B8.out.trans (hHeld.mono B8.out.size))
            go_wp2
            go_ret
            exact ⟨rfl, FF.out⟩
          · have d6 : decide ((0 : Int) < (La : Int) - (s : Int)) = false := decide_eq_false (by omega)
            have d6p : ¬ (0 : Int) < (La : Int) - (s : Int) := by omega
            have hWS : WN = La := by omega
            subst hWS
            clear hWN hneg
            go_upto_region 24 with fail
            refine wp_region_last 9 (fun w' => Below w8.heap.size w8 w') (by kernel_rfl) ((Below.refl _ _).drew) (fun hHeld hClosed => ?_)
            refine wpAnyL_one (i := 0) rfl (by kernel_rfl) (by kernel_rfl) hClosed (fun KK hK => ?_)
            go_simp
            refine (AW.out _).mono ?_
            rintro e w20 ⟨rfl, b20⟩
            go_wp2_with fail
            refine hK.out _ _ ?_ (fun hClosed hHeld => ?_)
            · exact hHeld.trans (b20.mono hHeld.size)
            clear hK KK
            (first | simp only [List.getElem_toArray, List.getElem_cons_zero, put_at, List.set] | (try simp only [put_at, List.set]))
            clear b20
            refine wpAnyL_take (i := 1) (v := ?_) rfl (by kernel_rfl) (by kernel_rfl) (by kernel_rfl) (by kernel_rfl) (fun _ _ _ h => h) (by kernel_rfl) hClosed (Or.inl ⟨by rfl, ?_⟩) hHeld (fun hClosed => ?_)
            rotate_left
            · intro wv hSw; go_simp; all_goals (with_reducible rfl)
            (try simp only [List.getElem_toArray, List.getElem_cons_succ, List.getElem_cons_zero, put_at, List.set])
            refine wpAnyL_take (i := 2) (v := ?_) rfl (by kernel_rfl) (by kernel_rfl) (by kernel_rfl) (by kernel_rfl) (fun _ _ _ h => h) (by kernel_rfl) hClosed (Or.inl ⟨by rfl, ?_⟩) hHeld (fun hClosed => ?_)
            rotate_left
            · intro wv hSw; go_simp; all_goals (with_reducible rfl)
            (try simp only [List.getElem_toArray, List.getElem_cons_succ, List.getElem_cons_zero, put_at, List.set])
            refine wpAnyL_take (i := 3) (v := ?_) rfl (by kernel_rfl) (by kernel_rfl) (by kernel_rfl) (by kernel_rfl) (fun _ _ _ h => h) (by kernel_rfl) hClosed (Or.inl ⟨by rfl, ?_⟩) hHeld (fun hClosed => ?_)
            rotate_left
            · intro wv hSw; have t1 := TX.out _ hSw; go_simp; all_goals (with_reducible rfl)
            (try simp only [List.getElem_toArray, List.getElem_cons_succ, List.getElem_cons_zero, put_at, List.set])
            refine wpAnyL_take (i := 4) (v := ?_) rfl (by kernel_rfl) (by kernel_rfl) (by kernel_rfl) (by kernel_rfl) (fun _ _ _ h => h) (by kernel_rfl) hClosed (Or.inl ⟨by rfl, ?_⟩) hHeld (fun hClosed => ?_)
            rotate_left
            · intro wv hSw; go_simp; all_goals (with_reducible rfl)
            (try simp only [List.getElem_toArray, List.getElem_cons_succ, List.getElem_cons_zero, put_at, List.set])
            refine wpAnyL_take (i := 5) (v := ?_) rfl (by kernel_rfl) (by kernel_rfl) (by kernel_rfl) (by kernel_rfl) (fun _ _ _ h => h) (by kernel_rfl) hClosed (Or.inl ⟨by rfl, ?_⟩) hHeld (fun hClosed => ?_)
            rotate_left
            · intro wv hSw; go_simp; all_goals (with_reducible rfl)
            (try simp only [List.getElem_toArray, List.getElem_cons_succ, List.getElem_cons_zero, put_at, List.set])
            refine wpAnyL_take (i := 6) (v := ?_) rfl (by kernel_rfl) (by kernel_rfl) (by kernel_rfl) (by kernel_rfl) (fun _ _ _ h => h) (by kernel_rfl) hClosed (Or.inl ⟨by rfl, ?_⟩) hHeld (fun hClosed => ?_)
            rotate_left
            · intro wv hSw; go_simp; all_goals (with_reducible rfl)
            (try simp only [List.getElem_toArray, List.getElem_cons_succ, List.getElem_cons_zero, put_at, List.set])
            refine wpAnyL_take (i := 7) (v := ?_) rfl (by kernel_rfl) (by kernel_rfl) (by kernel_rfl) (by kernel_rfl) (fun _ _ _ h => h) (by kernel_rfl) hClosed (Or.inl ⟨by rfl, ?_⟩) hHeld (fun hClosed => ?_)
            rotate_left
            · intro wv hSw; go_simp; all_goals (with_reducible rfl)
            (try simp only [List.getElem_toArray, List.getElem_cons_succ, List.getElem_cons_zero, put_at, List.set])
            refine wpAnyL_take (i := 8) (v := ?_) rfl (by kernel_rfl) (by kernel_rfl) (by kernel_rfl) (by kernel_rfl) (fun _ _ _ h => h) (by kernel_rfl) hClosed (Or.inl ⟨by rfl, ?_⟩) hHeld (fun hClosed => ?_)
            rotate_left
            · intro wv hSw; go_simp; all_goals (with_reducible rfl)
            (try simp only [List.getElem_toArray, List.getElem_cons_succ, List.getElem_cons_zero, put_at, List.set])
            refine wpAnyL_last rfl (by kernel_rfl) (by kernel_rfl) (fun KK hK => ?_)
            go_simp
            refine hK.out _ _ ?_
            (try simp only [put_at, List.set])
            have FF := Lib.hid (B8.out.trans (hHeld.mono B8.out.size))
            go_wp2
            go_ret
            exact ⟨rfl, FF.out⟩
        · have d5 : decide (k < 0) = false := decide_eq_false hneg
          obtain ⟨K, rfl⟩ : ∃ K : Nat, k = (K : Int) := ⟨k.toNat, by omega⟩
          by_cases hsl : (K : Int) < (La : Int) - (s : Int)
          · have d6 : decide ((K : Int) < (La : Int) - (s : Int)) = true := decide_eq_true hsl
            have hWS : WN = s + K := by omega
            have hw9 : IntKind.i64.wrap ((s : Int) + (K : Int)) = (WN : Int) := by rw [IntWalk.i64_in _ (by omega)]; omega
            clear hWN hWS
            go_upto_region 24 with fail
            refine wp_region_last 9 (fun w' => Below w8.heap.size w8 w') (by kernel_rfl) ((Below.refl _ _).drew) (fun hHeld hClosed => ?_)
            refine wpAnyL_one (i := 0) rfl (by kernel_rfl) (by kernel_rfl) hClosed (fun KK hK => ?_)
            go_simp
            refine (AW.out _).mono ?_
            rintro e w20 ⟨rfl, b20⟩
            go_wp2_with fail
            refine hK.out _ _ ?_ (fun hClosed hHeld => ?_)
            · exact hHeld.trans (b20.mono hHeld.size)
            clear hK KK
            (first | simp only [List.getElem_toArray, List.getElem_cons_zero, put_at, List.set] | (try simp only [put_at, List.set]))
            clear b20
            refine wpAnyL_take (i := 1) (v := ?_) rfl (by kernel_rfl) (by kernel_rfl) (by kernel_rfl) (by kernel_rfl) (fun _ _ _ h => h) (by kernel_rfl) hClosed (Or.inl ⟨by rfl, ?_⟩) hHeld (fun hClosed => ?_)
            rotate_left
            · intro wv hSw; go_simp; all_goals (with_reducible rfl)
            (try simp only [List.getElem_toArray, List.getElem_cons_succ, List.getElem_cons_zero, put_at, List.set])
            refine wpAnyL_take (i := 2) (v := ?_) rfl (by kernel_rfl) (by kernel_rfl) (by kernel_rfl) (by kernel_rfl) (fun _ _ _ h => h) (by kernel_rfl) hClosed (Or.inl ⟨by rfl, ?_⟩) hHeld (fun hClosed => ?_)
            rotate_left
            · intro wv hSw; go_simp; all_goals (with_reducible rfl)
            (try simp only [List.getElem_toArray, List.getElem_cons_succ, List.getElem_cons_zero, put_at, List.set])
            refine wpAnyL_take (i := 3) (v := ?_) rfl (by kernel_rfl) (by kernel_rfl) (by kernel_rfl) (by kernel_rfl) (fun _ _ _ h => h) (by kernel_rfl) hClosed (Or.inl ⟨by rfl, ?_⟩) hHeld (fun hClosed => ?_)
            rotate_left
            · intro wv hSw; have t1 := TX.out _ hSw; go_simp; all_goals (with_reducible rfl)
            (try simp only [List.getElem_toArray, List.getElem_cons_succ, List.getElem_cons_zero, put_at, List.set])
            refine wpAnyL_take (i := 4) (v := ?_) rfl (by kernel_rfl) (by kernel_rfl) (by kernel_rfl) (by kernel_rfl) (fun _ _ _ h => h) (by kernel_rfl) hClosed (Or.inl ⟨by rfl, ?_⟩) hHeld (fun hClosed => ?_)
            rotate_left
            · intro wv hSw; go_simp; all_goals (with_reducible rfl)
            (try simp only [List.getElem_toArray, List.getElem_cons_succ, List.getElem_cons_zero, put_at, List.set])
            refine wpAnyL_take (i := 5) (v := ?_) rfl (by kernel_rfl) (by kernel_rfl) (by kernel_rfl) (by kernel_rfl) (fun _ _ _ h => h) (by kernel_rfl) hClosed (Or.inl ⟨by rfl, ?_⟩) hHeld (fun hClosed => ?_)
            rotate_left
            · intro wv hSw; go_simp; all_goals (with_reducible rfl)
            (try simp only [List.getElem_toArray, List.getElem_cons_succ, List.getElem_cons_zero, put_at, List.set])
            refine wpAnyL_take (i := 6) (v := ?_) rfl (by kernel_rfl) (by kernel_rfl) (by kernel_rfl) (by kernel_rfl) (fun _ _ _ h => h) (by kernel_rfl) hClosed (Or.inl ⟨by rfl, ?_⟩) hHeld (fun hClosed => ?_)
            rotate_left
            · intro wv hSw; go_simp; all_goals (with_reducible rfl)
            (try simp only [List.getElem_toArray, List.getElem_cons_succ, List.getElem_cons_zero, put_at, List.set])
            refine wpAnyL_take (i := 7) (v := ?_) rfl (by kernel_rfl) (by kernel_rfl) (by kernel_rfl) (by kernel_rfl) (fun _ _ _ h => h) (by kernel_rfl) hClosed (Or.inl ⟨by rfl, ?_⟩) hHeld (fun hClosed => ?_)
            rotate_left
            · intro wv hSw; go_simp; all_goals (with_reducible rfl)
            (try simp only [List.getElem_toArray, List.getElem_cons_succ, List.getElem_cons_zero, put_at, List.set])
            refine wpAnyL_take (i := 8) (v := ?_) rfl (by kernel_rfl) (by kernel_rfl) (by kernel_rfl) (by kernel_rfl) (fun _ _ _ h => h) (by kernel_rfl) hClosed (Or.inl ⟨by rfl, ?_⟩) hHeld (fun hClosed => ?_)
            rotate_left
            · intro wv hSw; go_simp; all_goals (with_reducible rfl)
            (try simp only [List.getElem_toArray, List.getElem_cons_succ, List.getElem_cons_zero, put_at, List.set])
            refine wpAnyL_last rfl (by kernel_rfl) (by kernel_rfl) (fun KK hK => ?_)
            go_simp
            refine hK.out _ _ ?_
            (try simp only [put_at, List.set])
            have FF := Lib.hid (B8.out.trans (hHeld.mono B8.out.size))
            go_wp2
            go_ret
            exact ⟨rfl, FF.out⟩
          · have d6 : decide ((K : Int) < (La : Int) - (s : Int)) = false := decide_eq_false hsl
            have hWS : WN = La := by omega
            subst hWS
            clear hWN
            go_upto_region 24 with fail
            refine wp_region_last 9 (fun w' => Below w8.heap.size w8 w') (by kernel_rfl) ((Below.refl _ _).drew) (fun hHeld hClosed => ?_)
            refine wpAnyL_one (i := 0) rfl (by kernel_rfl) (by kernel_rfl) hClosed (fun KK hK => ?_)
            go_simp
            refine (AW.out _).mono ?_
            rintro e w20 ⟨rfl, b20⟩
            go_wp2_with fail
            refine hK.out _ _ ?_ (fun hClosed hHeld => ?_)
            · exact hHeld.trans (b20.mono hHeld.size)
            clear hK KK
            (first | simp only [List.getElem_toArray, List.getElem_cons_zero, put_at, List.set] | (try simp only [put_at, List.set]))
            clear b20
            refine wpAnyL_take (i := 1) (v := ?_) rfl (by kernel_rfl) (by kernel_rfl) (by kernel_rfl) (by kernel_rfl) (fun _ _ _ h => h) (by kernel_rfl) hClosed (Or.inl ⟨by rfl, ?_⟩) hHeld (fun hClosed => ?_)
            rotate_left
            · intro wv hSw; go_simp; all_goals (with_reducible rfl)
            (try simp only [List.getElem_toArray, List.getElem_cons_succ, List.getElem_cons_zero, put_at, List.set])
            refine wpAnyL_take (i := 2) (v := ?_) rfl (by kernel_rfl) (by kernel_rfl) (by kernel_rfl) (by kernel_rfl) (fun _ _ _ h => h) (by kernel_rfl) hClosed (Or.inl ⟨by rfl, ?_⟩) hHeld (fun hClosed => ?_)
            rotate_left
            · intro wv hSw; go_simp; all_goals (with_reducible rfl)
            (try simp only [List.getElem_toArray, List.getElem_cons_succ, List.getElem_cons_zero, put_at, List.set])
            refine wpAnyL_take (i := 3) (v := ?_) rfl (by kernel_rfl) (by kernel_rfl) (by kernel_rfl) (by kernel_rfl) (fun _ _ _ h => h) (by kernel_rfl) hClosed (Or.inl ⟨by rfl, ?_⟩) hHeld (fun hClosed => ?_)
            rotate_left
            · intro wv hSw; have t1 := TX.out _ hSw; go_simp; all_goals (with_reducible rfl)
            (try simp only [List.getElem_toArray, List.getElem_cons_succ, List.getElem_cons_zero, put_at, List.set])
            refine wpAnyL_take (i := 4) (v := ?_) rfl (by kernel_rfl) (by kernel_rfl) (by kernel_rfl) (by kernel_rfl) (fun _ _ _ h => h) (by kernel_rfl) hClosed (Or.inl ⟨by rfl, ?_⟩) hHeld (fun hClosed => ?_)
            rotate_left
            · intro wv hSw; go_simp; all_goals (with_reducible rfl)
            (try simp only [List.getElem_toArray, List.getElem_cons_succ, List.getElem_cons_zero, put_at, List.set])
            refine wpAnyL_take (i := 5) (v := ?_) rfl (by kernel_rfl) (by kernel_rfl) (by kernel_rfl) (by kernel_rfl) (fun _ _ _ h => h) (by kernel_rfl) hClosed (Or.inl ⟨by rfl, ?_⟩) hHeld (fun hClosed => ?_)
            rotate_left
            · intro wv hSw; go_simp; all_goals (with_reducible rfl)
            (try simp only [List.getElem_toArray, List.getElem_cons_succ, List.getElem_cons_zero, put_at, List.set])
            refine wpAnyL_take (i := 6) (v := ?_) rfl (by kernel_rfl) (by kernel_rfl) (by kernel_rfl) (by kernel_rfl) (fun _ _ _ h => h) (by kernel_rfl) hClosed (Or.inl ⟨by rfl, ?_⟩) hHeld (fun hClosed => ?_)
            rotate_left
            · intro wv hSw; go_simp; all_goals (with_reducible rfl)
            (try simp only [List.getElem_toArray, List.getElem_cons_succ, List.getElem_cons_zero, put_at, List.set])
            refine wpAnyL_take (i := 7) (v := ?_) rfl (by kernel_rfl) (by kernel_rfl) (by kernel_rfl) (by kernel_rfl) (fun _ _ _ h => h) (by kernel_rfl) hClosed (Or.inl ⟨by rfl, ?_⟩) hHeld (fun hClosed => ?_)
            rotate_left
            · intro wv hSw; go_simp; all_goals (with_reducible rfl)
            (try simp only [List.getElem_toArray, List.getElem_cons_succ, List.getElem_cons_zero, put_at, List.set])
            refine wpAnyL_take (i := 8) (v := ?_) rfl (by kernel_rfl) (by kernel_rfl) (by kernel_rfl) (by kernel_rfl) (fun _ _ _ h => h) (by kernel_rfl) hClosed (Or.inl ⟨by rfl, ?_⟩) hHeld (fun hClosed => ?_)
            rotate_left
            · intro wv hSw; go_simp; all_goals (with_reducible rfl)
            (try simp only [List.getElem_toArray, List.getElem_cons_succ, List.getElem_cons_zero, put_at, List.set])
            refine wpAnyL_last rfl (by kernel_rfl) (by kernel_rfl) (fun KK hK => ?_)
            go_simp
            refine hK.out _ _ ?_
            (try simp only [put_at, List.set])
            have FF := Lib.hid (B8.out.trans (hHeld.mono B8.out.size))
            go_wp2
            go_ret
            exact ⟨rfl, FF.out⟩
      · have d1 : decide ((i : Int) < (len : Int)) = true := decide_eq_true (by omega)
        have p2 : ¬ i < 12 := h2
        have d2 : decide ((i : Int) < 12) = false := decide_eq_false (by omega)
        have d2n : decide (i < 12) = false := decide_eq_false p2
        go_wp2_with fail
        refine CR.out.mono ?_
        rintro e w7 ⟨rfl, HC7⟩
        clear CR
        go_wp2_with fail
        refine (su_read HC7.out HB0.out).mono ?_
        rintro e w8 ⟨ra, rl, rc, er, rfl, HR8, B8'⟩
        have B8 : Hid (Below w.heap.size w w8) := Lib.hid (by have h9 := B8'.out; rw [HBE.out] at h9; exact h9)
        have TX : Hid (∀ W, Below w8.heap.size w8 W → (convert 27 9 (.slice ra rl rc)).run Try.prog W = .ok (.string (al.extract 0 WN)) W) := Lib.hid (fun W hW => by rw [← TXT.out]; exact conv_rdc (HR8.out.1.later hW) HR8.out.2)
        clear HC7 HR8 B8' TXT
        have hwr : IntKind.i64.wrap ((La : Int) - (s : Int)) = (La : Int) - (s : Int) := IntWalk.i64_in _ (by omega)
        have hWL : WN ≤ La := by omega
        have hWL2 : WN ≤ al.size := by omega
        by_cases hneg : k < 0
        · have d5 : decide (k < 0) = true := decide_eq_true hneg
          by_cases hsl : s < La
          · have d6 : decide ((0 : Int) < (La : Int) - (s : Int)) = true := decide_eq_true (by omega)
            have d6p : (0 : Int) < (La : Int) - (s : Int) := by omega
            have hWS : WN = s := by omega
            subst hWS
            have hw9 : IntKind.i64.wrap ((WN : Int) + 0) = (WN : Int) := by rw [IntWalk.i64_in _ (by omega)]; omega
            have hw8 : IntKind.i64.wrap (WN : Int) = (WN : Int) := IntWalk.i64_in _ (by omega)
            clear hWN hneg
            go_upto_region 24 with fail
            refine wp_region_last 9 (fun w' => Below w8.heap.size w8 w') (by kernel_rfl) ((Below.refl _ _).drew) (fun hHeld hClosed => ?_)
            refine wpAnyL_one (i := 0) rfl (by kernel_rfl) (by kernel_rfl) hClosed (fun KK hK => ?_)
            go_simp
            refine (AW.out _).mono ?_
            rintro e w20 ⟨rfl, b20⟩
            go_wp2_with fail
            refine hK.out _ _ ?_ (fun hClosed hHeld => ?_)
            · exact hHeld.trans (b20.mono hHeld.size)
            clear hK KK
            (first | simp only [List.getElem_toArray, List.getElem_cons_zero, put_at, List.set] | (try simp only [put_at, List.set]))
            clear b20
            refine wpAnyL_take (i := 1) (v := ?_) rfl (by kernel_rfl) (by kernel_rfl) (by kernel_rfl) (by kernel_rfl) (fun _ _ _ h => h) (by kernel_rfl) hClosed (Or.inl ⟨by rfl, ?_⟩) hHeld (fun hClosed => ?_)
            rotate_left
            · intro wv hSw; go_simp; all_goals (with_reducible rfl)
            (try simp only [List.getElem_toArray, List.getElem_cons_succ, List.getElem_cons_zero, put_at, List.set])
            refine wpAnyL_take (i := 2) (v := ?_) rfl (by kernel_rfl) (by kernel_rfl) (by kernel_rfl) (by kernel_rfl) (fun _ _ _ h => h) (by kernel_rfl) hClosed (Or.inl ⟨by rfl, ?_⟩) hHeld (fun hClosed => ?_)
            rotate_left
            · intro wv hSw; go_simp; all_goals (with_reducible rfl)
            (try simp only [List.getElem_toArray, List.getElem_cons_succ, List.getElem_cons_zero, put_at, List.set])
            refine wpAnyL_take (i := 3) (v := ?_) rfl (by kernel_rfl) (by kernel_rfl) (by kernel_rfl) (by kernel_rfl) (fun _ _ _ h => h) (by kernel_rfl) hClosed (Or.inl ⟨by rfl, ?_⟩) hHeld (fun hClosed => ?_)
            rotate_left
            · intro wv hSw; have t1 := TX.out _ hSw; go_simp; all_goals (with_reducible rfl)
            (try simp only [List.getElem_toArray, List.getElem_cons_succ, List.getElem_cons_zero, put_at, List.set])
            refine wpAnyL_take (i := 4) (v := ?_) rfl (by kernel_rfl) (by kernel_rfl) (by kernel_rfl) (by kernel_rfl) (fun _ _ _ h => h) (by kernel_rfl) hClosed (Or.inl ⟨by rfl, ?_⟩) hHeld (fun hClosed => ?_)
            rotate_left
            · intro wv hSw; go_simp; all_goals (with_reducible rfl)
            (try simp only [List.getElem_toArray, List.getElem_cons_succ, List.getElem_cons_zero, put_at, List.set])
            refine wpAnyL_take (i := 5) (v := ?_) rfl (by kernel_rfl) (by kernel_rfl) (by kernel_rfl) (by kernel_rfl) (fun _ _ _ h => h) (by kernel_rfl) hClosed (Or.inl ⟨by rfl, ?_⟩) hHeld (fun hClosed => ?_)
            rotate_left
            · intro wv hSw; go_simp; all_goals (with_reducible rfl)
            (try simp only [List.getElem_toArray, List.getElem_cons_succ, List.getElem_cons_zero, put_at, List.set])
            refine wpAnyL_take (i := 6) (v := ?_) rfl (by kernel_rfl) (by kernel_rfl) (by kernel_rfl) (by kernel_rfl) (fun _ _ _ h => h) (by kernel_rfl) hClosed (Or.inl ⟨by rfl, ?_⟩) hHeld (fun hClosed => ?_)
            rotate_left
            · intro wv hSw; go_simp; all_goals (with_reducible rfl)
            (try simp only [List.getElem_toArray, List.getElem_cons_succ, List.getElem_cons_zero, put_at, List.set])
            refine wpAnyL_take (i := 7) (v := ?_) rfl (by kernel_rfl) (by kernel_rfl) (by kernel_rfl) (by kernel_rfl) (fun _ _ _ h => h) (by kernel_rfl) hClosed (Or.inl ⟨by rfl, ?_⟩) hHeld (fun hClosed => ?_)
            rotate_left
            · intro wv hSw; go_simp; all_goals (with_reducible rfl)
            (try simp only [List.getElem_toArray, List.getElem_cons_succ, List.getElem_cons_zero, put_at, List.set])
            refine wpAnyL_take (i := 8) (v := ?_) rfl (by kernel_rfl) (by kernel_rfl) (by kernel_rfl) (by kernel_rfl) (fun _ _ _ h => h) (by kernel_rfl) hClosed (Or.inl ⟨by rfl, ?_⟩) hHeld (fun hClosed => ?_)
            rotate_left
            · intro wv hSw; go_simp; all_goals (with_reducible rfl)
            (try simp only [List.getElem_toArray, List.getElem_cons_succ, List.getElem_cons_zero, put_at, List.set])
            refine wpAnyL_last rfl (by kernel_rfl) (by kernel_rfl) (fun KK hK => ?_)
            go_simp
            refine hK.out _ _ ?_
            (try simp only [put_at, List.set])
            have FF := Lib.hid (B8.out.trans (hHeld.mono B8.out.size))
            go_wp2
            go_ret
            exact ⟨rfl, FF.out⟩
          · have d6 : decide ((0 : Int) < (La : Int) - (s : Int)) = false := decide_eq_false (by omega)
            have d6p : ¬ (0 : Int) < (La : Int) - (s : Int) := by omega
            have hWS : WN = La := by omega
            subst hWS
            clear hWN hneg
            go_upto_region 24 with fail
            refine wp_region_last 9 (fun w' => Below w8.heap.size w8 w') (by kernel_rfl) ((Below.refl _ _).drew) (fun hHeld hClosed => ?_)
            refine wpAnyL_one (i := 0) rfl (by kernel_rfl) (by kernel_rfl) hClosed (fun KK hK => ?_)
            go_simp
            refine (AW.out _).mono ?_
            rintro e w20 ⟨rfl, b20⟩
            go_wp2_with fail
            refine hK.out _ _ ?_ (fun hClosed hHeld => ?_)
            · exact hHeld.trans (b20.mono hHeld.size)
            clear hK KK
            (first | simp only [List.getElem_toArray, List.getElem_cons_zero, put_at, List.set] | (try simp only [put_at, List.set]))
            clear b20
            refine wpAnyL_take (i := 1) (v := ?_) rfl (by kernel_rfl) (by kernel_rfl) (by kernel_rfl) (by kernel_rfl) (fun _ _ _ h => h) (by kernel_rfl) hClosed (Or.inl ⟨by rfl, ?_⟩) hHeld (fun hClosed => ?_)
            rotate_left
            · intro wv hSw; go_simp; all_goals (with_reducible rfl)
            (try simp only [List.getElem_toArray, List.getElem_cons_succ, List.getElem_cons_zero, put_at, List.set])
            refine wpAnyL_take (i := 2) (v := ?_) rfl (by kernel_rfl) (by kernel_rfl) (by kernel_rfl) (by kernel_rfl) (fun _ _ _ h => h) (by kernel_rfl) hClosed (Or.inl ⟨by rfl, ?_⟩) hHeld (fun hClosed => ?_)
            rotate_left
            · intro wv hSw; go_simp; all_goals (with_reducible rfl)
            (try simp only [List.getElem_toArray, List.getElem_cons_succ, List.getElem_cons_zero, put_at, List.set])
            refine wpAnyL_take (i := 3) (v := ?_) rfl (by kernel_rfl) (by kernel_rfl) (by kernel_rfl) (by kernel_rfl) (fun _ _ _ h => h) (by kernel_rfl) hClosed (Or.inl ⟨by rfl, ?_⟩) hHeld (fun hClosed => ?_)
            rotate_left
            · intro wv hSw; have t1 := TX.out _ hSw; go_simp; all_goals (with_reducible rfl)
            (try simp only [List.getElem_toArray, List.getElem_cons_succ, List.getElem_cons_zero, put_at, List.set])
            refine wpAnyL_take (i := 4) (v := ?_) rfl (by kernel_rfl) (by kernel_rfl) (by kernel_rfl) (by kernel_rfl) (fun _ _ _ h => h) (by kernel_rfl) hClosed (Or.inl ⟨by rfl, ?_⟩) hHeld (fun hClosed => ?_)
            rotate_left
            · intro wv hSw; go_simp; all_goals (with_reducible rfl)
            (try simp only [List.getElem_toArray, List.getElem_cons_succ, List.getElem_cons_zero, put_at, List.set])
            refine wpAnyL_take (i := 5) (v := ?_) rfl (by kernel_rfl) (by kernel_rfl) (by kernel_rfl) (by kernel_rfl) (fun _ _ _ h => h) (by kernel_rfl) hClosed (Or.inl ⟨by rfl, ?_⟩) hHeld (fun hClosed => ?_)
            rotate_left
            · intro wv hSw; go_simp; all_goals (with_reducible rfl)
            (try simp only [List.getElem_toArray, List.getElem_cons_succ, List.getElem_cons_zero, put_at, List.set])
            refine wpAnyL_take (i := 6) (v := ?_) rfl (by kernel_rfl) (by kernel_rfl) (by kernel_rfl) (by kernel_rfl) (fun _ _ _ h => h) (by kernel_rfl) hClosed (Or.inl ⟨by rfl, ?_⟩) hHeld (fun hClosed => ?_)
            rotate_left
            · intro wv hSw; go_simp; all_goals (with_reducible rfl)
            (try simp only [List.getElem_toArray, List.getElem_cons_succ, List.getElem_cons_zero, put_at, List.set])
            refine wpAnyL_take (i := 7) (v := ?_) rfl (by kernel_rfl) (by kernel_rfl) (by kernel_rfl) (by kernel_rfl) (fun _ _ _ h => h) (by kernel_rfl) hClosed (Or.inl ⟨by rfl, ?_⟩) hHeld (fun hClosed => ?_)
            rotate_left
            · intro wv hSw; go_simp; all_goals (with_reducible rfl)
            (try simp only [List.getElem_toArray, List.getElem_cons_succ, List.getElem_cons_zero, put_at, List.set])
            refine wpAnyL_take (i := 8) (v := ?_) rfl (by kernel_rfl) (by kernel_rfl) (by kernel_rfl) (by kernel_rfl) (fun _ _ _ h => h) (by kernel_rfl) hClosed (Or.inl ⟨by rfl, ?_⟩) hHeld (fun hClosed => ?_)
            rotate_left
            · intro wv hSw; go_simp; all_goals (with_reducible rfl)
            (try simp only [List.getElem_toArray, List.getElem_cons_succ, List.getElem_cons_zero, put_at, List.set])
            refine wpAnyL_last rfl (by kernel_rfl) (by kernel_rfl) (fun KK hK => ?_)
            go_simp
            refine hK.out _ _ ?_
            (try simp only [put_at, List.set])
            have FF := Lib.hid (B8.out.trans (hHeld.mono B8.out.size))
            go_wp2
            go_ret
            exact ⟨rfl, FF.out⟩
        · have d5 : decide (k < 0) = false := decide_eq_false hneg
          obtain ⟨K, rfl⟩ : ∃ K : Nat, k = (K : Int) := ⟨k.toNat, by omega⟩
          by_cases hsl : (K : Int) < (La : Int) - (s : Int)
          · have d6 : decide ((K : Int) < (La : Int) - (s : Int)) = true := decide_eq_true hsl
            have hWS : WN = s + K := by omega
            have hw9 : IntKind.i64.wrap ((s : Int) + (K : Int)) = (WN : Int) := by rw [IntWalk.i64_in _ (by omega)]; omega
            clear hWN hWS
            go_upto_region 24 with fail
            refine wp_region_last 9 (fun w' => Below w8.heap.size w8 w') (by kernel_rfl) ((Below.refl _ _).drew) (fun hHeld hClosed => ?_)
            refine wpAnyL_one (i := 0) rfl (by kernel_rfl) (by kernel_rfl) hClosed (fun KK hK => ?_)
            go_simp
            refine (AW.out _).mono ?_
            rintro e w20 ⟨rfl, b20⟩
            go_wp2_with fail
            refine hK.out _ _ ?_ (fun hClosed hHeld => ?_)
            · exact hHeld.trans (b20.mono hHeld.size)
            clear hK KK
            (first | simp only [List.getElem_toArray, List.getElem_cons_zero, put_at, List.set] | (try simp only [put_at, List.set]))
            clear b20
            refine wpAnyL_take (i := 1) (v := ?_) rfl (by kernel_rfl) (by kernel_rfl) (by kernel_rfl) (by kernel_rfl) (fun _ _ _ h => h) (by kernel_rfl) hClosed (Or.inl ⟨by rfl, ?_⟩) hHeld (fun hClosed => ?_)
            rotate_left
            · intro wv hSw; go_simp; all_goals (with_reducible rfl)
            (try simp only [List.getElem_toArray, List.getElem_cons_succ, List.getElem_cons_zero, put_at, List.set])
            refine wpAnyL_take (i := 2) (v := ?_) rfl (by kernel_rfl) (by kernel_rfl) (by kernel_rfl) (by kernel_rfl) (fun _ _ _ h => h) (by kernel_rfl) hClosed (Or.inl ⟨by rfl, ?_⟩) hHeld (fun hClosed => ?_)
            rotate_left
            · intro wv hSw; go_simp; all_goals (with_reducible rfl)
            (try simp only [List.getElem_toArray, List.getElem_cons_succ, List.getElem_cons_zero, put_at, List.set])
            refine wpAnyL_take (i := 3) (v := ?_) rfl (by kernel_rfl) (by kernel_rfl) (by kernel_rfl) (by kernel_rfl) (fun _ _ _ h => h) (by kernel_rfl) hClosed (Or.inl ⟨by rfl, ?_⟩) hHeld (fun hClosed => ?_)
            rotate_left
            · intro wv hSw; have t1 := TX.out _ hSw; go_simp; all_goals (with_reducible rfl)
            (try simp only [List.getElem_toArray, List.getElem_cons_succ, List.getElem_cons_zero, put_at, List.set])
            refine wpAnyL_take (i := 4) (v := ?_) rfl (by kernel_rfl) (by kernel_rfl) (by kernel_rfl) (by kernel_rfl) (fun _ _ _ h => h) (by kernel_rfl) hClosed (Or.inl ⟨by rfl, ?_⟩) hHeld (fun hClosed => ?_)
            rotate_left
            · intro wv hSw; go_simp; all_goals (with_reducible rfl)
            (try simp only [List.getElem_toArray, List.getElem_cons_succ, List.getElem_cons_zero, put_at, List.set])
            refine wpAnyL_take (i := 5) (v := ?_) rfl (by kernel_rfl) (by kernel_rfl) (by kernel_rfl) (by kernel_rfl) (fun _ _ _ h => h) (by kernel_rfl) hClosed (Or.inl ⟨by rfl, ?_⟩) hHeld (fun hClosed => ?_)
            rotate_left
            · intro wv hSw; go_simp; all_goals (with_reducible rfl)
            (try simp only [List.getElem_toArray, List.getElem_cons_succ, List.getElem_cons_zero, put_at, List.set])
            refine wpAnyL_take (i := 6) (v := ?_) rfl (by kernel_rfl) (by kernel_rfl) (by kernel_rfl) (by kernel_rfl) (fun _ _ _ h => h) (by kernel_rfl) hClosed (Or.inl ⟨by rfl, ?_⟩) hHeld (fun hClosed => ?_)
            rotate_left
            · intro wv hSw; go_simp; all_goals (with_reducible rfl)
            (try simp only [List.getElem_toArray, List.getElem_cons_succ, List.getElem_cons_zero, put_at, List.set])
            refine wpAnyL_take (i := 7) (v := ?_) rfl (by kernel_rfl) (by kernel_rfl) (by kernel_rfl) (by kernel_rfl) (fun _ _ _ h => h) (by kernel_rfl) hClosed (Or.inl ⟨by rfl, ?_⟩) hHeld (fun hClosed => ?_)
            rotate_left
            · intro wv hSw; go_simp; all_goals (with_reducible rfl)
            (try simp only [List.getElem_toArray, List.getElem_cons_succ, List.getElem_cons_zero, put_at, List.set])
            refine wpAnyL_take (i := 8) (v := ?_) rfl (by kernel_rfl) (by kernel_rfl) (by kernel_rfl) (by kernel_rfl) (fun _ _ _ h => h) (by kernel_rfl) hClosed (Or.inl ⟨by rfl, ?_⟩) hHeld (fun hClosed => ?_)
            rotate_left
            · intro wv hSw; go_simp; all_goals (with_reducible rfl)
            (try simp only [List.getElem_toArray, List.getElem_cons_succ, List.getElem_cons_zero, put_at, List.set])
            refine wpAnyL_last rfl (by kernel_rfl) (by kernel_rfl) (fun KK hK => ?_)
            go_simp
            refine hK.out _ _ ?_
            (try simp only [put_at, List.set])
            have FF := Lib.hid (B8.out.trans (hHeld.mono B8.out.size))
            go_wp2
            go_ret
            exact ⟨rfl, FF.out⟩
          · have d6 : decide ((K : Int) < (La : Int) - (s : Int)) = false := decide_eq_false hsl
            have hWS : WN = La := by omega
            subst hWS
            clear hWN
            go_upto_region 24 with fail
            refine wp_region_last 9 (fun w' => Below w8.heap.size w8 w') (by kernel_rfl) ((Below.refl _ _).drew) (fun hHeld hClosed => ?_)
            refine wpAnyL_one (i := 0) rfl (by kernel_rfl) (by kernel_rfl) hClosed (fun KK hK => ?_)
            go_simp
            refine (AW.out _).mono ?_
            rintro e w20 ⟨rfl, b20⟩
            go_wp2_with fail
            refine hK.out _ _ ?_ (fun hClosed hHeld => ?_)
            · exact hHeld.trans (b20.mono hHeld.size)
            clear hK KK
            (first | simp only [List.getElem_toArray, List.getElem_cons_zero, put_at, List.set] | (try simp only [put_at, List.set]))
            clear b20
            refine wpAnyL_take (i := 1) (v := ?_) rfl (by kernel_rfl) (by kernel_rfl) (by kernel_rfl) (by kernel_rfl) (fun _ _ _ h => h) (by kernel_rfl) hClosed (Or.inl ⟨by rfl, ?_⟩) hHeld (fun hClosed => ?_)
            rotate_left
            · intro wv hSw; go_simp; all_goals (with_reducible rfl)
            (try simp only [List.getElem_toArray, List.getElem_cons_succ, List.getElem_cons_zero, put_at, List.set])
            refine wpAnyL_take (i := 2) (v := ?_) rfl (by kernel_rfl) (by kernel_rfl) (by kernel_rfl) (by kernel_rfl) (fun _ _ _ h => h) (by kernel_rfl) hClosed (Or.inl ⟨by rfl, ?_⟩) hHeld (fun hClosed => ?_)
            rotate_left
            · intro wv hSw; go_simp; all_goals (with_reducible rfl)
            (try simp only [List.getElem_toArray, List.getElem_cons_succ, List.getElem_cons_zero, put_at, List.set])
            refine wpAnyL_take (i := 3) (v := ?_) rfl (by kernel_rfl) (by kernel_rfl) (by kernel_rfl) (by kernel_rfl) (fun _ _ _ h => h) (by kernel_rfl) hClosed (Or.inl ⟨by rfl, ?_⟩) hHeld (fun hClosed => ?_)
            rotate_left
            · intro wv hSw; have t1 := TX.out _ hSw; go_simp; all_goals (with_reducible rfl)
            (try simp only [List.getElem_toArray, List.getElem_cons_succ, List.getElem_cons_zero, put_at, List.set])
            refine wpAnyL_take (i := 4) (v := ?_) rfl (by kernel_rfl) (by kernel_rfl) (by kernel_rfl) (by kernel_rfl) (fun _ _ _ h => h) (by kernel_rfl) hClosed (Or.inl ⟨by rfl, ?_⟩) hHeld (fun hClosed => ?_)
            rotate_left
            · intro wv hSw; go_simp; all_goals (with_reducible rfl)
            (try simp only [List.getElem_toArray, List.getElem_cons_succ, List.getElem_cons_zero, put_at, List.set])
            refine wpAnyL_take (i := 5) (v := ?_) rfl (by kernel_rfl) (by kernel_rfl) (by kernel_rfl) (by kernel_rfl) (fun _ _ _ h => h) (by kernel_rfl) hClosed (Or.inl ⟨by rfl, ?_⟩) hHeld (fun hClosed => ?_)
            rotate_left
            · intro wv hSw; go_simp; all_goals (with_reducible rfl)
            (try simp only [List.getElem_toArray, List.getElem_cons_succ, List.getElem_cons_zero, put_at, List.set])
            refine wpAnyL_take (i := 6) (v := ?_) rfl (by kernel_rfl) (by kernel_rfl) (by kernel_rfl) (by kernel_rfl) (fun _ _ _ h => h) (by kernel_rfl) hClosed (Or.inl ⟨by rfl, ?_⟩) hHeld (fun hClosed => ?_)
            rotate_left
            · intro wv hSw; go_simp; all_goals (with_reducible rfl)
            (try simp only [List.getElem_toArray, List.getElem_cons_succ, List.getElem_cons_zero, put_at, List.set])
            refine wpAnyL_take (i := 7) (v := ?_) rfl (by kernel_rfl) (by kernel_rfl) (by kernel_rfl) (by kernel_rfl) (fun _ _ _ h => h) (by kernel_rfl) hClosed (Or.inl ⟨by rfl, ?_⟩) hHeld (fun hClosed => ?_)
            rotate_left
            · intro wv hSw; go_simp; all_goals (with_reducible rfl)
            (try simp only [List.getElem_toArray, List.getElem_cons_succ, List.getElem_cons_zero, put_at, List.set])
            refine wpAnyL_take (i := 8) (v := ?_) rfl (by kernel_rfl) (by kernel_rfl) (by kernel_rfl) (by kernel_rfl) (fun _ _ _ h => h) (by kernel_rfl) hClosed (Or.inl ⟨by rfl, ?_⟩) hHeld (fun hClosed => ?_)
            rotate_left
            · intro wv hSw; go_simp; all_goals (with_reducible rfl)
            (try simp only [List.getElem_toArray, List.getElem_cons_succ, List.getElem_cons_zero, put_at, List.set])
            refine wpAnyL_last rfl (by kernel_rfl) (by kernel_rfl) (fun KK hK => ?_)
            go_simp
            refine hK.out _ _ ?_
            (try simp only [put_at, List.set])
            have FF := Lib.hid (B8.out.trans (hHeld.mono B8.out.size))
            go_wp2
            go_ret
            exact ⟨rfl, FF.out⟩
theorem diskSure_walk (x : Option Addr × Nat × Nat) (sq k : Int) (w : World) (hx : IsLst w x) (w1 : (Lit.int .u8 sq).wf = true) (w2 : (Lit.int .i64 k).wf = true) :
    Calls Try.prog 4 #[.slice x.1 x.2.1 x.2.2, .int .u8 sq, .int .i64 k] w fun e w' => e = .returned (.bool true) ∧ Below w.heap.size w w' := by
  obtain ⟨b, off, h1, h2, h3⟩ := hx
  simp [Lit.wf, IntKind.min, IntKind.max, IntKind.signed, IntKind.bits] at w1 w2
  exact diskSure_w x.1 x.2.1 x.2.2 b off sq k w h2 h1 h3 (by omega) (by omega) (by omega) (by omega)
end Go.Proofs.Ytmpemldddclceaa
