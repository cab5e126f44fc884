/- The document's fields: key, blanks. -/
import Derived.Test.YtodibjpojfipoaaGreatDoorFxTx
namespace Go.Proofs.YtodibjpojfipoaaGreatDoor
open Go Go.RowKit
set_option linter.unusedVariables false
set_option linter.unusedSimpArgs false
set_option maxRecDepth 10000

theorem tw_of_dw {p : Int → Bool} {l : List Int} {m : Nat} (hm : m ≤ l.length) (h : l.dropWhile p = l.drop m) : l.takeWhile p = l.take m := by
  have h1 : (l.takeWhile p).length = m := by
    have h2 := congrArg List.length (List.takeWhile_append_dropWhile (p := p) (l := l))
    rw [List.length_append, h, List.length_drop] at h2
    omega
  rw [← tw_take, h1]
theorem dw_drop {p : Int → Bool} {s : ByteArray} {i k : Nat} (hik : i ≤ k) (hk : k ≤ s.size) (h : ((btL s).drop i).dropWhile p = (btL s).drop k) : ((btL s).drop i).takeWhile p = btL (s.extract i k) := by
  have e : (btL s).drop k = ((btL s).drop i).drop (k - i) := by rw [List.drop_drop]; congr 1; omega
  rw [ln_extract]
  exact tw_of_dw (by rw [List.length_drop, btL_length]; omega) (by rw [h, e])
/-- The end of a key. -/
def KyP (s : ByteArray) (i : Nat) (w : World) (e : Ending) (w' : World) : Prop := ∃ r : Int, e = .returned (.int .i64 r) ∧ w' = w ∧ ((keyF ((btL s).drop i) = none ∧ r = -1) ∨ ∃ k : Nat, i ≤ k ∧ k ≤ s.size ∧ r = (k : Int) ∧ keyF ((btL s).drop i) = some (btL (s.extract i k), (btL s).drop k))
theorem keyF_yes {l : List Int} {c : Int} {r : List Int} (h : l = c :: r) (hc : (fLow c || c == 42) = true) : keyF l = some (l.takeWhile keyC, l.dropWhile keyC) := by
  subst h
  show (if (fLow c || c == 42) = true then _ else none) = _
  rw [if_pos hc]
theorem keyF_no {l : List Int} {c : Int} {r : List Int} (h : l = c :: r) (hc : (fLow c || c == 42) = false) : keyF l = none := by
  subst h
  show (if (fLow c || c == 42) = true then _ else none) = _
  rw [if_neg (by rw [hc]; decide)]
set_option maxHeartbeats 4000000 in
theorem rkey_at (s : ByteArray) (hz : s.size ≤ 1000000) (i : Nat) (hi : i ≤ s.size) (w : World) : Calls Tryz.prog 121 #[.string s, .int .i64 (i : Int)] w (KyP s i w) := by
  have AT := Lib.hid (fun W : World => rat7_at s hz i (by omega) W)
  obtain ⟨c0, hc0⟩ : ∃ c, hdI ((btL s).drop i) = c := ⟨_, rfl⟩
  obtain ⟨ok, hok⟩ : ∃ b, decide (i < s.size) = b := ⟨_, rfl⟩
  rw [hc0, hok] at AT
  obtain ⟨Q, hQ⟩ : ∃ b : Bool, (!(ok && (fLow c0 || c0 == 42))) = b := ⟨_, rfl⟩
  have HQ := Lib.hid hQ
  have HCD : Hid (ok = true → (btL s).drop i = c0 :: (btL s).drop (i + 1)) := Lib.hid (fun h => by
    rw [h] at hok
    have hlt := of_decide_eq_true hok
    rw [← hc0, ln_cons s i hlt]
    rfl)
  have HCN : Hid (ok = false → (btL s).drop i = []) := Lib.hid (fun h => by
    rw [h] at hok
    have hlt := of_decide_eq_false hok
    exact List.drop_eq_nil_of_le (by rw [btL_length]; omega))
  clear hc0 hok hQ
  go_enter Tryz.func121, Tryz.ntmps121
  go_wp2_with fail
  refine (AT.out _).mono ?_
  rintro e wx ⟨rfl, hw⟩
  subst wx
  go_upto_region 2 with fail
  go_cut [23] from 7 (fun v wx => v = .bool Q ∧ wx = w)
  case first =>
    cases ok with
    | false =>
      have e : Q = true := by rw [← HQ.out]; rfl
      subst e
      go_wp2
      go_meet
      exact ⟨rfl, rfl⟩
    | true =>
      cases hq : fLow c0 with
      | true =>
        have e : Q = false := by rw [← HQ.out, hq]; rfl
        subst e
        have CT := Lib.hid (fun W : World => rlow_at c0 true hq W)
        clear hq
        go_wp2_with fail
        refine (CT.out _).mono ?_
        rintro e wx ⟨rfl, hw⟩
        subst wx
        go_wp2
        go_meet
        exact ⟨rfl, rfl⟩
      | false =>
        have CT := Lib.hid (fun W : World => rlow_at c0 false hq W)
        obtain ⟨q4, hq4⟩ : ∃ b, (c0 == 42) = b := ⟨_, rfl⟩
        have e : (!q4) = Q := by rw [← HQ.out, hq, hq4]; rfl
        have hne : (c0 != 42) = Q := by rw [← e, ← hq4]; rfl
        clear hq hq4 e
        go_wp2_with fail
        refine (CT.out _).mono ?_
        rintro e wx ⟨rfl, hw⟩
        subst wx
        go_wp2
        go_meet
        exact ⟨rfl, rfl⟩
  case rest =>
  obtain ⟨rfl, he⟩ := hcut
  have he := he.symm
  subst he
  cases Q with
  | true =>
    have HE : Hid (keyF ((btL s).drop i) = none) := Lib.hid (by
      cases ok with
      | false => rw [HCN.out rfl]; rfl
      | true =>
        refine keyF_no (HCD.out rfl) ?_
        have := HQ.out
        simpa using this)
    go_wp2
    go_ret
    exact ⟨-1, rfl, rfl, Or.inl ⟨HE.out, rfl⟩⟩
  | false =>
    have hok : ok = true := by
      have := HQ.out
      cases ok with
      | true => rfl
      | false => cases this
    subst hok
    have HKF : Hid (keyF ((btL s).drop i) = some (((btL s).drop i).takeWhile keyC, ((btL s).drop i).dropWhile keyC)) := Lib.hid (keyF_yes (HCD.out rfl) (by
      have := HQ.out
      cases hh : (fLow c0 || c0 == 42) with
      | true => rfl
      | false => rw [hh] at this; cases this))
    clear HCD HCN HQ AT
    go_wp2_with fail
    go_loop [1] (fun j => ∃ k : Nat, j = .int .i64 (k : Int) ∧ i ≤ k ∧ k ≤ s.size ∧ Hid (((btL s).drop i).dropWhile keyC = ((btL s).drop k).dropWhile keyC)) (fun j => s.size - (intOf j).toNat)
    case atStart => exact ⟨i, rfl, by omega, by omega, Lib.hid rfl⟩
    case round =>
      obtain ⟨k, rfl, hik, hks, HD⟩ := hrel
      by_cases hlt : k < s.size
      · have kd : decide ((k : Int) < (s.size : Int)) = true := decide_eq_true (by omega)
        have kd2 : decide (k < s.size) = true := decide_eq_true hlt
        obtain ⟨c, hc⟩ : ∃ d : Int, (s[k].toNat : Int) = d := ⟨_, rfl⟩
        have HDR : Hid ((btL s).drop k = c :: (btL s).drop (k + 1)) := Lib.hid (by rw [← hc]; exact ln_cons s k hlt)
        have kx0 : (0 : Int) ≤ (k : Int) := by omega
        have kx1 : (k : Int) < (s.size : Int) := by omega
        cases hq0 : fLow c with
        | true =>
          have HK : Hid (keyC c = true) := Lib.hid (by unfold keyC; rw [hq0]; simp)
          have CT := Lib.hid (fun W : World => rlow_at c true hq0 W)
          clear hq0
          go_wp2_with fail
          refine (CT.out _).mono ?_
          rintro e wx ⟨rfl, hw⟩
          subst wx
          have HD2 : Hid (((btL s).drop i).dropWhile keyC = ((btL s).drop (k + 1)).dropWhile keyC) := Lib.hid (by rw [HD.out, HDR.out, List.dropWhile_cons, if_pos HK.out])
          go_wp2
          go_round
          case rel => exact ⟨k + 1, by go_num, by omega, by omega, HD2⟩
          case measure => simp [intOf]; omega
        | false =>
          have HN0 := Lib.hid hq0
          have CT := Lib.hid (fun W : World => rlow_at c false hq0 W)
          clear hq0
          go_wp2_with fail
          refine (CT.out _).mono ?_
          rintro e wx ⟨rfl, hw⟩
          subst wx
          cases hq1 : fNum c with
          | true =>
            have HK : Hid (keyC c = true) := Lib.hid (by unfold keyC; rw [hq1]; simp)
            have CT := Lib.hid (fun W : World => rnumc_at c true hq1 W)
            clear hq1
            go_wp2_with fail
            refine (CT.out _).mono ?_
            rintro e wx ⟨rfl, hw⟩
            subst wx
            have HD2 : Hid (((btL s).drop i).dropWhile keyC = ((btL s).drop (k + 1)).dropWhile keyC) := Lib.hid (by rw [HD.out, HDR.out, List.dropWhile_cons, if_pos HK.out])
            go_wp2
            go_round
            case rel => exact ⟨k + 1, by go_num, by omega, by omega, HD2⟩
            case measure => simp [intOf]; omega
          | false =>
            have HN1 := Lib.hid hq1
            have CT := Lib.hid (fun W : World => rnumc_at c false hq1 W)
            clear hq1
            go_wp2_with fail
            refine (CT.out _).mono ?_
            rintro e wx ⟨rfl, hw⟩
            subst wx
            cases hq2 : ([95, 45, 46, 42] : List Int).contains c with
            | true =>
              have HK : Hid (keyC c = true) := Lib.hid (by unfold keyC; rw [hq2]; simp)
              have CT := Lib.hid (fun W : World => rin_at ⟨#[95, 45, 46, 42]⟩ (by decide) c true hq2 W)
              clear hq2
              go_wp2_with fail
              refine (CT.out _).mono ?_
              rintro e wx ⟨rfl, hw⟩
              subst wx
              have HD2 : Hid (((btL s).drop i).dropWhile keyC = ((btL s).drop (k + 1)).dropWhile keyC) := Lib.hid (by rw [HD.out, HDR.out, List.dropWhile_cons, if_pos HK.out])
              go_wp2
              go_round
              case rel => exact ⟨k + 1, by go_num, by omega, by omega, HD2⟩
              case measure => simp [intOf]; omega
            | false =>
              have HN2 := Lib.hid hq2
              have CT := Lib.hid (fun W : World => rin_at ⟨#[95, 45, 46, 42]⟩ (by decide) c false hq2 W)
              clear hq2
              go_wp2_with fail
              refine (CT.out _).mono ?_
              rintro e wx ⟨rfl, hw⟩
              subst wx
              have HE : Hid (((btL s).drop i).dropWhile keyC = (btL s).drop k) := Lib.hid (by rw [HD.out, HDR.out, List.dropWhile_cons, if_neg (by unfold keyC; rw [HN0.out, HN1.out, HN2.out]; decide)])
              have HF : Hid (keyF ((btL s).drop i) = some (btL (s.extract i k), (btL s).drop k)) := Lib.hid (by rw [HKF.out, HE.out, dw_drop hik hks HE.out])
              go_wp2
              go_ret
              exact ⟨(k : Int), rfl, rfl, Or.inr ⟨k, hik, hks, rfl, HF.out⟩⟩
      · have kd : decide ((k : Int) < (s.size : Int)) = false := decide_eq_false (by omega)
        have kd2 : decide (k < s.size) = false := decide_eq_false hlt
        have HE : Hid (((btL s).drop i).dropWhile keyC = (btL s).drop k) := Lib.hid (by rw [HD.out, List.drop_eq_nil_of_le (by rw [btL_length]; omega)]; rfl)
        have HF : Hid (keyF ((btL s).drop i) = some (btL (s.extract i k), (btL s).drop k)) := Lib.hid (by rw [HKF.out, HE.out, dw_drop hik hks HE.out])
        go_wp2
        go_ret
        exact ⟨(k : Int), rfl, rfl, Or.inr ⟨k, hik, hks, rfl, HF.out⟩⟩
/-- Behind blanks and tabs. -/
def BlP (s : ByteArray) (i : Nat) (w : World) (e : Ending) (w' : World) : Prop := ∃ k : Nat, e = .returned (.int .i64 (k : Int)) ∧ w' = w ∧ i ≤ k ∧ k ≤ s.size ∧ ((btL s).drop i).dropWhile blI = (btL s).drop k
set_option maxHeartbeats 4000000 in
theorem rblanks_at (s : ByteArray) (hz : s.size ≤ 1000000) (i : Nat) (hi : i ≤ s.size) (w : World) : Calls Tryz.prog 99 #[.string s, .int .i64 (i : Int)] w (BlP s i w) := by
  go_enter Tryz.func99, Tryz.ntmps99
  go_wp2_with fail
  go_loop [1] (fun j => ∃ k : Nat, j = .int .i64 (k : Int) ∧ i ≤ k ∧ k ≤ s.size ∧ Hid (((btL s).drop i).dropWhile blI = ((btL s).drop k).dropWhile blI)) (fun j => s.size - (intOf j).toNat)
  case atStart => exact ⟨i, rfl, by omega, by omega, Lib.hid rfl⟩
  case round =>
    obtain ⟨k, rfl, hik, hks, HD⟩ := hrel
    by_cases hlt : k < s.size
    · have kd : decide ((k : Int) < (s.size : Int)) = true := decide_eq_true (by omega)
      have kd2 : decide (k < s.size) = true := decide_eq_true hlt
      obtain ⟨c, hc⟩ : ∃ d : Int, (s[k].toNat : Int) = d := ⟨_, rfl⟩
      have HDR : Hid ((btL s).drop k = c :: (btL s).drop (k + 1)) := Lib.hid (by rw [← hc]; exact ln_cons s k hlt)
      have kx0 : (0 : Int) ≤ (k : Int) := by omega
      have kx1 : (k : Int) < (s.size : Int) := by omega
      by_cases c32 : c = 32
      · have d1 : (c == 32) = true := beq_iff_eq.2 c32
        have HK : Hid (blI c = true) := Lib.hid (by rw [c32]; rfl)
        clear c32
        have HD2 : Hid (((btL s).drop i).dropWhile blI = ((btL s).drop (k + 1)).dropWhile blI) := Lib.hid (by rw [HD.out, HDR.out, List.dropWhile_cons, if_pos HK.out])
        go_wp2
        go_round
        case rel => exact ⟨k + 1, by go_num, by omega, by omega, HD2⟩
        case measure => simp [intOf]; omega
      · have d1 : (c == 32) = false := beq_eq_false_iff_ne.2 c32
        by_cases c9 : c = 9
        · have d2 : (c == 9) = true := beq_iff_eq.2 c9
          have HK : Hid (blI c = true) := Lib.hid (by rw [c9]; rfl)
          clear c32 c9
          have HD2 : Hid (((btL s).drop i).dropWhile blI = ((btL s).drop (k + 1)).dropWhile blI) := Lib.hid (by rw [HD.out, HDR.out, List.dropWhile_cons, if_pos HK.out])
          go_wp2
          go_round
          case rel => exact ⟨k + 1, by go_num, by omega, by omega, HD2⟩
          case measure => simp [intOf]; omega
        · have d2 : (c == 9) = false := beq_eq_false_iff_ne.2 c9
          have HNB : Hid (¬ blI c = true) := Lib.hid (by unfold blI; simp [c32, c9])
          clear c32 c9
          have HE : Hid (((btL s).drop i).dropWhile blI = (btL s).drop k) := Lib.hid (by rw [HD.out, HDR.out, List.dropWhile_cons, if_neg (by exact HNB.out)])
          go_wp2
          go_ret
          exact ⟨k, rfl, rfl, hik, hks, HE.out⟩
    · have kd : decide ((k : Int) < (s.size : Int)) = false := decide_eq_false (by omega)
      have kd2 : decide (k < s.size) = false := decide_eq_false hlt
      have HE : Hid (((btL s).drop i).dropWhile blI = (btL s).drop k) := Lib.hid (by rw [HD.out, List.drop_eq_nil_of_le (by rw [btL_length]; omega)]; rfl)
      go_wp2
      go_ret
      exact ⟨k, rfl, rfl, hik, hks, HE.out⟩
end Go.Proofs.YtodibjpojfipoaaGreatDoor
