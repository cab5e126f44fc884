/- Package field: Parse. -/
import Derived.Test.YtodibjpojfipoaaGreatDoorFdMath
import Derived.Test.YtodibjpojfipoaaGreatDoorDtRd
import Derived.Test.YtodibjpojfipoaaGreatDoorShelfF
import Derived.Test.YtodibjpojfipoaaGreatDoorLnFn
import Derived.Test.YtodibjpojfipoaaGreatDoorOwn
import Derived.Laws.EntriesVeiled
import Derived.Test.YtodibjpojfipoaaGreatDoorDtNum
import Derived.Test.YtodibjpojfipoaaGreatDoorRowB
/- Package field: the reader's plainest methods. -/
namespace Go.Proofs.YtodibjpojfipoaaGreatDoor
open Go.RowKit
set_option linter.unusedVariables false
set_option linter.unusedSimpArgs false
set_option maxRecDepth 10000

/-- What a method leaves of the reader in block b. -/
structure RdF (b : Nat) (w w' : World) (s q : ByteArray) : Prop where
  box : Box w' b #[.string q] 99
  only : w.grownBy w' (some b)
  size : q.size ≤ s.size
theorem RdF.refl {b : Nat} {s : ByteArray} {w : World} (h : Box w b #[.string s] 99) : RdF b w w s s := ⟨h, World.grownBy.refl w _, Nat.le_refl _⟩
theorem RdF.trans {b : Nat} {s q r : ByteArray} {w w1 w2 : World} (a : RdF b w w1 s q) (c : RdF b w1 w2 q r) : RdF b w w2 s r := ⟨c.box, d_trans a.only c.only, Nat.le_trans c.size a.size⟩
theorem grown_below {b : Nat} {w w' : World} (h : Below w.heap.size w w') : w.grownBy w' (some b) := ⟨h.os, h.tape, h.output, h.size, fun i hi _ => h.block i hi⟩
theorem RdF.below {b : Nat} {s q : ByteArray} {w w1 w2 : World} (a : RdF b w w1 s q) (h : Below w1.heap.size w1 w2) : RdF b w w2 s q := ⟨a.box.later h, d_trans a.only (grown_below h), a.size⟩
def hdI (l : List Int) : Int := l.headD 0
theorem emp_size (s : ByteArray) : s.toList.isEmpty = decide (s.size = 0) := by
  rw [Lib.toList_data]
  rw [Bool.eq_iff_iff, List.isEmpty_iff, decide_eq_true_iff]
  constructor
  · intro h
    have := congrArg List.length h
    simpa using this
  · intro h
    exact List.eq_nil_of_length_eq_zero (by simpa using h)
theorem hd_at (s : ByteArray) (h : 0 < s.size) : hdI (btL s) = (s[0].toNat : Int) := by
  have := ln_cons s 0 h
  rw [List.drop_zero] at this
  rw [this]
  rfl
theorem hd_nil (s : ByteArray) (h : s.size = 0) : hdI (btL s) = 0 := by
  have : btL s = [] := List.eq_nil_of_length_eq_zero (by rw [btL_length, h])
  rw [this]
  rfl
set_option maxHeartbeats 1000000 in
theorem next_at (b : Nat) (s : ByteArray) (v : Int) (hv : hdI (btL s) = v) (w : World) (hb : Box w b #[.string s] 99) :
    Calls Tryz.prog 112 #[.pointer (some ⟨b, 0, none⟩)] w fun e w' => e = .returned (.int .u8 v) ∧ w' = w := by
  have k0 : w.cell? ⟨b, 0, none⟩ = some (.string s) := by rw [hb.cell 0]; rfl
  have gl := hb.lt
  clear hb
  by_cases h : 0 < s.size
  · have he : s.toList.isEmpty = false := by rw [emp_size]; exact decide_eq_false (by omega)
    have HV : Hid ((s[0].toNat : Int) = v) := Lib.hid (by rw [← hv, hd_at s h])
    have ix : (0 : Int) < (s.size : Int) := by omega
    clear hv
    go_enter Tryz.func112, Tryz.ntmps112
    go_wp2
    go_ret
    exact ⟨by rw [HV.out]; rfl, rfl⟩
  · have he : s.toList.isEmpty = true := by rw [emp_size]; exact decide_eq_true (by omega)
    have HV : Hid (0 = v) := Lib.hid (by rw [← hv, hd_nil s (by omega)])
    clear hv
    go_enter Tryz.func112, Tryz.ntmps112
    go_wp2
    go_ret
    exact ⟨by rw [← HV.out]; rfl, rfl⟩
set_option maxHeartbeats 2000000 in
theorem fskip_at (b : Nat) (s t : ByteArray) (w : World) (hb : Box w b #[.string s] 99) :
    Calls Tryz.prog 116 #[.pointer (some ⟨b, 0, none⟩), .string t] w fun e w' => ∃ (q : ByteArray) (h : Bool), e = .returned (.bool h) ∧ RdF b w w' s q ∧ (h = true → cutS (btL t) (btL s) = some (btL q)) ∧ (h = false → cutS (btL t) (btL s) = none ∧ q = s) := by
  have k0 : w.cell? ⟨b, 0, none⟩ = some (.string s) := by rw [hb.cell 0]; rfl
  have c0 := hb.free 0
  have gl := hb.lt
  have HB := Lib.hid hb
  clear hb
  obtain ⟨h, hh⟩ : ∃ h, Lib.hasPrefix s.data.toList t.data.toList = h := ⟨_, rfl⟩
  obtain ⟨q, hq⟩ : ∃ q : ByteArray, ⟨(Lib.trimPrefix s.data.toList t.data.toList).toArray⟩ = q := ⟨_, rfl⟩
  have hc := cut_prefix s.data.toList t.data.toList
  have C1 : Hid (h = true → cutS (btL t) (btL s) = some (btL q)) := Lib.hid (fun hy => by rw [← hq, btD_mk]; exact hc.1 (hh.trans hy))
  have C2 : Hid (h = false → cutS (btL t) (btL s) = none ∧ q = s) := Lib.hid (fun hn => by
    have := hc.2 (hh.trans hn)
    exact ⟨this.1, by rw [← hq, this.2]⟩)
  have C3 : Hid (q.size ≤ s.size) := Lib.hid (by
    have := trim_len s.data.toList t.data.toList
    rw [← hq]
    show (Lib.trimPrefix s.data.toList t.data.toList).toArray.size ≤ s.data.size
    simpa using this)
  have CP : Hid (∀ W : World, Calls Tryz.prog 126 #[.string s, .string t] W fun e w' => e = .returned (.tuple #[.string q, .bool h]) ∧ w' = W) := Lib.hid (fun W => by
    rw [← hq, ← hh]
    exact Any.strings_CutPrefix Tryz.lays103 s t W)
  clear hh hq hc
  go_enter Tryz.func116, Tryz.ntmps116
  go_wp2_with (refine (CP.out _).mono ?_; rintro e w' ⟨rfl, hw⟩; rw [hw])
  go_ret
  exact ⟨q, h, rfl, ⟨HB.out.set 0 _, d_setCell (World.grownBy.refl w _) (Or.inl rfl) _, C3.out⟩, C1.out, C2.out⟩
theorem cut_one (c : Int) (l : List Int) : cutS [c] l = match l with | [] => none | x :: r => if x = c then some r else none := by
  cases l with
  | nil => rfl
  | cons x r =>
    skip
    unfold cutS
    simp only [List.isPrefixOf_cons_cons, List.isPrefixOf_nil_left, Bool.and_true, List.length_cons, List.length_nil, List.drop_succ_cons, List.drop_zero, beq_iff_eq]
    by_cases h : x = c
    · rw [if_pos h.symm, if_pos h]
    · rw [if_neg (fun e => h e.symm), if_neg h]
theorem take_at (b : Nat) (s : ByteArray) (k : Nat) (hk : k ≤ s.size) (w : World) (hb : Box w b #[.string s] 99) :
    Calls Tryz.prog 128 #[.pointer (some ⟨b, 0, none⟩), .int .i64 (k : Int)] w fun e w' => e = .returned (.string (s.extract 0 k)) ∧ RdF b w w' s (s.extract k s.size) := by
  have k0 : w.cell? ⟨b, 0, none⟩ = some (.string s) := by rw [hb.cell 0]; rfl
  have c0 := hb.free 0
  have gl := hb.lt
  have HB := Lib.hid hb
  clear hb
  obtain ⟨x, hx⟩ : ∃ x, s.extract 0 k = x := ⟨_, rfl⟩
  obtain ⟨q, hq⟩ : ∃ q, s.extract k s.size = q := ⟨_, rfl⟩
  have HQ : Hid (q.size ≤ s.size) := Lib.hid (by rw [← hq]; simp)
  rw [hx, hq]
  have l1 : (0 : Int) ≤ (k : Int) := by omega
  have l2 : (k : Int) ≤ (s.size : Int) := by omega
  go_enter Tryz.func128, Tryz.ntmps128
  go_wp2
  go_ret
  exact ⟨rfl, HB.out.set 0 _, d_setCell (World.grownBy.refl w _) (Or.inl rfl) _, HQ.out⟩
theorem tleft2_at (s : ByteArray) (w : World) :
    Calls Tryz.prog 89 #[.string s, .string ⟨#[32, 9]⟩] w fun e w' => ∃ q, e = .returned (.string q) ∧ btL q = (btL s).dropWhile blI ∧ q.size ≤ s.size ∧ Below w.heap.size w w' := by
  refine (Any.strings_TrimLeft_laid Tryz.lays161 (by kernel_rfl) s ⟨#[32, 9]⟩ w (by decide) (ascii_of_all (by decide))).mono ?_
  rintro e w' ⟨rfl, hb⟩
  have h1 := trimLS_L s
  exact ⟨_, rfl, h1, by rw [← btL_length, ← btL_length, h1]; exact dw_len _ _, hb⟩
theorem tleft1_at (s : ByteArray) (w : World) :
    Calls Tryz.prog 89 #[.string s, .string ⟨#[32]⟩] w fun e w' => ∃ q, e = .returned (.string q) ∧ btL q = (btL s).dropWhile sp1 ∧ q.size ≤ s.size ∧ w' = w := by
  refine (Any.strings_TrimLeft_one Tryz.lays161 s 32 (by decide) w).mono ?_
  rintro e w' ⟨rfl, hb⟩
  have h1 := trimLB_L s
  exact ⟨_, rfl, h1, by rw [← btL_length, ← btL_length, h1]; exact dw_len _ _, hb⟩
set_option maxHeartbeats 1000000 in
theorem ended_at (b : Nat) (s : ByteArray) (w : World) (hb : Box w b #[.string s] 99) :
    Calls Tryz.prog 93 #[.pointer (some ⟨b, 0, none⟩)] w fun e w' => ∃ (q : ByteArray), e = .returned (.bool (decide (q.size = 0))) ∧ btL q = (btL s).dropWhile blI ∧ RdF b w w' s q := by
  have k0 : w.cell? ⟨b, 0, none⟩ = some (.string s) := by rw [hb.cell 0]; rfl
  have HB := Lib.hid hb
  have gl := hb.lt
  clear hb
  go_enter Tryz.func93, Tryz.ntmps93
  go_wp2_with fail
  refine (tleft2_at s _).mono ?_
  rintro e w1 ⟨q, rfl, hq, hs, hw⟩
  have R1 : Hid (RdF b w w1 s s) := Lib.hid ((RdF.refl HB.out).below hw)
  have HQ := Lib.hid hq
  have HS := Lib.hid hs
  have k0 : w1.cell? ⟨b, 0, none⟩ = some (.string s) := by rw [R1.out.box.cell 0]; rfl
  have c0 := R1.out.box.free 0
  have gl := R1.out.box.lt
  have HE : Hid (q.toList.isEmpty = decide (q.size = 0)) := Lib.hid (emp_size q)
  clear hq hs hw
  go_wp2
  go_ret
  exact ⟨q, by rw [← HE.out]; rfl, HQ.out, R1.out.box.set 0 _, d_setCell R1.out.only (Or.inl rfl) _, HS.out⟩
end Go.Proofs.YtodibjpojfipoaaGreatDoor
/- Package field: bytes that are counted by a function value; the four function values. -/
namespace Go.Proofs.YtodibjpojfipoaaGreatDoor
open Go.RowKit
set_option linter.unusedVariables false
set_option linter.unusedSimpArgs false
set_option maxRecDepth 10000

/-- A function value that tells bytes apart, in each world that follows w. -/
def FitF (w : World) (g : Nat) (lb : Array Value) (p : Int → Bool) : Prop :=
  ∀ (c : UInt8) W, Below w.heap.size w W → Calls Tryz.prog g (#[.int .u8 (c.toNat : Int)] ++ lb) W fun e w' => e = .returned (.bool (p (c.toNat : Int))) ∧ Below W.heap.size W w'
set_option maxHeartbeats 2000000 in
theorem span_at (s : ByteArray) (hs : s.size ≤ 1000000000000000) (p : Int → Bool) (N : Nat) (hN : ((btL s).takeWhile p).length = N) (g : Nat) (lb : Array Value) (w : World)
    (eg : ∀ args w, (callFunc g args).run Tryz.prog w = .ok (.enter g args) w) (hm : FitF w g lb p) :
    Calls Tryz.prog 140 #[.string s, .func (.func g) #[] lb] w fun e w' => e = .returned (.int .i64 (N : Int)) ∧ Below w.heap.size w w' := by
  have HM := Lib.hid hm
  have HN := Lib.hid hN
  clear hm hN
  go_enter Tryz.func140, Tryz.ntmps140
  go_wp2_with fail
  go_loopw [5] (fun vi wr => ∃ k : Nat, vi = .int .i64 (k : Int) ∧ k ≤ s.size ∧ Hid (k + (((btL s).drop k).takeWhile p).length = N) ∧ Hid (Below w.heap.size w wr)) (fun vi _ => s.size - (intOf vi).toNat)
  case atStart => exact ⟨0, rfl, by omega, Lib.hid (by rw [List.drop_zero, Nat.zero_add]; exact HN.out), Lib.hid (Below.refl _ _)⟩
  case round =>
    obtain ⟨k, rfl, hk, HK, BR⟩ := hrel
    by_cases hlt : k < s.size
    · have hkd : decide ((k : Int) < (s.size : Int)) = true := decide_eq_true (by omega)
      have hkn : decide (k < s.size) = true := decide_eq_true hlt
      have ix0 : (0 : Int) ≤ (k : Int) := by omega
      have ix1 : (k : Int) < (s.size : Int) := by omega
      obtain ⟨c, hc⟩ : ∃ c : UInt8, s[k]'hlt = c := ⟨_, rfl⟩
      have HC : Hid ((btL s).drop k = (c.toNat : Int) :: (btL s).drop (k + 1)) := Lib.hid (by rw [ln_cons s k hlt, hc])
      obtain ⟨b, hb⟩ : ∃ b, p (c.toNat : Int) = b := ⟨_, rfl⟩
      have M := Lib.hid (HM.out c wr BR.out)
      rw [hb] at M
      have HB := Lib.hid hb
      clear hb
      go_wp2_with fail
      refine (M.out).mono ?_
      rintro e wx ⟨rfl, hwx⟩
      have B2 := Lib.hid (BR.out.trans (hwx.mono BR.out.size))
      clear hwx
      have HK2 := Lib.hid HK.out
      cases b with
      | true =>
        have HK3 : Hid (k + 1 + (((btL s).drop (k + 1)).takeWhile p).length = N) := Lib.hid (by
          have := HK.out
          rw [HC.out, List.takeWhile_cons, HB.out, if_pos rfl, List.length_cons] at this
          omega)
        go_wp2
        go_roundw
        case rel => exact ⟨k + 1, by go_num, by omega, HK3, B2⟩
        case measure => simp [intOf]; omega
      | false =>
        have HK3 : Hid (k = N) := Lib.hid (by
          have := HK.out
          rw [HC.out, List.takeWhile_cons, HB.out, if_neg (by decide)] at this
          simpa using this)
        go_wp2
        go_ret
        exact ⟨by rw [← HK3.out]; rfl, B2.out⟩
    · have hkd : decide ((k : Int) < (s.size : Int)) = false := decide_eq_false (by omega)
      have hkn : decide (k < s.size) = false := decide_eq_false hlt
      have HK3 : Hid (k = N) := Lib.hid (by
        have := HK.out
        rw [List.drop_eq_nil_of_le (by rw [btL_length]; omega)] at this
        simpa using this)
      go_wp2
      go_ret
      exact ⟨by rw [← HK3.out]; rfl, BR.out⟩
theorem fdig_at (c : Int) (b : Bool) (hb : fNum c = b) (w : World) : Calls Tryz.prog 34 #[.int .i32 c] w fun e w' => e = .returned (.bool b) ∧ w' = w := by
  unfold fNum at hb
  subst hb
  go_enter Tryz.func34, Tryz.ntmps34
  by_cases h1 : 48 ≤ c
  · have d1 : decide (48 ≤ c) = true := decide_eq_true h1
    by_cases h2 : c ≤ 57
    · have d2 : decide (c ≤ 57) = true := decide_eq_true h2
      go_wp2
      go_ret
      exact ⟨by simp [h1, h2], rfl⟩
    · have d2 : decide (c ≤ 57) = false := decide_eq_false h2
      go_wp2
      go_ret
      exact ⟨by simp [h1, h2], rfl⟩
  · have d1 : decide (48 ≤ c) = false := decide_eq_false h1
    go_wp2
    go_ret
    exact ⟨by simp [h1], rfl⟩
theorem flet_at (c : Int) (b : Bool) (hb : (fLow c || fUp c) = b) (w : World) : Calls Tryz.prog 148 #[.int .i32 c] w fun e w' => e = .returned (.bool b) ∧ w' = w := by
  unfold fLow fUp at hb
  subst hb
  go_enter Tryz.func148, Tryz.ntmps148
  rcases (by omega : (97 ≤ c ∧ c ≤ 122) ∨ (97 ≤ c ∧ 122 < c) ∨ (c < 97 ∧ 65 ≤ c ∧ c ≤ 90) ∨ (c < 97 ∧ 65 ≤ c ∧ 90 < c) ∨ (c < 97 ∧ c < 65)) with ⟨h1, h2⟩ | ⟨h1, h2⟩ | ⟨h1, h2, h3⟩ | ⟨h1, h2, h3⟩ | ⟨h1, h2⟩
  · have d1 : decide (97 ≤ c) = true := decide_eq_true h1
    have d2 : decide (c ≤ 122) = true := decide_eq_true h2
    go_wp2
    go_ret
    exact ⟨by simp [h1, h2], rfl⟩
  · have d1 : decide (97 ≤ c) = true := decide_eq_true h1
    have d2 : decide (c ≤ 122) = false := decide_eq_false (by omega)
    have d3 : decide (65 ≤ c) = true := decide_eq_true (by omega)
    have d4 : decide (c ≤ 90) = false := decide_eq_false (by omega)
    go_wp2
    go_ret
    exact ⟨by simp; omega, rfl⟩
  · have d1 : decide (97 ≤ c) = false := decide_eq_false (by omega)
    have d3 : decide (65 ≤ c) = true := decide_eq_true (by omega)
    have d4 : decide (c ≤ 90) = true := decide_eq_true (by omega)
    go_wp2
    go_ret
    exact ⟨by simp; omega, rfl⟩
  · have d1 : decide (97 ≤ c) = false := decide_eq_false (by omega)
    have d3 : decide (65 ≤ c) = true := decide_eq_true (by omega)
    have d4 : decide (c ≤ 90) = false := decide_eq_false (by omega)
    go_wp2
    go_ret
    exact ⟨by simp; omega, rfl⟩
  · have d1 : decide (97 ≤ c) = false := decide_eq_false (by omega)
    have d3 : decide (65 ≤ c) = false := decide_eq_false (by omega)
    go_wp2
    go_ret
    exact ⟨by simp; omega, rfl⟩
theorem key_fin : ∀ c : Fin 256, decide (0 ≤ Lib.indexByte [95, 45, 46, 42] (UInt8.ofNat c.val)) = ([95, 45, 46, 42] : List Int).contains (c.val : Int) := by decide +kernel
theorem word_fin : ∀ c : Fin 256, decide (0 ≤ Lib.indexByte [95, 45, 46, 42, 33, 35, 36, 37, 38, 39, 43, 94, 124, 126, 58, 47] (UInt8.ofNat c.val)) = ([95, 45, 46, 42, 33, 35, 36, 37, 38, 39, 43, 94, 124, 126, 58, 47] : List Int).contains (c.val : Int) := by decide +kernel
theorem kidx_at (c : UInt8) (b : Bool) (hb : ([95, 45, 46, 42] : List Int).contains (c.toNat : Int) = b) (w : World) : Calls Tryz.prog 134 #[.string ⟨#[95, 45, 46, 42]⟩, .int .u8 (c.toNat : Int)] w fun e w' => ∃ v : Int, e = .returned (.int .i64 v) ∧ decide (0 ≤ v) = b ∧ w' = w := by
  refine (Any.strings_IndexByte Tryz.lays137 ⟨#[95, 45, 46, 42]⟩ (c.toNat : Int) w).mono ?_
  rintro e w' ⟨rfl, hw⟩
  refine ⟨_, rfl, ?_, hw⟩
  have := key_fin ⟨c.toNat, c.toNat_lt⟩
  rw [← hb]
  simpa using this
theorem widx_at (c : UInt8) (b : Bool) (hb : ([95, 45, 46, 42, 33, 35, 36, 37, 38, 39, 43, 94, 124, 126, 58, 47] : List Int).contains (c.toNat : Int) = b) (w : World) : Calls Tryz.prog 134 #[.string ⟨#[95, 45, 46, 42, 33, 35, 36, 37, 38, 39, 43, 94, 124, 126, 58, 47]⟩, .int .u8 (c.toNat : Int)] w fun e w' => ∃ v : Int, e = .returned (.int .i64 v) ∧ decide (0 ≤ v) = b ∧ w' = w := by
  refine (Any.strings_IndexByte Tryz.lays137 ⟨#[95, 45, 46, 42, 33, 35, 36, 37, 38, 39, 43, 94, 124, 126, 58, 47]⟩ (c.toNat : Int) w).mono ?_
  rintro e w' ⟨rfl, hw⟩
  refine ⟨_, rfl, ?_, hw⟩
  have := word_fin ⟨c.toNat, c.toNat_lt⟩
  rw [← hb]
  simpa using this
theorem egK1 : ∀ args w, (callFunc 139 args).run Tryz.prog w = .ok (.enter 139 args) w := enters_of Tryz.func139 (by kernel_rfl) rfl
theorem egK2 : ∀ args w, (callFunc 141 args).run Tryz.prog w = .ok (.enter 141 args) w := enters_of Tryz.func141 (by kernel_rfl) rfl
theorem egN1 : ∀ args w, (callFunc 147 args).run Tryz.prog w = .ok (.enter 147 args) w := enters_of Tryz.func147 (by kernel_rfl) rfl
theorem egW1 : ∀ args w, (callFunc 149 args).run Tryz.prog w = .ok (.enter 149 args) w := enters_of Tryz.func149 (by kernel_rfl) rfl
theorem low_at (c : Int) (b : Bool) (hb : fLow c = b) (w : World) : Calls Tryz.prog 139 #[.int .u8 c] w fun e w' => e = .returned (.bool b) ∧ w' = w := by
  unfold fLow at hb
  subst hb
  go_enter Tryz.func139, Tryz.ntmps139
  by_cases h1 : 97 ≤ c
  · have d1 : decide (97 ≤ c) = true := decide_eq_true h1
    by_cases h2 : c ≤ 122
    · have d2 : decide (c ≤ 122) = true := decide_eq_true h2
      go_wp2
      go_ret
      exact ⟨by simp [h1, h2], rfl⟩
    · have d2 : decide (c ≤ 122) = false := decide_eq_false h2
      go_wp2
      go_ret
      exact ⟨by simp [h1, h2], rfl⟩
  · have d1 : decide (97 ≤ c) = false := decide_eq_false h1
    go_wp2
    go_ret
    exact ⟨by simp [h1], rfl⟩
theorem i32_u8 (c : UInt8) : IntKind.i32.wrap (c.toNat : Int) = (c.toNat : Int) := by
  have := c.toNat_lt
  rw [IntKind.wrap_i32]
  omega
set_option maxHeartbeats 1000000 in
theorem num1_fit (w : World) : FitF w 147 #[] fNum := fun c W hW => by
  have W1 := i32_u8 c
  obtain ⟨b, hb⟩ : ∃ b, fNum (c.toNat : Int) = b := ⟨_, rfl⟩
  rw [hb]
  have HB := Lib.hid hb
  clear hb hW
  show Calls Tryz.prog 147 #[.int .u8 (c.toNat : Int)] W _
  go_enter Tryz.func147, Tryz.ntmps147
  go_wp2_with fail
  refine (fdig_at _ b HB.out _).mono ?_
  rintro e w1 ⟨rfl, hw⟩
  subst hw
  go_wp2
  go_ret
  exact ⟨rfl, Below.refl _ _⟩
end Go.Proofs.YtodibjpojfipoaaGreatDoor
/- Package field: keys, numbers, words, flags. -/
namespace Go.Proofs.YtodibjpojfipoaaGreatDoor
open Go.RowKit
set_option linter.unusedVariables false
set_option linter.unusedSimpArgs false
set_option maxRecDepth 10000

theorem key2_is (c : Int) (b1 b2 b3 : Bool) (h1 : fLow c = b1) (h2 : fNum c = b2) (h3 : ([95, 45, 46, 42] : List Int).contains c = b3) : keyC c = (b1 || b2 || b3) := by unfold keyC; rw [h1, h2, h3]
theorem word1_is (c : Int) (b1 b2 b3 : Bool) (h1 : (fLow c || fUp c) = b1) (h2 : fNum c = b2) (h3 : ([95, 45, 46, 42, 33, 35, 36, 37, 38, 39, 43, 94, 124, 126, 58, 47] : List Int).contains c = b3) : wordC c = (b1 || b2 || b3) := by unfold wordC; rw [h1, h2, h3]
set_option maxHeartbeats 2000000 in
theorem key2_fit (w : World) (cb : Nat) (hcell : w.cell? ⟨cb, 0, none⟩ = some (.func (.func 139) #[] #[])) : FitF w 141 #[.pointer (some ⟨cb, 0, none⟩)] keyC := fun c W hW => by
  have W1 := i32_u8 c
  have k0 := (hW.cell (World.block_lt_of_cell? _ _ hcell)).trans hcell
  have eg := egK1
  obtain ⟨b1, h1⟩ : ∃ b, fLow (c.toNat : Int) = b := ⟨_, rfl⟩
  obtain ⟨b2, h2⟩ : ∃ b, fNum (c.toNat : Int) = b := ⟨_, rfl⟩
  obtain ⟨b3, h3⟩ : ∃ b, ([95, 45, 46, 42] : List Int).contains (c.toNat : Int) = b := ⟨_, rfl⟩
  rw [key2_is _ b1 b2 b3 h1 h2 h3]
  have H1 := Lib.hid h1
  have H2 := Lib.hid h2
  have H3 := Lib.hid h3
  clear h1 h2 h3 hW hcell
  show Calls Tryz.prog 141 #[.int .u8 (c.toNat : Int), .pointer (some ⟨cb, 0, none⟩)] W _
  go_enter Tryz.func141, Tryz.ntmps141
  go_wp2_with fail
  refine (low_at _ b1 H1.out _).mono ?_
  rintro e w1 ⟨rfl, hw⟩
  subst hw
  cases b1 with
  | true =>
    go_wp2
    go_ret
    exact ⟨rfl, Below.refl _ _⟩
  | false =>
    go_wp2_with fail
    refine (fdig_at _ b2 H2.out _).mono ?_
    rintro e w1 ⟨rfl, hw⟩
    subst hw
    cases b2 with
    | true =>
      go_wp2
      go_ret
      exact ⟨rfl, Below.refl _ _⟩
    | false =>
      go_wp2_with fail
      refine (kidx_at c b3 H3.out _).mono ?_
      rintro e w1 ⟨v, rfl, hv, hw⟩
      subst hw
      have hv2 : decide (v ≥ 0) = b3 := hv
      go_wp2
      go_ret
      exact ⟨by simp only [Bool.false_or]; rfl, Below.refl _ _⟩
set_option maxHeartbeats 2000000 in
theorem word1_fit (w : World) : FitF w 149 #[] wordC := fun c W hW => by
  have W1 := i32_u8 c
  obtain ⟨b1, h1⟩ : ∃ b, (fLow (c.toNat : Int) || fUp (c.toNat : Int)) = b := ⟨_, rfl⟩
  obtain ⟨b2, h2⟩ : ∃ b, fNum (c.toNat : Int) = b := ⟨_, rfl⟩
  obtain ⟨b3, h3⟩ : ∃ b, ([95, 45, 46, 42, 33, 35, 36, 37, 38, 39, 43, 94, 124, 126, 58, 47] : List Int).contains (c.toNat : Int) = b := ⟨_, rfl⟩
  rw [word1_is _ b1 b2 b3 h1 h2 h3]
  have H1 := Lib.hid h1
  have H2 := Lib.hid h2
  have H3 := Lib.hid h3
  clear h1 h2 h3 hW
  show Calls Tryz.prog 149 #[.int .u8 (c.toNat : Int)] W _
  go_enter Tryz.func149, Tryz.ntmps149
  go_wp2_with fail
  refine (flet_at _ b1 H1.out _).mono ?_
  rintro e w1 ⟨rfl, hw⟩
  subst hw
  cases b1 with
  | true =>
    go_wp2
    go_ret
    exact ⟨rfl, Below.refl _ _⟩
  | false =>
    go_wp2_with fail
    refine (fdig_at _ b2 H2.out _).mono ?_
    rintro e w1 ⟨rfl, hw⟩
    subst hw
    cases b2 with
    | true =>
      go_wp2
      go_ret
      exact ⟨rfl, Below.refl _ _⟩
    | false =>
      go_wp2_with fail
      refine (widx_at c b3 H3.out _).mono ?_
      rintro e w1 ⟨v, rfl, hv, hw⟩
      subst hw
      have hv2 : decide (v ≥ 0) = b3 := hv
      go_wp2
      go_ret
      exact ⟨by simp only [Bool.false_or]; rfl, Below.refl _ _⟩
/-- A prefix of a text that is taken. -/
theorem tk_left (s : ByteArray) (p : Int → Bool) (N : Nat) (h : ((btL s).takeWhile p).length = N) : btL (s.extract 0 N) = (btL s).takeWhile p ∧ btL (s.extract N s.size) = (btL s).dropWhile p ∧ N ≤ s.size := by
  refine ⟨?_, ?_, ?_⟩
  · rw [btD_extract, List.drop_zero, Nat.sub_zero, ← h, tw_take]
  · rw [btD_extract, ← h, List.take_of_length_le (by rw [List.length_drop, btL_length]; omega), tw_drop]
  · rw [← h, ← btL_length]; exact tw_len _ _
def KeyP (b : Nat) (s : ByteArray) (w : World) (e : Ending) (w' : World) : Prop :=
  ∃ k q : ByteArray, RdF b w w' s q ∧ ((keyF (btL s) = some (btL k, btL q) ∧ k.size ≤ s.size ∧ e = .returned (.tuple #[.string k, .bool true])) ∨ (keyF (btL s) = none ∧ e = .returned (.tuple #[.string ⟨#[]⟩, .bool false])))
theorem keyF_is (l : List Int) (v : Int) (hv : hdI l = v) (q : Bool) (hq : (fLow v || v == 42) = q) : keyF l = if q then some (l.takeWhile keyC, l.dropWhile keyC) else none := by
  subst hq hv
  cases l with
  | nil => rfl
  | cons c r => rfl
theorem hdI_u8 (s : ByteArray) : 0 ≤ hdI (btL s) ∧ hdI (btL s) < 256 := by
  by_cases h : 0 < s.size
  · rw [hd_at s h]
    have := (s[0]).toNat_lt
    omega
  · rw [hd_nil s (by omega)]
    omega
set_option maxHeartbeats 4000000 in
theorem key_at (b : Nat) (s : ByteArray) (hs : s.size ≤ 1000000000000000) (w : World) (hb : Box w b #[.string s] 99) :
    Calls Tryz.prog 129 #[.pointer (some ⟨b, 0, none⟩)] w (KeyP b s w) := by
  have HB := Lib.hid hb
  obtain ⟨v, hv⟩ : ∃ v, hdI (btL s) = v := ⟨_, rfl⟩
  obtain ⟨b1, h1⟩ : ∃ x, fLow v = x := ⟨_, rfl⟩
  obtain ⟨q0, hq⟩ : ∃ x, (b1 || v == 42) = x := ⟨_, rfl⟩
  have HKF := Lib.hid (keyF_is (btL s) v hv q0 (by rw [h1, hq]))
  have HV := Lib.hid hv
  have H1 := Lib.hid h1
  obtain ⟨N, hN⟩ : ∃ N, ((btL s).takeWhile keyC).length = N := ⟨_, rfl⟩
  have HN := Lib.hid hN
  have TK := Lib.hid (tk_left s keyC N hN)
  have eg := egK1
  clear hb hv h1 hN
  go_enter Tryz.func129, Tryz.ntmps129
  go_upto_region 2 with fail
  refine code_forget (fun W => ∃ t, Hid (Box W w.heap.size #[.func (.func 139) #[] #[]] t) ∧ Hid (Below w.heap.size w W)) ⟨_, Lib.hid (Box.new w _ _), Lib.hid ((Below.refl w.heap.size w).alloc (Nat.le_refl _) _)⟩ ?_
  obtain ⟨cb, hcb⟩ : ∃ x, w.heap.size = x := ⟨_, rfl⟩
  rintro w1 ⟨t0, BX, B1⟩
  have R1 : Hid (RdF b w w1 s s) := Lib.hid ((RdF.refl HB.out).below B1.out)
  rw [hcb] at BX ⊢
  clear hcb B1
  have k0 := BX.out.cell 0
  have lc := BX.out.lt
  go_wp2_with fail
  refine (next_at b s v HV.out _ R1.out.box).mono ?_
  rintro e w2 ⟨rfl, hw⟩
  subst w2
  go_wp2_with fail
  refine (low_at v b1 H1.out _).mono ?_
  rintro e w2 ⟨rfl, hw⟩
  subst w2
  cases q0 with
  | true =>
    have hd : b1 = true ∨ (b1 = false ∧ (v != 42) = false) := by
      cases b1
      · right
        exact ⟨rfl, by simpa using hq⟩
      · exact Or.inl rfl
    have kr : w1.cell? ⟨b, 0, none⟩ = some (.string s) := by rw [R1.out.box.cell 0]; rfl
    have lr := R1.out.box.lt
    rcases hd with hd | ⟨hd, hd2⟩
    · subst hd
      go_wp2_with fail
      refine (span_at s hs keyC N HN.out _ _ _ egK2 (key2_fit _ cb k0)).mono ?_
      rintro e w2 ⟨rfl, hb⟩
      have R2 := Lib.hid (R1.out.below hb)
      clear hb
      go_wp2_with fail
      refine (take_at b s N TK.out.2.2 _ R2.out.box).mono ?_
      rintro e w3 ⟨rfl, hR⟩
      have R3 := Lib.hid (R2.out.trans hR)
      clear hR
      go_wp2
      go_ret2
      exact ⟨_, _, R3.out, Or.inl ⟨by rw [HKF.out, TK.out.1, TK.out.2.1]; rfl, by simp; omega, rfl⟩⟩
    · subst hd
      go_wp2_with fail
      refine (span_at s hs keyC N HN.out _ _ _ egK2 (key2_fit _ cb k0)).mono ?_
      rintro e w2 ⟨rfl, hb⟩
      have R2 := Lib.hid (R1.out.below hb)
      clear hb
      go_wp2_with fail
      refine (take_at b s N TK.out.2.2 _ R2.out.box).mono ?_
      rintro e w3 ⟨rfl, hR⟩
      have R3 := Lib.hid (R2.out.trans hR)
      clear hR
      go_wp2
      go_ret2
      exact ⟨_, _, R3.out, Or.inl ⟨by rw [HKF.out, TK.out.1, TK.out.2.1]; rfl, by simp; omega, rfl⟩⟩
  | false =>
    have hd : b1 = false ∧ (v != 42) = true := by
      cases b1
      · exact ⟨rfl, by simpa using hq⟩
      · simp at hq
    obtain ⟨hd, hd2⟩ := hd
    subst hd
    go_wp2
    go_ret2
    exact ⟨⟨#[]⟩, s, R1.out, Or.inr ⟨HKF.out, rfl⟩⟩
end Go.Proofs.YtodibjpojfipoaaGreatDoor
/- Package field: numbers. -/
namespace Go.Proofs.YtodibjpojfipoaaGreatDoor
open Go.RowKit
set_option linter.unusedVariables false
set_option linter.unusedSimpArgs false
set_option maxRecDepth 10000

/-- What a reading function hands on: a value behind an interface. -/
inductive AnyV where
  | int (n : Int)
  | text (s : ByteArray)
  | word (s : ByteArray)
  | flag (b : Bool)
  | none
def anyV : AnyV → Value
  | .int n => .iface 3 (.int .i64 n)
  | .text s => .iface 129 (.string s)
  | .word s => .iface 146 (.string s)
  | .flag b => .iface 4 (.bool b)
  | .none => .nilIface
def pkF : AnyV → FVal
  | .int n => ⟨1, n, []⟩
  | .text s => ⟨2, 0, btL s⟩
  | .word s => ⟨3, 0, btL s⟩
  | .flag b => ⟨4, if b then 1 else 0, []⟩
  | .none => ⟨4, 0, []⟩
def AnyOk (s : ByteArray) : AnyV → Prop
  | .int n => -1000000000000000 ≤ n ∧ n ≤ 1000000000000000
  | .text t => t.size ≤ s.size
  | .word t => t.size ≤ s.size
  | _ => True
def AnyP (b : Nat) (s : ByteArray) (F : Option (FVal × List Int)) (w : World) (e : Ending) (w' : World) : Prop :=
  ∃ (x : AnyV) (q : ByteArray), RdF b w w' s q ∧ AnyOk s x ∧ ((F = some (pkF x, btL q) ∧ e = .returned (.tuple #[anyV x, .bool true])) ∨ (F = none ∧ e = .returned (.tuple #[anyV x, .bool false])))
theorem numF_yes {l r : List Int} (h : cutS [45] l = some r) : numF l = digF true r := by
  rw [cut_one] at h
  cases l with
  | nil => cases h
  | cons x t =>
    dsimp only at h
    split at h
    · rename_i hx
      injection h with h
      subst hx h
      rfl
    · cases h
theorem numF_no {l : List Int} (h : cutS [45] l = none) : numF l = digF false l := by
  rw [cut_one] at h
  cases l with
  | nil => rfl
  | cons x t =>
    dsimp only at h
    split at h
    · cases h
    · rename_i hx
      unfold numF
      split
      · rename_i heq
        injection heq with h1 _
        exact absurd h1 hx
      · rfl
structure NuF (b : Nat) (x s r : ByteArray) (w w3 wr : World) (pos : Nat) (v V : Int) : Prop where
  it : wr.heap[w3.heap.size]? = some (.stringIter x pos)
  rd : RdF b w wr s r
  eq : V = fval v ((btL x).drop pos)
  v0 : 0 ≤ v
  v1 : v < 10 ^ pos
theorem tw_all (p : Int → Bool) : ∀ l : List Int, ∀ c ∈ l.takeWhile p, p c = true
  | [], c, h => by cases h
  | a :: r, c, h => by
    rw [List.takeWhile_cons] at h
    split at h
    · rename_i ha
      rcases List.mem_cons.1 h with rfl | h
      · exact ha
      · exact tw_all p r c h
    · cases h
theorem fNum_is {c : Int} (h : fNum c = true) : 48 ≤ c ∧ c ≤ 57 := by
  unfold fNum at h
  simpa using h
theorem p15 (pos : Nat) (h : pos ≤ 15) : (10 : Int) ^ pos ≤ 1000000000000000 := by
  have h := Nat.pow_le_pow_right (n := 10) (by omega) h
  have h' : ((10 ^ pos : Nat) : Int) ≤ ((10 ^ 15 : Nat) : Int) := Int.ofNat_le.2 h
  rw [Int.natCast_pow, Int.natCast_pow] at h'
  exact h'
theorem i64f_in (n : Int) (h1 : -9223372036854775808 ≤ n) (h2 : n ≤ 9223372036854775807) : IntKind.i64.wrap n = n := by rw [IntKind.wrap_i64]; omega
set_option maxHeartbeats 8000000 in
theorem fnumber_at (b : Nat) (s : ByteArray) (hs : s.size ≤ 1000000000000000) (w : World) (hb : Box w b #[.string s] 99) :
    Calls Tryz.prog 143 #[.pointer (some ⟨b, 0, none⟩)] w (AnyP b s ((numF (btL s)).map fun p => (⟨1, p.1, []⟩, p.2)) w) := by
  have HB := Lib.hid hb
  have HSZ := Lib.hid hs
  clear hb hs
  go_enter Tryz.func143, Tryz.ntmps143
  go_wp2_with fail
  refine (fskip_at b s ⟨#[45]⟩ _ HB.out).mono ?_
  rintro e w1 ⟨s1, neg, rfl, hR, hy, hn⟩
  have R1 := Lib.hid hR
  have HNF : Hid (numF (btL s) = digF neg (btL s1)) := Lib.hid (by
    cases neg with
    | true => exact numF_yes (hy rfl)
    | false => rw [(hn rfl).2]; exact numF_no (hn rfl).1)
  clear hR hy hn
  obtain ⟨N, hN⟩ : ∃ N, ((btL s1).takeWhile fNum).length = N := ⟨_, rfl⟩
  have HN := Lib.hid hN
  have TK := Lib.hid (tk_left s1 fNum N hN)
  have hs1 : s1.size ≤ 1000000000000000 := Nat.le_trans R1.out.size HSZ.out
  have HS1 := Lib.hid hs1
  have kr : w1.cell? ⟨b, 0, none⟩ = some (.string s1) := by rw [R1.out.box.cell 0]; rfl
  have lr := R1.out.box.lt
  clear hN hs1
  go_wp2_with fail
  refine (span_at s1 HS1.out fNum N HN.out _ _ _ egN1 (num1_fit _)).mono ?_
  rintro e w2 ⟨rfl, hb⟩
  have R2 := Lib.hid (R1.out.below hb)
  clear hb kr lr
  go_wp2_with fail
  refine (take_at b s1 N TK.out.2.2 _ R2.out.box).mono ?_
  rintro e w3 ⟨rfl, hR⟩
  have R3 := Lib.hid (R2.out.trans hR)
  clear hR
  obtain ⟨x, hx⟩ : ∃ x, s1.extract 0 N = x := ⟨_, rfl⟩
  obtain ⟨r, hr⟩ : ∃ r, s1.extract N s1.size = r := ⟨_, rfl⟩
  have xs : x.size = N := by rw [← hx]; simp; have := TK.out.2.2; omega
  have HX : Hid (btL x = (btL s1).takeWhile fNum) := Lib.hid (by rw [← hx]; exact TK.out.1)
  have HR : Hid (btL r = (btL s1).dropWhile fNum) := Lib.hid (by rw [← hr]; exact TK.out.2.1)
  rw [hx]
  rw [hr] at R3
  clear hx hr
  have HE0 := Lib.hid (emp_size x)
  by_cases h0 : x.size = 0
  · have HF : Hid ((numF (btL s)).map (fun p => ((⟨1, p.1, []⟩ : FVal), p.2)) = none) := Lib.hid (by
      rw [HNF.out]
      unfold digF
      rw [if_pos (Or.inl (by rw [HN.out]; omega))]
      rfl)
    have he : x.toList.isEmpty = true := by rw [HE0.out]; exact decide_eq_true h0
    go_wp2
    go_ret2
    exact ⟨.none, r, R3.out, trivial, Or.inr ⟨HF.out, rfl⟩⟩
  have he : x.toList.isEmpty = false := by rw [HE0.out]; exact decide_eq_false h0
  by_cases h15 : 15 < x.size
  · have HF : Hid ((numF (btL s)).map (fun p => ((⟨1, p.1, []⟩ : FVal), p.2)) = none) := Lib.hid (by
      rw [HNF.out]
      unfold digF
      rw [if_pos (Or.inr (by rw [HN.out]; omega))]
      rfl)
    have d1 : decide ((15 : Int) < (x.size : Int)) = true := decide_eq_true (by omega)
    have d2 : decide (15 < x.size) = true := decide_eq_true h15
    have d3 : decide ((x.size : Int) > 15) = true := decide_eq_true (by omega)
    go_wp2
    go_ret2
    exact ⟨.none, r, R3.out, trivial, Or.inr ⟨HF.out, rfl⟩⟩
  have d1 : decide ((15 : Int) < (x.size : Int)) = false := decide_eq_false (by omega)
  have d2 : decide (15 < x.size) = false := decide_eq_false h15
  have d3 : decide ((x.size : Int) > 15) = false := decide_eq_false (by omega)
  have HD : Hid (∀ pos (h : pos < x.size), 48 ≤ (x[pos].toNat : Int) ∧ (x[pos].toNat : Int) ≤ 57) := Lib.hid (fun pos h => fNum_is (tw_all fNum (btL s1) _ (by rw [← HX.out]; exact List.mem_of_getElem? (ln_at x pos h))))
  obtain ⟨V, hV⟩ : ∃ V, fval 0 (btL x) = V := ⟨_, rfl⟩
  have HV := Lib.hid hV
  have HF : Hid ((numF (btL s)).map (fun p => ((⟨1, p.1, []⟩ : FVal), p.2)) = some (⟨1, if neg = true then -V else V, []⟩, btL r)) := Lib.hid (by
    rw [HNF.out]
    unfold digF
    rw [if_neg (by rw [HN.out]; omega), ← HX.out, HV.out, ← HR.out]
    rfl)
  have hle : x.size ≤ 15 := by omega
  clear hV h0 h15
  go_wp2
  go_loopw [6] (fun n wr => ∃ (pos : Nat) (v : Int), n = .int .i64 v ∧ pos ≤ x.size ∧ 0 ≤ v ∧ v < 1000000000000000 ∧ w3.heap.size < wr.heap.size ∧ Hid (NuF b x s r w w3 wr pos v V)) (fun _ wr => x.size - wr.iterPos w3.heap.size)
  case atStart =>
    refine ⟨0, 0, rfl, by omega, by omega, by omega, by simp [World.iter], Lib.hid ⟨World.iter_heap w3 x 0, R3.out.below ((Below.refl _ _).alloc (Nat.le_refl _) _), by rw [List.drop_zero]; exact HV.out.symm, by omega, by decide⟩⟩
  case round =>
    obtain ⟨pos, v, rfl, hp, v0, v1, hsz, HL⟩ := hrel
    by_cases hlt : pos < x.size
    · obtain ⟨rn, wd, h1, h2, h3, h3', h4, h5, h6⟩ := runeD x pos hlt
      have hdg := HD.out pos hlt
      obtain ⟨e1, rfl⟩ : rn = (x[pos].toNat : Int) ∧ wd = 1 := by
        rcases h6 with ⟨e1, _, e3⟩ | ⟨_, e2⟩
        · exact ⟨e1, e3⟩
        · omega
      have hnx : ∀ ty, (Instr.next (.pointer (some ⟨w3.heap.size, 0, none⟩)) true ty).run Tryz.prog wr = .ok (.tuple #[.bool true, .int .i64 pos, .int .i32 rn]) (wr.iterAt w3.heap.size x (pos + 1)) := fun ty => by
        rw [Lib.run_next_any_at wr w3.heap.size x pos ty HL.out.it hlt, h1, h2]
      obtain ⟨wi, hwi⟩ : ∃ wi, wr.iterAt w3.heap.size x (pos + 1) = wi := ⟨_, rfl⟩
      have it2 : wi.heap[w3.heap.size]? = some (.stringIter x (pos + 1)) := by rw [← hwi]; exact Lib.iterAt_heap wr w3.heap.size x pos (pos + 1) HL.out.it
      have hbl : b < w3.heap.size := R3.out.box.lt
      have hwl : w.heap.size ≤ w3.heap.size := R3.out.only.size
      have RD : Hid (RdF b w wi s r) := Lib.hid ⟨by rw [← hwi]; exact dBox_iterAt HL.out.rd.box (by omega) x _, by rw [← hwi]; exact d_iterAt HL.out.rd.only hwl x _, HL.out.rd.size⟩
      have sz : w3.heap.size < wi.heap.size := by rw [← hwi, Lib.iterAt_size]; exact hsz
      rw [hwi] at hnx
      obtain ⟨z, hz⟩ : ∃ z, 10 * v + (rn - 48) = z := ⟨_, rfl⟩
      have hpw := p15 (pos + 1) (by omega)
      have hv2 : 10 * v + 10 ≤ 10 ^ (pos + 1) := by
        have := HL.out.v1
        rw [Int.pow_succ]
        omega
      have c0 : 48 ≤ rn := by omega
      have c1 : rn ≤ 57 := by omega
      have z0 : 0 ≤ z := by omega
      have z1 : z < 1000000000000000 := by omega
      have NX : Hid (NuF b x s r w w3 wi (pos + 1) z V) := Lib.hid ⟨it2, RD.out, by
        rw [HL.out.eq, ln_cons x pos hlt]
        show fval (10 * v + ((x[pos].toNat : Int) - 48)) _ = _
        rw [← hz, e1], z0, by omega⟩
      have IT := Lib.hid it2
      have HZ := Lib.hid hz
      clear hpw hv2 h1 h2 h3 h3' h4 h5 h6 hdg e1 it2 hwi hbl hwl
      go_wp2
      go_roundw
      case rel => exact ⟨pos + 1, z, by rw [← HZ.out], by omega, z0, z1, sz, NX⟩
      case measure =>
        simp only [World.iterPos, IT.out, HL.out.it]
        omega
    · have hnx : ∀ ty, (Instr.next (.pointer (some ⟨w3.heap.size, 0, none⟩)) true ty).run Tryz.prog wr = _ := fun ty => Lib.run_next_end_at wr w3.heap.size x pos ty HL.out.it hlt
      have HE : Hid (v = V) := Lib.hid (by
        rw [HL.out.eq, List.drop_eq_nil_of_le (by rw [btL_length]; omega)]
        rfl)
      have RE := Lib.hid HL.out.rd
      cases neg with
      | true =>
        have wv : IntKind.i64.wrap (-v) = -v := i64f_in _ (by omega) (by omega)
        go_wp2
        go_ret2
        exact ⟨.int (-v), r, RE.out, ⟨by omega, by omega⟩, Or.inl ⟨by rw [HF.out, HE.out]; rfl, rfl⟩⟩
      | false =>
        go_wp2
        go_ret2
        exact ⟨.int v, r, RE.out, ⟨by omega, by omega⟩, Or.inl ⟨by rw [HF.out, HE.out]; rfl, rfl⟩⟩
end Go.Proofs.YtodibjpojfipoaaGreatDoor
/- Package field: flags and words. -/
namespace Go.Proofs.YtodibjpojfipoaaGreatDoor
open Go.RowKit
set_option linter.unusedVariables false
set_option linter.unusedSimpArgs false
set_option maxRecDepth 10000

theorem flag_one {l r : List Int} (h : cutS [63, 49] l = some r) : flagF l = some (1, r) := by
  have := cutS_some h
  rw [this]
  rfl
theorem flag_zero {l r : List Int} (h1 : cutS [63, 49] l = none) (h : cutS [63, 48] l = some r) : flagF l = some (0, r) := by
  have := cutS_some h
  rw [this]
  rfl
theorem fcut_no {t r : List Int} (h : cutS t (t ++ r) = none) : False := by
  unfold cutS at h
  rw [if_pos (List.isPrefixOf_iff_prefix.2 ⟨r, rfl⟩)] at h
  cases h
theorem flag_no {l : List Int} (h1 : cutS [63, 49] l = none) (h : cutS [63, 48] l = none) : flagF l = none := by
  unfold flagF
  split
  · rename_i r
    exact absurd h1 (fun h => fcut_no (t := [63, 49]) (r := r) h)
  · rename_i r
    exact absurd h (fun h => fcut_no (t := [63, 48]) (r := r) h)
  · rfl
set_option maxHeartbeats 2000000 in
theorem fflag_at (b : Nat) (s : ByteArray) (w : World) (hb : Box w b #[.string s] 99) :
    Calls Tryz.prog 142 #[.pointer (some ⟨b, 0, none⟩)] w (AnyP b s ((flagF (btL s)).map fun p => (flagV p.1, p.2)) w) := by
  have HB := Lib.hid hb
  clear hb
  go_enter Tryz.func142, Tryz.ntmps142
  go_wp2_with fail
  refine (fskip_at b s ⟨#[63, 49]⟩ _ HB.out).mono ?_
  rintro e w1 ⟨q, h, rfl, hR, hy, hn⟩
  have R1 := Lib.hid hR
  have HY := Lib.hid hy
  have HN := Lib.hid hn
  clear hR hy hn
  cases h with
  | true =>
    have HF : Hid ((flagF (btL s)).map (fun p => (flagV p.1, p.2)) = some (⟨4, 1, []⟩, btL q)) := Lib.hid (by rw [flag_one (HY.out rfl)]; rfl)
    go_wp2
    go_ret2
    exact ⟨.flag true, q, R1.out, trivial, Or.inl ⟨HF.out, rfl⟩⟩
  | false =>
    obtain ⟨hn1, hq⟩ := HN.out rfl
    subst hq
    have HN1 := Lib.hid hn1
    clear hn1 HY HN
    go_wp2_with fail
    refine (fskip_at b q ⟨#[63, 48]⟩ _ R1.out.box).mono ?_
    rintro e w2 ⟨q2, h, rfl, hR, hy, hn⟩
    have R2 := Lib.hid (R1.out.trans hR)
    have HY := Lib.hid hy
    have HN := Lib.hid hn
    clear hR hy hn
    cases h with
    | true =>
      have HF : Hid ((flagF (btL q)).map (fun p => (flagV p.1, p.2)) = some (⟨4, 0, []⟩, btL q2)) := Lib.hid (by rw [flag_zero HN1.out (HY.out rfl)]; rfl)
      go_wp2
      go_ret2
      exact ⟨.flag false, q2, R2.out, trivial, Or.inl ⟨HF.out, rfl⟩⟩
    | false =>
      have HF : Hid ((flagF (btL q)).map (fun p => (flagV p.1, p.2)) = none) := Lib.hid (by rw [flag_no HN1.out (HN.out rfl).1]; rfl)
      go_wp2
      go_ret2
      exact ⟨.flag false, q2, R2.out, trivial, Or.inr ⟨HF.out, rfl⟩⟩
theorem wordF_is (l : List Int) (v : Int) (hv : hdI l = v) (q : Bool) (hq : ((fLow v || fUp v) || v == 42) = q) : wordF l = if q then some (l.takeWhile wordC, l.dropWhile wordC) else none := by
  subst hq hv
  cases l with
  | nil => rfl
  | cons c r => rfl
set_option maxHeartbeats 4000000 in
theorem fword_at (b : Nat) (s : ByteArray) (hs : s.size ≤ 1000000000000000) (w : World) (hb : Box w b #[.string s] 99) :
    Calls Tryz.prog 144 #[.pointer (some ⟨b, 0, none⟩)] w (AnyP b s ((wordF (btL s)).map fun p => (⟨3, 0, p.1⟩, p.2)) w) := by
  have HB := Lib.hid hb
  obtain ⟨v, hv⟩ : ∃ v, hdI (btL s) = v := ⟨_, rfl⟩
  have hvb := hdI_u8 s
  rw [hv] at hvb
  have wv : IntKind.i32.wrap v = v := by rw [IntKind.wrap_i32]; omega
  obtain ⟨b1, h1⟩ : ∃ x, (fLow v || fUp v) = x := ⟨_, rfl⟩
  obtain ⟨q0, hq⟩ : ∃ x, (b1 || v == 42) = x := ⟨_, rfl⟩
  have HKF := Lib.hid (wordF_is (btL s) v hv q0 (by rw [h1, hq]))
  have HV := Lib.hid hv
  have H1 := Lib.hid h1
  obtain ⟨N, hN⟩ : ∃ N, ((btL s).takeWhile wordC).length = N := ⟨_, rfl⟩
  have HN := Lib.hid hN
  have TK := Lib.hid (tk_left s wordC N hN)
  clear hb hv h1 hN hvb
  go_enter Tryz.func144, Tryz.ntmps144
  go_wp2_with fail
  refine (next_at b s v HV.out _ HB.out).mono ?_
  rintro e w2 ⟨rfl, hw⟩
  subst w2
  go_wp2_with fail
  refine (flet_at v b1 H1.out _).mono ?_
  rintro e w2 ⟨rfl, hw⟩
  subst w2
  cases q0 with
  | true =>
    have hd : b1 = true ∨ (b1 = false ∧ (v != 42) = false) := by
      cases b1
      · right
        exact ⟨rfl, by simpa using hq⟩
      · exact Or.inl rfl
    have kr : w.cell? ⟨b, 0, none⟩ = some (.string s) := by rw [HB.out.cell 0]; rfl
    have lr := HB.out.lt
    rcases hd with hd | ⟨hd, hd2⟩
    · subst hd
      go_wp2_with fail
      refine (span_at s hs wordC N HN.out _ _ _ egW1 (word1_fit _)).mono ?_
      rintro e w2 ⟨rfl, hb⟩
      have R2 := Lib.hid ((RdF.refl HB.out).below hb)
      clear hb
      go_wp2_with fail
      refine (take_at b s N TK.out.2.2 _ R2.out.box).mono ?_
      rintro e w3 ⟨rfl, hR⟩
      have R3 := Lib.hid (R2.out.trans hR)
      clear hR
      go_wp2
      go_ret2
      exact ⟨.word (s.extract 0 N), _, R3.out, (by show (s.extract 0 N).size ≤ s.size; simp; omega), Or.inl ⟨by rw [HKF.out, ← TK.out.1, ← TK.out.2.1]; rfl, rfl⟩⟩
    · subst hd
      go_wp2_with fail
      refine (span_at s hs wordC N HN.out _ _ _ egW1 (word1_fit _)).mono ?_
      rintro e w2 ⟨rfl, hb⟩
      have R2 := Lib.hid ((RdF.refl HB.out).below hb)
      clear hb
      go_wp2_with fail
      refine (take_at b s N TK.out.2.2 _ R2.out.box).mono ?_
      rintro e w3 ⟨rfl, hR⟩
      have R3 := Lib.hid (R2.out.trans hR)
      clear hR
      go_wp2
      go_ret2
      exact ⟨.word (s.extract 0 N), _, R3.out, (by show (s.extract 0 N).size ≤ s.size; simp; omega), Or.inl ⟨by rw [HKF.out, ← TK.out.1, ← TK.out.2.1]; rfl, rfl⟩⟩
  | false =>
    have hd : b1 = false ∧ (v != 42) = true := by
      cases b1
      · exact ⟨rfl, by simpa using hq⟩
      · simp at hq
    obtain ⟨hd, hd2⟩ := hd
    subst hd
    go_wp2
    go_ret2
    exact ⟨.none, s, RdF.refl HB.out, trivial, Or.inr ⟨by rw [HKF.out]; rfl, rfl⟩⟩
end Go.Proofs.YtodibjpojfipoaaGreatDoor
/- Package field: quoted texts. -/
namespace Go.Proofs.YtodibjpojfipoaaGreatDoor
open Go.RowKit
set_option linter.unusedVariables false
set_option linter.unusedSimpArgs false
set_option maxRecDepth 10000

theorem tx_q (r : List Int) : textG (34 :: r) = some ([], r) := by unfold textG; rw [if_pos rfl]
theorem tx_b0 : textG [92] = none := by unfold textG; rw [if_neg (by decide), if_pos rfl]
theorem tx_b (d : Int) (r : List Int) (h : d = 34 ∨ d = 92) : textG (92 :: d :: r) = (textG r).map fun p => (d :: p.1, p.2) := by
  conv => lhs; unfold textG
  rw [if_neg (by decide), if_pos rfl]
  dsimp only
  rw [if_pos h]
theorem tx_bn (d : Int) (r : List Int) (h : ¬ (d = 34 ∨ d = 92)) : textG (92 :: d :: r) = none := by
  conv => lhs; unfold textG
  rw [if_neg (by decide), if_pos rfl]
  dsimp only
  rw [if_neg h]
theorem tx_no (c : Int) (r : List Int) (h1 : c ≠ 34) (h2 : c ≠ 92) (h : c < 32 ∨ 126 < c) : textG (c :: r) = none := by
  conv => lhs; unfold textG
  rw [if_neg h1, if_neg h2, if_pos h]
theorem tx_c (c : Int) (r : List Int) (h1 : c ≠ 34) (h2 : c ≠ 92) (h : ¬ (c < 32 ∨ 126 < c)) : textG (c :: r) = (textG r).map fun p => (c :: p.1, p.2) := by
  conv => lhs; unfold textG
  rw [if_neg h1, if_neg h2, if_neg h]
theorem tk1 (q : ByteArray) (h : 0 < q.size) : ∃ (y q1 : ByteArray) (c : Int) (hy : 0 < y.size), q.extract 0 1 = y ∧ q.extract 1 q.size = q1 ∧ y.size = 1 ∧ ((y[0]'hy).toNat : Int) = c ∧ btL q = c :: btL q1 ∧ q1.size + 1 = q.size ∧ 0 ≤ c ∧ c < 256 := by
  have hs : (q.extract 0 1).size = 1 := by simp; omega
  refine ⟨_, _, _, by rw [hs]; omega, rfl, rfl, hs, rfl, ?_, by simp; omega, by omega, ?_⟩
  · have h1 := ln_cons q 0 h
    rw [List.drop_zero] at h1
    rw [h1, btD_extract, List.take_of_length_le (by rw [List.length_drop, btL_length]; omega), Nat.zero_add]
    congr 1
    have h2 := ln_cons (q.extract 0 1) 0 (by rw [hs]; omega)
    rw [List.drop_zero, btD_extract, List.drop_zero, Nat.sub_zero, h1] at h2
    rw [List.take_succ_cons] at h2
    injection h2
  · have := ((q.extract 0 1)[0]'(by rw [hs]; omega)).toNat_lt
    omega
def cellSz (w : World) (b : Nat) : Nat := match w.cell? ⟨b, 0, none⟩ with
  | some (.string s) => s.size
  | _ => 0
/-- The reader goes on beside a row of the call's own. -/
theorem RdF.aside {b : Nat} {s q : ByteArray} {w w1 w2 : World} (a : RdF b w w1 s q) (hbl : b < w.heap.size) (h : Below w.heap.size w1 w2) : RdF b w w2 s q :=
  ⟨(h.block b hbl).trans a.box, ⟨h.os.trans a.only.os, h.tape.trans a.only.tape, h.output.trans a.only.output, Nat.le_trans a.only.size h.size, fun i hi hne => (h.block i hi).trans (a.only.block i hi hne)⟩, a.size⟩
theorem OwnB.turned {w w' : World} {B b : Nat} {a : Option Addr} {cap : Nat} {l : List Int} (h : OwnB w B a cap l) (hg : w.grownBy w' (some b)) (hb : b < B) : OwnB w' B a cap l := by
  have h' : Own w B 5 1 a l.length cap (l.map (Value.int .u8)) := h
  have : Own w' B 5 1 a l.length cap (l.map (Value.int .u8)) := by
    refine h'.blocks (fun g e => ?_)
    rcases h'.2 with h2 | ⟨g2, cc, cur, e2, hB, hg2, hrr⟩
    · rw [e] at h2; simp at h2
    · have e3 : g = g2 := by rw [e] at e2; simp at e2; exact e2.1
      subst e3
      exact hg.block g (Array.getElem?_eq_some_iff.1 hg2).1 (fun e4 => by injection e4; omega)
  exact this
structure TxL (b : Nat) (s : ByteArray) (t : List Int) (w wr : World) (a : Option Addr) (cap : Nat) (acc : List Int) (q : ByteArray) : Prop where
  own : OwnB wr w.heap.size a cap acc
  rd : RdF b w wr s q
  eq : textG t = (textG (btL q)).map fun p => (acc ++ p.1, p.2)
  len : acc.length + q.size + 1 ≤ s.size
  byt : Byts acc
set_option maxHeartbeats 8000000 in
theorem ftext_at (b : Nat) (s : ByteArray) (t : List Int) (ht : btL s = 34 :: t) (hs : s.size ≤ 1000000) (w : World) (hb : Box w b #[.string s] 99) :
    Calls Tryz.prog 113 #[.pointer (some ⟨b, 0, none⟩)] w (AnyP b s ((textG t).map fun p => (⟨2, 0, p.1⟩, p.2)) w) := by
  have HB := Lib.hid hb
  have HSZ := Lib.hid hs
  have HTT := Lib.hid ht
  have hbl := hb.lt
  clear hb hs ht
  go_enter Tryz.func113, Tryz.ntmps113
  go_wp2_with fail
  refine (fskip_at b s ⟨#[34]⟩ _ HB.out).mono ?_
  rintro e w1 ⟨s1, h, rfl, hR, hy, hn⟩
  have hc : cutS [34] (btL s) = some t := by rw [HTT.out, cut_one]; dsimp only; rw [if_pos rfl]
  obtain rfl : h = true := by
    cases h with
    | true => rfl
    | false => have := (hn rfl).1; rw [show btL ⟨#[34]⟩ = [34] from rfl, hc] at this; cases this
  have hs1 : btL s1 = t := by
    have := hy rfl
    rw [show btL ⟨#[34]⟩ = [34] from rfl, hc] at this
    exact (Option.some.inj this).symm
  have hl1 : s1.size + 1 = s.size := by
    have h1 := congrArg List.length HTT.out
    rw [← hs1, btL_length, List.length_cons, btL_length] at h1
    omega
  have L1 : Hid (TxL b s t w w1 none 0 [] s1) := Lib.hid ⟨OwnB.nil _ _, hR, by rw [hs1]; simp, by simp; omega, Byts.nil⟩
  clear hR hy hn hc hs1 hl1
  go_wp2_with fail
  go_loopw [4] (fun vb wr => ∃ (acc : List Int) (n : Nat) (a : Option Addr) (cap : Nat) (q : ByteArray), vb = .slice a n cap ∧ n ≤ 1000000 ∧ Hid (acc.length = n) ∧ Hid (TxL b s t w wr a cap acc q)) (fun _ wr => cellSz wr b)
  case atStart => exact ⟨[], 0, none, 0, s1, rfl, by omega, Lib.hid rfl, L1⟩
  case round =>
    obtain ⟨acc, n, a, cap, q, rfl, hn, HN, HL⟩ := hrel
    clear L1
    have kr : wr.cell? ⟨b, 0, none⟩ = some (.string q) := by rw [HL.out.rd.box.cell 0]; rfl
    have lr := HL.out.rd.box.lt
    have HSC : Hid (cellSz wr b = q.size) := Lib.hid (by unfold cellSz; rw [kr])
    by_cases h0 : 0 < q.size
    · have he : q.toList.isEmpty = false := by rw [emp_size]; exact decide_eq_false (by omega)
      obtain ⟨y, q1, c, hy, e1, e2, e3, e4, e5, e6, e7, e8⟩ := tk1 q h0
      have E5 := Lib.hid e5
      have E6 := Lib.hid e6
      have E1 := Lib.hid e1
      have E2 := Lib.hid e2
      have iy : (0 : Int) < (y.size : Int) := by omega
      clear e1 e2 e5 e6
      go_wp2_with fail
      refine (take_at b q 1 (by omega) _ HL.out.rd.box).mono ?_
      rintro e w2 ⟨rfl, hR⟩
      rw [E1.out]
      rw [E2.out] at hR
      have R2 := Lib.hid (HL.out.rd.trans hR)
      have O2 := Lib.hid (HL.out.own.turned hR.only hbl)
      clear hR kr lr
      by_cases c34 : c = 34
      · have d1 : (c == 34) = true := by rw [c34]; rfl
        have hcv := O2.out.rd.text 78 5 129 (P := Tryz.prog) Tryz.underlying78 Tryz.underlying5 Tryz.underlying129 (fun _ => by
          rcases O2.out.form with ⟨h, _⟩ | ⟨g, h, _⟩
          · exact Or.inl h
          · exact Or.inr ⟨g, 0, h⟩) cap
        rw [HN.out] at hcv
        have HF : Hid ((textG t).map (fun p => ((⟨2, 0, p.1⟩ : FVal), p.2)) = some (⟨2, 0, acc⟩, btL q1)) := Lib.hid (by rw [HL.out.eq, E5.out, c34, tx_q]; simp)
        have HBY : Hid (Byts acc) := Lib.hid HL.out.byt
        have HC34 := Lib.hid c34
        clear c34
        go_wp2
        go_ret2
        exact ⟨.text (strL acc), q1, R2.out, (by have := HL.out.len; show (strL acc).size ≤ s.size; rw [← btL_length, btL_strL HBY.out]; omega), Or.inl ⟨by rw [HF.out]; simp only [pkF, btL_strL HBY.out], rfl⟩⟩
      · have d1 : (c == 34) = false := by simpa using c34
        have HC34 := Lib.hid c34
        clear c34
        by_cases c92 : c = 92
        · have d2 : (c == 92) = true := by rw [c92]; rfl
          obtain ⟨v, hv⟩ : ∃ v, hdI (btL q1) = v := ⟨_, rfl⟩
          have HV := Lib.hid hv
          have HC92 := Lib.hid c92
          clear hv c92
          go_wp2_with fail
          refine (next_at b q1 v HV.out _ R2.out.box).mono ?_
          rintro e w3 ⟨rfl, hw⟩
          subst w3
          by_cases v34 : v = 34
          · have x1 : (v != 34) = false := by rw [v34]; rfl
            have HOK : Hid (v = 34 ∨ v = 92) := Lib.hid (Or.inl v34)
            have hv0 : v ≠ 0 := by omega
            clear v34
            have h1s : 0 < q1.size := by
              rcases Nat.eq_zero_or_pos q1.size with h | h
              · exact absurd (HV.out.symm.trans (hd_nil q1 h)) hv0
              · exact h
            obtain ⟨y2, q2, c2, hy2, f1, f2, f3, f4, f5, f6, f7, f8⟩ := tk1 q1 h1s
            have F5 := Lib.hid f5
            have F6 := Lib.hid f6
            have F1 := Lib.hid f1
            have F2 := Lib.hid f2
            have iy2 : (0 : Int) < (y2.size : Int) := by omega
            have HCV : Hid (c2 = v) := Lib.hid (by have := HV.out; rw [f5] at this; exact this)
            clear f1 f2 f5 f6
            go_wp2_with fail
            refine (take_at b q1 1 (by omega) _ R2.out.box).mono ?_
            rintro e w4 ⟨rfl, hR⟩
            rw [F1.out]
            rw [F2.out] at hR
            have R4 := Lib.hid (R2.out.trans hR)
            have O4 := Lib.hid (O2.out.turned hR.only hbl)
            clear hR
            have HEQ : Hid (textG t = (textG (btL q2)).map fun p => ((acc ++ [c2]) ++ p.1, p.2)) := Lib.hid (by
              rw [HL.out.eq, E5.out, HC92.out, F5.out, tx_b c2 _ (by rw [HCV.out]; exact HOK.out), Option.map_map]
              congr 1
              funext p
              simp)
            have hnl : acc.length + q.size + 1 ≤ s.size := HL.out.len
            have HN1 : Hid (n + 1 + q2.size + 1 ≤ s.size) := Lib.hid (by have := E6.out; have := F6.out; have := HN.out; omega)
            have hn1 : n + 1 ≤ 1000000 := by have := HN1.out; have := HSZ.out; omega
            have HLN : Hid ((acc ++ [c2]).length = n + 1) := Lib.hid (by rw [List.length_append, HN.out]; rfl)
            clear hnl
            have HBN : Hid (Byts (acc ++ [c2])) := Lib.hid (HL.out.byt.append (Byts.mk ⟨by omega, by omega⟩ Byts.nil))
            go_wp2_with (at_builtin; refine wpList_app3 rfl _ _ rfl w.heap.size a n cap acc [c2] (acc ++ [c2]) 1 (n + 1) rfl HN.out rfl HLN.out (by omega) rfl (O4.out.alloc _) _ 0 1 rfl (RdB.new _ [c2] _ _) (by omega) (Nat.le_trans R4.out.only.size (by simp)) ?_; rintro g9 cap9 w9 own9 bel9; have NX : Hid (TxL b s t w w9 (some ⟨g9, 0, none⟩) cap9 (acc ++ [c2]) q2) := Lib.hid ⟨own9, R4.out.aside hbl (((Below.refl w.heap.size w4).alloc R4.out.only.size _).trans bel9), HEQ.out, (by have := HN1.out; have := HLN.out; omega), HBN.out⟩)
            have HS9 : Hid (cellSz w9 b = q2.size) := Lib.hid (by unfold cellSz; rw [NX.out.rd.box.cell 0]; rfl)
            go_roundw
            case rel => exact ⟨acc ++ [c2], n + 1, some ⟨g9, 0, none⟩, cap9, q2, rfl, hn1, HLN, NX⟩
            case measure =>
              rw [HS9.out, HSC.out]
              have := E6.out
              have := F6.out; omega
          · have x1 : (v != 34) = true := by simpa using v34
            have HV34 := Lib.hid v34
            clear v34
            go_wp2_with fail
            refine (next_at b q1 v HV.out _ R2.out.box).mono ?_
            rintro e w3 ⟨rfl, hw⟩
            subst w3
            by_cases v92 : v = 92
            · have x2 : (v != 92) = false := by rw [v92]; rfl
              have HOK : Hid (v = 34 ∨ v = 92) := Lib.hid (Or.inr v92)
              have hv0 : v ≠ 0 := by omega
              clear v92
              have h1s : 0 < q1.size := by
                rcases Nat.eq_zero_or_pos q1.size with h | h
                · exact absurd (HV.out.symm.trans (hd_nil q1 h)) hv0
                · exact h
              obtain ⟨y2, q2, c2, hy2, f1, f2, f3, f4, f5, f6, f7, f8⟩ := tk1 q1 h1s
              have F5 := Lib.hid f5
              have F6 := Lib.hid f6
              have F1 := Lib.hid f1
              have F2 := Lib.hid f2
              have iy2 : (0 : Int) < (y2.size : Int) := by omega
              have HCV : Hid (c2 = v) := Lib.hid (by have := HV.out; rw [f5] at this; exact this)
              clear f1 f2 f5 f6
              go_wp2_with fail
              refine (take_at b q1 1 (by omega) _ R2.out.box).mono ?_
              rintro e w4 ⟨rfl, hR⟩
              rw [F1.out]
              rw [F2.out] at hR
              have R4 := Lib.hid (R2.out.trans hR)
              have O4 := Lib.hid (O2.out.turned hR.only hbl)
              clear hR
              have HEQ : Hid (textG t = (textG (btL q2)).map fun p => ((acc ++ [c2]) ++ p.1, p.2)) := Lib.hid (by
                rw [HL.out.eq, E5.out, HC92.out, F5.out, tx_b c2 _ (by rw [HCV.out]; exact HOK.out), Option.map_map]
                congr 1
                funext p
                simp)
              have hnl : acc.length + q.size + 1 ≤ s.size := HL.out.len
              have HN1 : Hid (n + 1 + q2.size + 1 ≤ s.size) := Lib.hid (by have := E6.out; have := F6.out; have := HN.out; omega)
              have hn1 : n + 1 ≤ 1000000 := by have := HN1.out; have := HSZ.out; omega
              have HLN : Hid ((acc ++ [c2]).length = n + 1) := Lib.hid (by rw [List.length_append, HN.out]; rfl)
              clear hnl
              have HBN : Hid (Byts (acc ++ [c2])) := Lib.hid (HL.out.byt.append (Byts.mk ⟨by omega, by omega⟩ Byts.nil))
              go_wp2_with (at_builtin; refine wpList_app3 rfl _ _ rfl w.heap.size a n cap acc [c2] (acc ++ [c2]) 1 (n + 1) rfl HN.out rfl HLN.out (by omega) rfl (O4.out.alloc _) _ 0 1 rfl (RdB.new _ [c2] _ _) (by omega) (Nat.le_trans R4.out.only.size (by simp)) ?_; rintro g9 cap9 w9 own9 bel9; have NX : Hid (TxL b s t w w9 (some ⟨g9, 0, none⟩) cap9 (acc ++ [c2]) q2) := Lib.hid ⟨own9, R4.out.aside hbl (((Below.refl w.heap.size w4).alloc R4.out.only.size _).trans bel9), HEQ.out, (by have := HN1.out; have := HLN.out; omega), HBN.out⟩)
              have HS9 : Hid (cellSz w9 b = q2.size) := Lib.hid (by unfold cellSz; rw [NX.out.rd.box.cell 0]; rfl)
              go_roundw
              case rel => exact ⟨acc ++ [c2], n + 1, some ⟨g9, 0, none⟩, cap9, q2, rfl, hn1, HLN, NX⟩
              case measure =>
                rw [HS9.out, HSC.out]
                have := E6.out
                have := F6.out; omega
            · have x2 : (v != 92) = true := by simpa using v92
              have HF : Hid ((textG t).map (fun p => ((⟨2, 0, p.1⟩ : FVal), p.2)) = none) := Lib.hid (by
                have h1 := HL.out.eq
                rw [E5.out, HC92.out] at h1
                have h2 := HV.out
                cases hq : btL q1 with
                | nil => rw [h1, hq, tx_b0]; rfl
                | cons d r =>
                  rw [hq] at h2
                  have h3 : d = v := h2
                  rw [h1, hq, tx_bn d r (by rw [h3]; rintro (h | h); exact HV34.out h; exact v92 h)]
                  rfl)
              go_wp2
              go_ret2
              exact ⟨.none, q1, R2.out, trivial, Or.inr ⟨HF.out, rfl⟩⟩
        · have d2 : (c == 92) = false := by simpa using c92
          have HC92 := Lib.hid c92
          clear c92
          by_cases cno : c < 32 ∨ 126 < c
          · have HF : Hid ((textG t).map (fun p => ((⟨2, 0, p.1⟩ : FVal), p.2)) = none) := Lib.hid (by rw [HL.out.eq, E5.out, tx_no c _ HC34.out HC92.out cno]; rfl)
            rcases (by omega : c < 32 ∨ (¬ c < 32 ∧ 126 < c)) with h | ⟨h, h2⟩
            · have d3 : decide (c < 32) = true := decide_eq_true h
              go_wp2
              go_ret2
              exact ⟨.none, q1, R2.out, trivial, Or.inr ⟨HF.out, rfl⟩⟩
            · have d3 : decide (c < 32) = false := decide_eq_false h
              have d4 : decide (126 < c) = true := decide_eq_true h2
              have d5 : decide (c > 126) = true := decide_eq_true h2
              go_wp2
              go_ret2
              exact ⟨.none, q1, R2.out, trivial, Or.inr ⟨HF.out, rfl⟩⟩
          · have d3 : decide (c < 32) = false := decide_eq_false (by omega)
            have d4 : decide (126 < c) = false := decide_eq_false (by omega)
            have d5 : decide (c > 126) = false := decide_eq_false (by omega)
            have HEQ : Hid (textG t = (textG (btL q1)).map fun p => ((acc ++ [c]) ++ p.1, p.2)) := Lib.hid (by
              rw [HL.out.eq, E5.out, tx_c c _ HC34.out HC92.out cno, Option.map_map]
              congr 1
              funext p
              simp)
            have hnl : acc.length + q.size + 1 ≤ s.size := HL.out.len
            have HN1 : Hid (n + 1 + q1.size + 1 ≤ s.size) := Lib.hid (by have := E6.out; have := HN.out; omega)
            have hn1 : n + 1 ≤ 1000000 := by have := HN1.out; have := HSZ.out; omega
            have HLN : Hid ((acc ++ [c]).length = n + 1) := Lib.hid (by rw [List.length_append, HN.out]; rfl)
            clear cno hnl
            have HBN : Hid (Byts (acc ++ [c])) := Lib.hid (HL.out.byt.append (Byts.mk ⟨by omega, by omega⟩ Byts.nil))
            go_wp2_with (at_builtin; refine wpList_app3 rfl _ _ rfl w.heap.size a n cap acc [c] (acc ++ [c]) 1 (n + 1) rfl HN.out rfl HLN.out (by omega) rfl (O2.out.alloc _) _ 0 1 rfl (RdB.new _ [c] _ _) (by omega) (Nat.le_trans R2.out.only.size (by simp)) ?_; rintro g9 cap9 w9 own9 bel9; have NX : Hid (TxL b s t w w9 (some ⟨g9, 0, none⟩) cap9 (acc ++ [c]) q1) := Lib.hid ⟨own9, R2.out.aside hbl (((Below.refl w.heap.size w2).alloc R2.out.only.size _).trans bel9), HEQ.out, (by have := HN1.out; have := HLN.out; omega), HBN.out⟩)
            have HS9 : Hid (cellSz w9 b = q1.size) := Lib.hid (by unfold cellSz; rw [NX.out.rd.box.cell 0]; rfl)
            go_roundw
            case rel => exact ⟨acc ++ [c], n + 1, some ⟨g9, 0, none⟩, cap9, q1, rfl, hn1, HLN, NX⟩
            case measure =>
              rw [HS9.out, HSC.out]
              have := E6.out
              omega
    · have he : q.toList.isEmpty = true := by rw [emp_size]; exact decide_eq_true (by omega)
      have HF : Hid ((textG t).map (fun p => ((⟨2, 0, p.1⟩ : FVal), p.2)) = none) := Lib.hid (by
        rw [HL.out.eq, show btL q = [] from List.eq_nil_of_length_eq_zero (by rw [btL_length]; omega)]
        rfl)
      go_wp2
      go_ret2
      exact ⟨.none, q, HL.out.rd, trivial, Or.inr ⟨HF.out, rfl⟩⟩
end Go.Proofs.YtodibjpojfipoaaGreatDoor
/- Package field: values, reading functions by the first byte, keys with values. -/
namespace Go.Proofs.YtodibjpojfipoaaGreatDoor
open Go.RowKit
set_option linter.unusedVariables false
set_option linter.unusedSimpArgs false
set_option maxRecDepth 10000

/-- A value in memory: its kind, number, text. -/
structure VB where
  k : Int
  n : Int
  s : ByteArray
def VB.f (v : VB) : FVal := ⟨v.k, v.n, btL v.s⟩
def vbA (v : VB) : Array Value := #[.int .i64 v.k, .int .i64 v.n, .string v.s]
def pkV : AnyV → VB
  | .int n => ⟨1, n, ByteArray.empty⟩
  | .text s => ⟨2, 0, s⟩
  | .word s => ⟨3, 0, s⟩
  | .flag b => ⟨4, if b then 1 else 0, ByteArray.empty⟩
  | .none => ⟨4, 0, ByteArray.empty⟩
theorem pk_f (x : AnyV) : (pkV x).f = pkF x := by cases x <;> rfl
theorem ta_int_int (v : Value) (w : World) : (Instr.typeAssert (.iface 3 v) 20 3 true).run Tryz.prog w = .ok (.tuple #[v, .bool true]) w := by kernel_rfl
theorem ta_int_text (v : Value) (w : World) : (Instr.typeAssert (.iface 3 v) 20 129 true).run Tryz.prog w = .ok (.tuple #[.string ByteArray.empty, .bool false]) w := by kernel_rfl
theorem ta_int_word (v : Value) (w : World) : (Instr.typeAssert (.iface 3 v) 20 146 true).run Tryz.prog w = .ok (.tuple #[.string ByteArray.empty, .bool false]) w := by kernel_rfl
theorem ta_int_flag (v : Value) (w : World) : (Instr.typeAssert (.iface 3 v) 20 4 true).run Tryz.prog w = .ok (.tuple #[.bool false, .bool false]) w := by kernel_rfl
theorem ta_text_int (v : Value) (w : World) : (Instr.typeAssert (.iface 129 v) 20 3 true).run Tryz.prog w = .ok (.tuple #[.int .i64 0, .bool false]) w := by kernel_rfl
theorem ta_text_text (v : Value) (w : World) : (Instr.typeAssert (.iface 129 v) 20 129 true).run Tryz.prog w = .ok (.tuple #[v, .bool true]) w := by kernel_rfl
theorem ta_text_word (v : Value) (w : World) : (Instr.typeAssert (.iface 129 v) 20 146 true).run Tryz.prog w = .ok (.tuple #[.string ByteArray.empty, .bool false]) w := by kernel_rfl
theorem ta_text_flag (v : Value) (w : World) : (Instr.typeAssert (.iface 129 v) 20 4 true).run Tryz.prog w = .ok (.tuple #[.bool false, .bool false]) w := by kernel_rfl
theorem ta_word_int (v : Value) (w : World) : (Instr.typeAssert (.iface 146 v) 20 3 true).run Tryz.prog w = .ok (.tuple #[.int .i64 0, .bool false]) w := by kernel_rfl
theorem ta_word_text (v : Value) (w : World) : (Instr.typeAssert (.iface 146 v) 20 129 true).run Tryz.prog w = .ok (.tuple #[.string ByteArray.empty, .bool false]) w := by kernel_rfl
theorem ta_word_word (v : Value) (w : World) : (Instr.typeAssert (.iface 146 v) 20 146 true).run Tryz.prog w = .ok (.tuple #[v, .bool true]) w := by kernel_rfl
theorem ta_word_flag (v : Value) (w : World) : (Instr.typeAssert (.iface 146 v) 20 4 true).run Tryz.prog w = .ok (.tuple #[.bool false, .bool false]) w := by kernel_rfl
theorem ta_flag_int (v : Value) (w : World) : (Instr.typeAssert (.iface 4 v) 20 3 true).run Tryz.prog w = .ok (.tuple #[.int .i64 0, .bool false]) w := by kernel_rfl
theorem ta_flag_text (v : Value) (w : World) : (Instr.typeAssert (.iface 4 v) 20 129 true).run Tryz.prog w = .ok (.tuple #[.string ByteArray.empty, .bool false]) w := by kernel_rfl
theorem ta_flag_word (v : Value) (w : World) : (Instr.typeAssert (.iface 4 v) 20 146 true).run Tryz.prog w = .ok (.tuple #[.string ByteArray.empty, .bool false]) w := by kernel_rfl
theorem ta_flag_flag (v : Value) (w : World) : (Instr.typeAssert (.iface 4 v) 20 4 true).run Tryz.prog w = .ok (.tuple #[v, .bool true]) w := by kernel_rfl
theorem ta_nil_int (w : World) : (Instr.typeAssert .nilIface 20 3 true).run Tryz.prog w = .ok (.tuple #[.int .i64 0, .bool false]) w := by kernel_rfl
theorem ta_nil_text (w : World) : (Instr.typeAssert .nilIface 20 129 true).run Tryz.prog w = .ok (.tuple #[.string ByteArray.empty, .bool false]) w := by kernel_rfl
theorem ta_nil_word (w : World) : (Instr.typeAssert .nilIface 20 146 true).run Tryz.prog w = .ok (.tuple #[.string ByteArray.empty, .bool false]) w := by kernel_rfl
theorem ta_nil_flag (w : World) : (Instr.typeAssert .nilIface 20 4 true).run Tryz.prog w = .ok (.tuple #[.bool false, .bool false]) w := by kernel_rfl
theorem results_cellF {P : Program} {fn : Func} {a : Tmp} {ty : TypeId} {p : Addr} {v : Value} {tmps : Array Value} {w : World} (h : fn.results = #[.cell a ty]) (ha : tmps.getD a undef = .pointer (some p)) (hl : (loadVar ty p).run P w = .ok v w) :
    (results fn tmps).run P w = .ok v w := by
  have ha2 : tmps[a]?.getD undef = .pointer (some p) := by simpa using ha
  simp [results, h, ha2, asAddr, hl]
theorem results_cell_tmpF {P : Program} {fn : Func} {a u : Tmp} {ty : TypeId} {p : Addr} {v : Value} {tmps : Array Value} {w : World} (h : fn.results = #[.cell a ty, .tmp u]) (ha : tmps.getD a undef = .pointer (some p)) (hl : (loadVar ty p).run P w = .ok v w) :
    (results fn tmps).run P w = .ok (.tuple #[v, tmps.getD u undef]) w := by
  have ha2 : tmps[a]?.getD undef = .pointer (some p) := by simpa using ha
  simp [results, h, ha2, asAddr, hl]
theorem val_row {w : World} {g : Nat} {cs : Array Value} (h : Box w g cs 70) (hs : cs.size = 3) : (loadVar 70 ⟨g, 0, none⟩).run Tryz.prog w = .ok (.agg cs) w :=
  run_loadVar_row w g 70 70 cs (0, 0) _ h Tryz.underlying70 rfl (by rw [hs]; kernel_rfl)
set_option maxHeartbeats 4000000 in
theorem packed_at (x : AnyV) (w : World) :
    Calls Tryz.prog 114 #[anyV x] w fun e w' => e = .returned (.agg #[.int .i64 (pkV x).k, .int .i64 (pkV x).n, .string (pkV x).s]) ∧ Below w.heap.size w w' := by
  cases x with
  | int n =>
    show Calls Tryz.prog 114 #[.iface 3 (.int .i64 n)] w _
    have ta_int_int := ta_int_int (.int .i64 n)
    go_enter Tryz.func114, Tryz.ntmps114
    go_wp2
    refine bodyPost_ret (results_cellF Tryz.results114 rfl (val_row (Box.new w _ _) rfl)) rfl ⟨rfl, (Below.refl _ _).alloc (Nat.le_refl _) _⟩
  | text s =>
    show Calls Tryz.prog 114 #[.iface 129 (.string s)] w _
    have ta_text_int := ta_text_int (.string s)
    have ta_text_text := ta_text_text (.string s)
    go_enter Tryz.func114, Tryz.ntmps114
    go_wp2
    refine bodyPost_ret (results_cellF Tryz.results114 rfl (val_row (Box.new w _ _) rfl)) rfl ⟨rfl, (Below.refl _ _).alloc (Nat.le_refl _) _⟩
  | word s =>
    show Calls Tryz.prog 114 #[.iface 146 (.string s)] w _
    have ta_word_int := ta_word_int (.string s)
    have ta_word_text := ta_word_text (.string s)
    have ta_word_word := ta_word_word (.string s)
    go_enter Tryz.func114, Tryz.ntmps114
    go_wp2
    refine bodyPost_ret (results_cellF Tryz.results114 rfl (val_row (Box.new w _ _) rfl)) rfl ⟨rfl, (Below.refl _ _).alloc (Nat.le_refl _) _⟩
  | flag b =>
    cases b with
      | true =>
        show Calls Tryz.prog 114 #[.iface 4 (.bool true)] w _
        have ta_flag_int := ta_flag_int (.bool true)
        have ta_flag_text := ta_flag_text (.bool true)
        have ta_flag_word := ta_flag_word (.bool true)
        have ta_flag_flag := ta_flag_flag (.bool true)
        go_enter Tryz.func114, Tryz.ntmps114
        go_wp2
        refine bodyPost_ret (results_cellF Tryz.results114 rfl (val_row (Box.new w _ _) rfl)) rfl ⟨rfl, (Below.refl _ _).alloc (Nat.le_refl _) _⟩
      | false =>
        show Calls Tryz.prog 114 #[.iface 4 (.bool false)] w _
        have ta_flag_int := ta_flag_int (.bool false)
        have ta_flag_text := ta_flag_text (.bool false)
        have ta_flag_word := ta_flag_word (.bool false)
        have ta_flag_flag := ta_flag_flag (.bool false)
        go_enter Tryz.func114, Tryz.ntmps114
        go_wp2
        refine bodyPost_ret (results_cellF Tryz.results114 rfl (val_row (Box.new w _ _) rfl)) rfl ⟨rfl, (Below.refl _ _).alloc (Nat.le_refl _) _⟩
  | none =>
    show Calls Tryz.prog 114 #[.nilIface] w _
    have ta_nil_int := ta_nil_int
    have ta_nil_text := ta_nil_text
    have ta_nil_word := ta_nil_word
    have ta_nil_flag := ta_nil_flag
    go_enter Tryz.func114, Tryz.ntmps114
    go_wp2
    refine bodyPost_ret (results_cellF Tryz.results114 rfl (val_row (Box.new w _ _) rfl)) rfl ⟨rfl, (Below.refl _ _).alloc (Nat.le_refl _) _⟩
/-- Which function reads what a byte begins. -/
def rdFn (c : Int) : Nat := if c = 34 then 113 else if c = 63 then 142 else if (c == 45 || fNum c) = true then 143 else 144
set_option maxHeartbeats 2000000 in
theorem reading_at (c : Int) (h0 : 0 ≤ c) (h1 : c < 256) (w : World) :
    Calls Tryz.prog 130 #[.int .u8 c] w fun e w' => e = .returned (.func (.func (rdFn c)) #[] #[]) ∧ w' = w := by
  have wv : IntKind.i32.wrap c = c := by rw [IntKind.wrap_i32]; omega
  go_enter Tryz.func130, Tryz.ntmps130
  by_cases c34 : c = 34
  · subst c34
    go_wp2
    go_ret
    exact ⟨rfl, rfl⟩
  · have d1 : (c == 34) = false := by simpa using c34
    by_cases c63 : c = 63
    · subst c63
      go_wp2
      go_ret
      exact ⟨rfl, rfl⟩
    · have d2 : (c == 63) = false := by simpa using c63
      have HR : Hid (rdFn c = if (c == 45 || fNum c) = true then 143 else 144) := Lib.hid (by unfold rdFn; rw [if_neg c34, if_neg c63])
      clear c34 c63
      by_cases c45 : c = 45
      · have d3 : (c == 45) = true := by simpa using c45
        have HR2 : Hid (rdFn c = 143) := Lib.hid (by rw [HR.out, if_pos (by rw [d3]; rfl)])
        clear c45
        go_wp2
        go_ret
        exact ⟨by rw [HR2.out]; rfl, rfl⟩
      · have d3 : (c == 45) = false := by simpa using c45
        obtain ⟨b, hb⟩ : ∃ b, fNum c = b := ⟨_, rfl⟩
        have HB := Lib.hid hb
        have HR2 : Hid (rdFn c = if b = true then 143 else 144) := Lib.hid (by rw [HR.out, d3, hb]; rfl)
        clear c45 hb
        go_wp2_with fail
        refine (fdig_at c b HB.out _).mono ?_
        rintro e w1 ⟨rfl, hw⟩
        subst hw
        cases b with
        | true =>
          go_wp2
          go_ret
          exact ⟨by rw [HR2.out]; rfl, rfl⟩
        | false =>
          go_wp2
          go_ret
          exact ⟨by rw [HR2.out]; rfl, rfl⟩
end Go.Proofs.YtodibjpojfipoaaGreatDoor
/- Package field: a key and the value behind it. -/
namespace Go.Proofs.YtodibjpojfipoaaGreatDoor
open Go.RowKit
set_option linter.unusedVariables false
set_option linter.unusedSimpArgs false
set_option maxRecDepth 10000

section
variable {P : Program} {ops : Array Oper} {Q : Exit → Act → World → Prop} {rest : List Oper} {act : Act} {w : World} {o : Oper}
theorem fStoreRow (hgd : o.guard = none) {ty : TypeId} {x y : Operand} (ho : o.op = .store ty x y) {g : Nat} {cells cs : Array Value} {t : TypeId} (hx : act.eval x = .pointer (some ⟨g, 0, none⟩)) (hy : act.eval y = .agg cells)
    (hb : Box w g cs t) (hn : cs.size = cells.size) (hi : cellsFor P ty = some cells.size) (h1 : cells.all (·.oneCell') = true)
    (h : wpList P ops Q rest (act.put o.dst undef) (w.setRow g cells)) : wpList P ops Q (o :: rest) act w := by
  refine wpList_plain hgd fun K hK => ?_
  have hs := storeAt_row (P := P) (w := w) (g := g) (ty := ty) (cells := cells) (hn ▸ hb.room) hi h1
  unfold Oper.wp execOp
  simp only [ho, hx, hy, Sem.run_bind, Sem.run_pure, hs, Result.andThen_ok]
  exact hK _ _ h
theorem fLoadv (hgd : o.guard = none) {ty : TypeId} {x : Operand} (ho : o.op = .load ty x) {p : Addr} {v : Value} (hx : act.eval x = .pointer (some p)) (hl : (loadVar ty p).run P w = .ok v w)
    (h : wpList P ops Q rest (act.put o.dst v) w) : wpList P ops Q (o :: rest) act w := by
  refine wpList_plain hgd fun K hK => ?_
  unfold Oper.wp execOp
  simp only [ho, hx, Instr.loadAt, Instr.sureAddr, Sem.run_bind, Sem.run_pure, Result.andThen_ok, hl]
  exact hK _ _ h
end
theorem par_row {w : World} {g : Nat} {cs : Array Value} (h : Box w g cs 110) (hs : cs.size = 4) : (loadVar 110 ⟨g, 0, none⟩).run Tryz.prog w = .ok (.agg cs) w :=
  run_loadVar_row w g 110 110 cs (0, 0) _ h Tryz.underlying110 rfl (by rw [hs]; kernel_rfl)
theorem box_turned {w w' : World} {b g : Nat} {cs : Array Value} {t : TypeId} (h : Box w g cs t) (hg : w.grownBy w' (some b)) (hne : g ≠ b) : Box w' g cs t := (hg.block g h.lt (fun e => by injection e with e; exact hne e)).trans h
theorem ones4 (k : ByteArray) (v : VB) : (#[.string k, .int .i64 v.k, .int .i64 v.n, .string v.s] : Array Value).all (·.oneCell') = true := by
  simp [Value.oneCell']
/-- The reading function that a byte names. -/
theorem eg_rd (c : Int) : ∀ args w, (callFunc (rdFn c) args).run Tryz.prog w = .ok (.enter (rdFn c) args) w := by
  unfold rdFn
  split
  · exact enters_of Tryz.func113 (by kernel_rfl) rfl
  · split
    · exact enters_of Tryz.func142 (by kernel_rfl) rfl
    · split
      · exact enters_of Tryz.func143 (by kernel_rfl) rfl
      · exact enters_of Tryz.func144 (by kernel_rfl) rfl
theorem rd_any (b : Nat) (s : ByteArray) (hs : s.size ≤ 1000000) (v : Int) (hv : hdI (btL s) = v) (w : World) (hb : Box w b #[.string s] 99) :
    Calls Tryz.prog (rdFn v) #[.pointer (some ⟨b, 0, none⟩)] w (AnyP b s (valF (btL s)) w) := by
  unfold rdFn
  split
  · rename_i h
    subst h
    obtain ⟨t, ht⟩ : ∃ t, btL s = 34 :: t := by
      cases hl : btL s with
      | nil => rw [hl] at hv; cases hv
      | cons c r => rw [hl] at hv; exact ⟨r, by rw [show c = 34 from hv]⟩
    have := ftext_at b s t ht hs w hb
    rw [ht]
    exact this
  · rename_i h34
    split
    · rename_i h
      subst h
      obtain ⟨t, ht⟩ : ∃ t, btL s = 63 :: t := by
        cases hl : btL s with
        | nil => rw [hl] at hv; cases hv
        | cons c r => rw [hl] at hv; exact ⟨r, by rw [show c = 63 from hv]⟩
      have := fflag_at b s w hb
      rw [ht] at this ⊢
      exact this
    · rename_i h63
      split
      · rename_i hn
        have e : valF (btL s) = (numF (btL s)).map fun p => (⟨1, p.1, []⟩, p.2) := by
          cases hl : btL s with
          | nil =>
            rw [hl] at hv
            subst hv
            exact absurd hn (by decide)
          | cons c r =>
            rw [hl] at hv
            have hc : c = v := hv
            subst hc
            unfold valF
            split
            · rename_i heq; injection heq with h _; exact absurd h h34
            · rename_i heq; injection heq with h _; exact absurd h h63
            · dsimp only
              rw [if_pos hn]
        rw [e]
        exact fnumber_at b s (by omega) w hb
      · rename_i hn
        have e : valF (btL s) = (wordF (btL s)).map fun p => (⟨3, 0, p.1⟩, p.2) := by
          cases hl : btL s with
          | nil => rfl
          | cons c r =>
            rw [hl] at hv
            have hc : c = v := hv
            subst hc
            unfold valF
            split
            · rename_i heq; injection heq with h _; exact absurd h h34
            · rename_i heq; injection heq with h _; exact absurd h h63
            · dsimp only
              rw [if_neg hn]
        rw [e]
        exact fword_at b s (by omega) w hb
def PairP (b : Nat) (s : ByteArray) (w : World) (e : Ending) (w' : World) : Prop :=
  ∃ (k : ByteArray) (v : VB) (q : ByteArray) (ok : Bool), RdF b w w' s q ∧ e = .returned (.tuple #[.agg #[.string k, .int .i64 v.k, .int .i64 v.n, .string v.s], .bool ok]) ∧ pairF (btL s) = if ok then some ((btL k, v.f), btL q) else none
theorem pair_none {l : List Int} (h : keyF l = none) : pairF l = none := by unfold pairF; rw [h]
theorem pair_flag {l k r : List Int} (h : keyF l = some (k, r)) (hc : cutS [61] r = none) : pairF l = some ((k, flagV 1), r) := by
  unfold pairF
  rw [h]
  dsimp only
  split
  · rename_i r'
    rw [cut_one] at hc
    dsimp only at hc
    rw [if_pos rfl] at hc
    cases hc
  · rfl
theorem pair_val {l k r r' : List Int} (h : keyF l = some (k, r)) (hc : cutS [61] r = some r') : pairF l = (valF r').map fun p => ((k, p.1), p.2) := by
  unfold pairF
  rw [h]
  have := cutS_some hc
  dsimp only
  rw [this]
  rfl
set_option maxHeartbeats 8000000 in
theorem pair_at (b : Nat) (s : ByteArray) (hs : s.size ≤ 1000000) (w : World) (hb : Box w b #[.string s] 99) :
    Calls Tryz.prog 115 #[.pointer (some ⟨b, 0, none⟩)] w (PairP b s w) := by
  have HB := Lib.hid hb
  have HSZ := Lib.hid hs
  have hbl := hb.lt
  clear hb hs
  go_enter Tryz.func115, Tryz.ntmps115
  go_upto_region 1 with fail
  refine code_forget (fun W => Hid (Box W w.heap.size #[.string ByteArray.empty, .int .i64 0, .int .i64 0, .string ByteArray.empty] 110) ∧ Hid (Below w.heap.size w W)) ⟨Lib.hid (Box.new w _ _), Lib.hid ((Below.refl w.heap.size w).alloc (Nat.le_refl _) _)⟩ ?_
  obtain ⟨rb, hrb⟩ : ∃ x, w.heap.size = x := ⟨_, rfl⟩
  rintro w1 ⟨BX, B1⟩
  have R1 : Hid (RdF b w w1 s s) := Lib.hid ((RdF.refl HB.out).below B1.out)
  have HRB : Hid (w.heap.size ≤ rb ∧ rb ≠ b) := Lib.hid ⟨by omega, by omega⟩
  rw [hrb] at BX ⊢
  clear hrb B1
  go_wp2_with fail
  refine (key_at b s (by have := HSZ.out; omega) _ R1.out.box).mono ?_
  rintro e w2 ⟨k, q, hR, ⟨hk, hks, rfl⟩ | ⟨hk, rfl⟩⟩
  · have R2 := Lib.hid (R1.out.trans hR)
    have BX2 := Lib.hid (box_turned BX.out hR.only HRB.out.2)
    have HK := Lib.hid hk
    clear hR hk BX R1
    go_wp2_with fail
    refine (fskip_at b q ⟨#[61]⟩ _ R2.out.box).mono ?_
    rintro e w3 ⟨q2, h, rfl, hR, hy, hn⟩
    have R3 := Lib.hid (R2.out.trans hR)
    have BX3 := Lib.hid (box_turned BX2.out hR.only HRB.out.2)
    have HY := Lib.hid hy
    have HN := Lib.hid hn
    clear hR hy hn BX2 R2
    cases h with
    | false =>
      obtain ⟨hn1, hq⟩ := HN.out rfl
      subst hq
      have HF : Hid (pairF (btL s) = some ((btL k, (pkV (.flag true)).f), btL q2)) := Lib.hid (pair_flag HK.out hn1)
      clear hn1 HY HN
      have PK : Hid (∀ W : World, Calls Tryz.prog 114 #[.iface 4 (.bool true)] W fun e w' => e = .returned (.agg #[.int .i64 4, .int .i64 1, .string ByteArray.empty]) ∧ Below W.heap.size W w') := Lib.hid (fun W => packed_at (.flag true) W)
      go_wp2_with fail
      refine (PK.out _).mono ?_
      rintro e w4 ⟨rfl, hb⟩
      have R4 := Lib.hid (R3.out.below hb)
      have BX4 := Lib.hid (BX3.out.later hb)
      clear hb BX3 R3
      go_wp2_with (refine fStoreRow rfl rfl rfl rfl BX4.out rfl (by kernel_rfl) (by simp [Value.oneCell']) ?_)
      refine bodyPost_ret (results_cell_tmpF Tryz.results115 rfl (par_row (BX4.out.setRow _) rfl)) rfl ?_
      exact ⟨k, pkV (.flag true), q2, true, R4.out.aside hbl (below_row (Below.refl _ _) HRB.out.1 _), rfl, HF.out⟩
    | true =>
      obtain ⟨v, hv⟩ : ∃ v, hdI (btL q2) = v := ⟨_, rfl⟩
      have hvb := hdI_u8 q2
      rw [hv] at hvb
      obtain ⟨g, hg⟩ : ∃ g, rdFn v = g := ⟨_, rfl⟩
      have RG := Lib.hid (fun W => reading_at v hvb.1 hvb.2 W)
      have eg := eg_rd v
      have RA := Lib.hid (fun W h => rd_any b q2 (by have := R3.out.size; have := HSZ.out; omega) v hv W h)
      rw [hg] at RG eg RA
      have HV := Lib.hid hv
      have HF := Lib.hid (pair_val HK.out (HY.out rfl))
      clear hv hvb hg HY HN
      go_wp2_with fail
      refine (next_at b q2 v HV.out _ R3.out.box).mono ?_
      rintro e w4 ⟨rfl, hw⟩
      subst w4
      go_wp2_with fail
      refine (RG.out _).mono ?_
      rintro e w4 ⟨rfl, hw⟩
      subst w4
      go_wp2_with fail
      refine (RA.out _ R3.out.box).mono ?_
      rintro e w4 ⟨x, q3, hR, _, hF⟩
      have R4 := Lib.hid (R3.out.trans hR)
      have BX4 := Lib.hid (box_turned BX3.out hR.only HRB.out.2)
      clear hR
      obtain ⟨ok, rfl, HF2⟩ : ∃ ok : Bool, e = .returned (.tuple #[anyV x, .bool ok]) ∧ Hid (pairF (btL s) = if ok then some ((btL k, (pkV x).f), btL q3) else none) := by
        rcases hF with ⟨h, he⟩ | ⟨h, he⟩
        · exact ⟨true, he, Lib.hid (by rw [HF.out, h, pk_f]; rfl)⟩
        · exact ⟨false, he, Lib.hid (by rw [HF.out, h]; rfl)⟩
      obtain ⟨xv, hxv⟩ : ∃ xv, anyV x = xv := ⟨_, rfl⟩
      have PK := Lib.hid (fun W => packed_at x W)
      rw [hxv] at PK ⊢
      clear hF hxv HF BX3 R3
      go_wp2_with fail
      refine (PK.out _).mono ?_
      rintro e w5 ⟨rfl, hb⟩
      have R5 := Lib.hid (R4.out.below hb)
      have BX5 := Lib.hid (BX4.out.later hb)
      clear hb BX4 R4
      go_wp2_with (refine fStoreRow rfl rfl rfl rfl BX5.out rfl (by kernel_rfl) (by simp [Value.oneCell']) ?_)
      refine bodyPost_ret (results_cell_tmpF Tryz.results115 rfl (par_row (BX5.out.setRow _) rfl)) rfl ?_
      exact ⟨k, pkV x, q3, ok, R5.out.aside hbl (below_row (Below.refl _ _) HRB.out.1 _), rfl, HF2.out⟩
  · have R2 := Lib.hid (R1.out.trans hR)
    have BX2 := Lib.hid (box_turned BX.out hR.only HRB.out.2)
    have HF := Lib.hid (pair_none hk)
    clear hR hk BX R1
    go_wp2_with (refine fStoreRow rfl rfl rfl rfl BX2.out rfl (by kernel_rfl) (by simp [Value.oneCell']) ?_)
    refine bodyPost_ret (results_cell_tmpF Tryz.results115 rfl (par_row (BX2.out.setRow _) rfl)) rfl ?_
    exact ⟨ByteArray.empty, ⟨0, 0, ByteArray.empty⟩, q, false, R2.out.aside hbl (below_row (Below.refl _ _) HRB.out.1 _), rfl, HF.out⟩
end Go.Proofs.YtodibjpojfipoaaGreatDoor
/- Package field: items. -/
namespace Go.Proofs.YtodibjpojfipoaaGreatDoor
open Go.RowKit
set_option linter.unusedVariables false
set_option linter.unusedSimpArgs false
set_option maxRecDepth 10000

/-- A key with its value, in memory. -/
structure PB where
  key : ByteArray
  v : VB
def PB.f (p : PB) : FPar := (btL p.key, p.v.f)
def pbL (p : PB) : List Value := [.string p.key, .int .i64 p.v.k, .int .i64 p.v.n, .string p.v.s]
def pbV (ps : List PB) : List Value := ps.flatMap pbL
theorem rowPar : RowTy Tryz.prog 71 110 4 48 := ⟨Tryz.underlying71, ⟨.agg #[.string ⟨#[]⟩, .int .i64 0, .int .i64 0, .string ⟨#[]⟩], by kernel_rfl, rfl⟩, by decide⟩
theorem ta_txt (s : ByteArray) (w : World) : (Instr.typeAssert (.iface 129 (.string s)) 20 129 false).run Tryz.prog w = .ok (.string s) w := by kernel_rfl
theorem ite_row {w : World} {g : Nat} {cs : Array Value} (h : Box w g cs 73) (hs : cs.size = 5) : (loadVar 73 ⟨g, 0, none⟩).run Tryz.prog w = .ok (.agg cs) w :=
  run_loadVar_row w g 73 73 cs (0, 0) _ h Tryz.underlying73 rfl (by rw [hs]; kernel_rfl)
theorem Own.turnedF {w w' : World} {B b size n cap : Nat} {E : TypeId} {a : Option Addr} {xs : List Value} (h' : Own w B E size a n cap xs) (hg : w.grownBy w' (some b)) (hb : b < B) : Own w' B E size a n cap xs := by
  refine h'.blocks (fun g e => ?_)
  rcases h'.2 with h2 | ⟨g2, cc, cur, e2, hB, hg2, hrr⟩
  · rw [e] at h2; simp at h2
  · have e3 : g = g2 := by rw [e] at e2; simp at e2; exact e2.1
    subst e3
    exact hg.block g (Array.getElem?_eq_some_iff.1 hg2).1 (fun e4 => by injection e4; omega)
def ItmP (b : Nat) (s : ByteArray) (w : World) (e : Ending) (w' : World) : Prop :=
  ∃ (q : ByteArray) (ok : Bool) (k : PB) (ps : List PB) (n : Nat) (a : Option Addr) (cap : Nat), RdF b w w' s q ∧
    e = .returned (.tuple #[.agg #[.string k.key, .int .i64 k.v.k, .int .i64 k.v.n, .string k.v.s, .slice a n cap], .bool ok]) ∧
    itemF (btL s) = (if ok then some (⟨btL k.key, k.v.f, ps.map PB.f⟩, btL q) else none) ∧ (ok = true → q.size < s.size ∧ ps.length = n ∧ Own w' w.heap.size 110 4 a n cap (pbV ps))
/-- What the item's box holds while it is read. -/
structure ItM (b : Nat) (s : ByteArray) (w wr : World) (rb xb : Nat) (k : PB) (ps : List PB) (n : Nat) (a : Option Addr) (cap : Nat) (q : ByteArray) : Prop where
  rd : RdF b w wr s q
  res : Box wr rb #[.string ByteArray.empty, .int .i64 0, .int .i64 0, .string ByteArray.empty, .slice none 0 0] 73
  box : Box wr xb #[.string k.key, .int .i64 k.v.k, .int .i64 k.v.n, .string k.v.s, .slice a n cap] 73
  own : Own wr (xb + 1) 110 4 a n cap (pbV ps)
  len : ps.length = n
theorem parsF_end (f : Nat) (l : List Int) (h : cutS [59] l = none) : parsF (f + 1) l = some ([], l) := by
  unfold parsF
  split
  · contradiction
  · rename_i f' r
    rw [cut_one] at h
    dsimp only at h
    rw [if_pos rfl] at h
    cases h
  · rfl
theorem parsF_step (f : Nat) (l r : List Int) (h : cutS [59] l = some r) : parsF (f + 1) l = match pairF (r.dropWhile sp1) with
    | none => none
    | some (p, r') => (parsF f r').map fun q => (p :: q.1, q.2) := by
  have := cutS_some h
  rw [this]
  rfl
/-- Enough rounds are enough. -/
theorem keyF_len {l k r : List Int} (h : keyF l = some (k, r)) : r.length < l.length := by
  cases l with
  | nil => cases h
  | cons c t =>
    unfold keyF at h
    dsimp only at h
    split at h
    · rename_i hc
      injection h with h
      injection h with h1 h2
      have hk : keyC c = true := by
        unfold keyC
        rw [Bool.or_eq_true] at hc
        rcases hc with h | h
        · rw [h]; rfl
        · have : c = 42 := by simpa using h
          rw [this]; decide
      rw [← h2, List.dropWhile_cons, if_pos hk]
      have := dw_len keyC t
      simp
      omega
    · cases h
theorem digF_len {neg : Bool} {l r : List Int} {v : Int} (h : digF neg l = some (v, r)) : r.length ≤ l.length := by
  unfold digF at h
  split at h
  · cases h
  · injection h with h
    injection h with h1 h2
    rw [← h2]
    exact dw_len _ _
theorem ite_orF {p : Prop} [Decidable p] {α : Type} {a b c : α} (h : (if p then a else b) = c) : a = c ∨ b = c := by
  by_cases hp : p
  · rw [if_pos hp] at h; exact Or.inl h
  · rw [if_neg hp] at h; exact Or.inr h
theorem valF_len {l r : List Int} {v : FVal} (h : valF l = some (v, r)) : r.length ≤ l.length := by
  unfold valF at h
  split at h
  · rename_i t
    cases hg : textG t with
    | none => rw [hg] at h; cases h
    | some p =>
      rw [hg, Option.map_some] at h
      injection h with h
      injection h with h1 h2
      have := textG_len _ t p.1 p.2 (Nat.le_refl _) hg
      rw [← h2]
      simp
      omega
  · rename_i t
    cases hg : flagF (63 :: t) with
    | none => rw [hg] at h; cases h
    | some p =>
      rw [hg, Option.map_some] at h
      injection h with h
      injection h with h1 h2
      rw [← h2]
      unfold flagF at hg
      split at hg
      · rename_i heq
        injection hg with hg
        rw [← hg, heq]
        simp
        omega
      · rename_i heq
        injection hg with hg
        rw [← hg, heq]
        simp
        omega
      · cases hg
  · rcases ite_orF h with h | h
    · cases hg : numF l with
      | none => rw [hg] at h; cases h
      | some p =>
        rw [hg, Option.map_some] at h
        injection h with h
        injection h with h1 h2
        rw [← h2]
        unfold numF at hg
        split at hg
        · have := digF_len (v := p.1) (r := p.2) hg
          simp
          omega
        · exact digF_len (v := p.1) (r := p.2) hg
    · cases hg : wordF l with
      | none => rw [hg] at h; cases h
      | some p =>
        rw [hg, Option.map_some] at h
        injection h with h
        injection h with h1 h2
        rw [← h2]
        unfold wordF at hg
        split at hg
        · cases hg
        · split at hg
          · injection hg with hg
            rw [← hg]
            exact dw_len _ _
          · cases hg
theorem pairF_len {l r : List Int} {p : FPar} (h : pairF l = some (p, r)) : r.length < l.length := by
  unfold pairF at h
  cases hk : keyF l with
  | none => rw [hk] at h; cases h
  | some kr =>
    obtain ⟨k, t⟩ := kr
    rw [hk] at h
    have hl := keyF_len hk
    dsimp only at h
    split at h
    · rename_i r'
      cases hg : valF r' with
      | none => rw [hg] at h; cases h
      | some q =>
        rw [hg, Option.map_some] at h
        injection h with h
        injection h with h1 h2
        have := valF_len (v := q.1) (r := q.2) hg
        rw [← h2]
        simp at hl
        omega
    · injection h with h
      injection h with h1 h2
      rw [← h2]
      exact hl
theorem parsF_more : ∀ (f g : Nat) (l : List Int), l.length < f → f ≤ g → parsF g l = parsF f l := by
  intro f
  induction f with
  | zero => intro g l h; omega
  | succ f ih =>
    intro g l h hg
    obtain ⟨g', rfl⟩ : ∃ g', g = g' + 1 := ⟨g - 1, by omega⟩
    cases hc : cutS [59] l with
    | none => rw [parsF_end _ _ hc, parsF_end _ _ hc]
    | some r =>
      rw [parsF_step _ _ _ hc, parsF_step _ _ _ hc]
      cases hp : pairF (r.dropWhile sp1) with
      | none => rfl
      | some pr =>
        obtain ⟨p, r'⟩ := pr
        dsimp only
        have h1 := pairF_len hp
        have h2 := dw_len sp1 r
        have h3 := congrArg List.length (cutS_some hc)
        simp at h3
        rw [ih g' r' (by omega) (by omega)]
theorem itemF_of {l r : List Int} {kv : FPar} (h : headF l = some (kv, r)) (f : Nat) (hf : r.length < f) : itemF l = (parsF f r).map fun q => (⟨kv.1, kv.2, q.1⟩, q.2) := by
  unfold itemF
  rw [h]
  dsimp only
  rw [parsF_more (r.length + 1) f r (by omega) (by omega)]
theorem itemF_none {l : List Int} (h : headF l = none) : itemF l = none := by unfold itemF; rw [h]
theorem pbV_snoc (ps : List PB) (p : PB) : pbV ps ++ #[.string p.key, .int .i64 p.v.k, .int .i64 p.v.n, .string p.v.s].toList = pbV (ps ++ [p]) := by
  unfold pbV
  rw [List.flatMap_append]
  simp [pbL]
theorem pbone (k : ByteArray) (v : VB) : (#[.string k, .int .i64 v.k, .int .i64 v.n, .string v.s] : Array Value).all (·.oneCell') = true := by
  simp [Value.oneCell']
def PF (l : List Int) : Option (List FPar × List Int) := parsF (l.length + 1) l
theorem PF_end {l : List Int} (h : cutS [59] l = none) : PF l = some ([], l) := parsF_end _ _ h
theorem PF_step {l r : List Int} (h : cutS [59] l = some r) : PF l = match pairF (r.dropWhile sp1) with
    | none => none
    | some (p, r') => (PF r').map fun q => (p :: q.1, q.2) := by
  unfold PF
  rw [parsF_step _ _ _ h]
  cases hp : pairF (r.dropWhile sp1) with
  | none => rfl
  | some pr =>
    obtain ⟨p, r'⟩ := pr
    dsimp only
    have h1 := pairF_len hp
    have h2 := dw_len sp1 r
    have h3 := congrArg List.length (cutS_some h)
    simp at h3
    rw [parsF_more (r'.length + 1) l.length r' (by omega) (by omega)]
theorem itemF_pf {l r : List Int} {kv : FPar} (h : headF l = some (kv, r)) : itemF l = (PF r).map fun q => (⟨kv.1, kv.2, q.1⟩, q.2) := by
  unfold itemF
  rw [h]
  rfl
theorem own_setRowF {w : World} {B n c size b : Nat} {E : TypeId} {a : Option Addr} {xs : List Value} {cs : Array Value} (h : Own w B E size a n c xs) (hb : b < B) : Own (w.setRow b cs) B E size a n c xs := by
  refine h.blocks (fun g e => ?_)
  rcases h.2 with h2 | ⟨g2, cc, cur, e2, hB, hg2, hrr⟩
  · rw [e] at h2; simp at h2
  · have e3 : g = g2 := by rw [e] at e2; simp at e2; exact e2.1
    subst e3
    exact setRow_other w b g cs (by omega)
theorem ItM.turn {b : Nat} {s q q2 : ByteArray} {w w1 w2 : World} {rb xb n cap : Nat} {k : PB} {ps : List PB} {a : Option Addr} (h : ItM b s w w1 rb xb k ps n a cap q) (hR : RdF b w1 w2 q q2) (h1 : rb ≠ b) (h2 : xb ≠ b) (h3 : b < xb + 1) : ItM b s w w2 rb xb k ps n a cap q2 :=
  ⟨h.rd.trans hR, box_turned h.res hR.only h1, box_turned h.box hR.only h2, h.own.turnedF hR.only h3, h.len⟩
theorem ItM.later {b : Nat} {s q : ByteArray} {w w1 w2 : World} {rb xb n cap : Nat} {k : PB} {ps : List PB} {a : Option Addr} (h : ItM b s w w1 rb xb k ps n a cap q) (hb : Below w1.heap.size w1 w2) : ItM b s w w2 rb xb k ps n a cap q :=
  ⟨h.rd.below hb, h.res.later hb, h.box.later hb, h.own.later hb, h.len⟩
/-- The item's key and value are stored. -/
theorem ItM.named {b : Nat} {s q : ByteArray} {w w1 : World} {rb xb n cap : Nat} {k : PB} {ps : List PB} {a : Option Addr} (h : ItM b s w w1 rb xb k ps n a cap q) (hbl : b < w.heap.size) (hr : w.heap.size = rb) (hx : rb + 1 = xb) (z t : ByteArray) (kd m : Int) :
    ItM b s w ((((w1.setCell ⟨xb, 0, none⟩ (.string z)).setCell ⟨xb, 1, none⟩ (.int .i64 kd)).setCell ⟨xb, 2, none⟩ (.int .i64 m)).setCell ⟨xb, 3, none⟩ (.string t)) rb xb ⟨z, ⟨kd, m, t⟩⟩ ps n a cap q := by
  have key : ∀ {W : World} {cs : Array Value} (o : Nat) (u : Value), RdF b w W s q → Box W rb #[.string ByteArray.empty, .int .i64 0, .int .i64 0, .string ByteArray.empty, .slice none 0 0] 73 → Own W (xb + 1) 110 4 a n cap (pbV ps) →
      RdF b w (W.setCell ⟨xb, o, none⟩ u) s q ∧ Box (W.setCell ⟨xb, o, none⟩ u) rb #[.string ByteArray.empty, .int .i64 0, .int .i64 0, .string ByteArray.empty, .slice none 0 0] 73 ∧ Own (W.setCell ⟨xb, o, none⟩ u) (xb + 1) 110 4 a n cap (pbV ps) := fun o u h1 h2 h3 => by
    refine ⟨h1.aside hbl ((Below.refl _ _).setCell (p := ⟨xb, o, none⟩) (show w.heap.size ≤ xb by omega) u), h2.other (a := ⟨xb, o, none⟩) (by simp; omega) u, ?_⟩
    refine h3.blocks (fun g e => ?_)
    rcases h3.2 with h2 | ⟨g2, cc, cur, e2, hB, hg2, hrr⟩
    · rw [e] at h2; simp at h2
    · have e3 : g = g2 := by rw [e] at e2; simp at e2; exact e2.1
      subst e3
      exact Below.heap_setCell _ _ u g (by simp; omega)
  obtain ⟨a1, a2, a3⟩ := key (cs := #[]) 0 (.string z) h.rd h.res h.own
  obtain ⟨b1, b2, b3⟩ := key (cs := #[]) 1 (.int .i64 kd) a1 a2 a3
  obtain ⟨c1, c2, c3⟩ := key (cs := #[]) 2 (.int .i64 m) b1 b2 b3
  obtain ⟨d1, d2, d3⟩ := key (cs := #[]) 3 (.string t) c1 c2 c3
  refine ⟨d1, d2, ?_, d3, h.len⟩
  have := (((h.box.set 0 (.string z)).set 1 (.int .i64 kd)).set 2 (.int .i64 m)).set 3 (.string t)
  simpa using this
theorem head_some {l : List Int} {t : List Int} (h : l = 34 :: t) : headF l = (textG t).map fun p => ((p.1, flagV 1), p.2) := by rw [h]; rfl
theorem head_pair {l : List Int} {v : Int} (hv : hdI l = v) (h : v ≠ 34) : headF l = pairF l := by
  unfold headF
  split
  · rename_i r
    exact absurd hv.symm h
  · rfl
theorem pk_text {x : AnyV} {p : List Int} (h : (⟨2, 0, p⟩ : FVal) = pkF x) : ∃ z, x = .text z ∧ p = btL z := by
  cases x with
  | text z => unfold pkF at h; injection h with _ _ h; exact ⟨z, rfl, h⟩
  | int n => unfold pkF at h; injection h with h; cases h
  | word n => unfold pkF at h; injection h with h; cases h
  | flag n => unfold pkF at h; injection h with h; cases h
  | none => unfold pkF at h; injection h with h; cases h
theorem below_less {B B' : Nat} {w w' : World} (h : Below B w w') (hB : B' ≤ B) : Below B' w w' := ⟨h.os, h.tape, h.output, h.size, fun k hk => h.block k (by omega)⟩
theorem ItM.grown {b : Nat} {s q : ByteArray} {w w1 w9 : World} {rb xb n cap g cap9 : Nat} {k p : PB} {ps : List PB} {a : Option Addr} (h : ItM b s w w1 rb xb k ps n a cap q) (hbl : b < w.heap.size) (hr : w.heap.size = rb) (hx : rb + 1 = xb)
    (ho : Own w9 (xb + 1) 110 4 (some ⟨g, 0, none⟩) (n + 1) cap9 (pbV (ps ++ [p]))) (hb : Below (xb + 1) w1 w9) :
    ItM b s w (w9.setCell ⟨xb, 4, none⟩ (.slice (some ⟨g, 0, none⟩) (n + 1) cap9)) rb xb k (ps ++ [p]) (n + 1) (some ⟨g, 0, none⟩) cap9 q := by
  have hb1 : Below w.heap.size w1 w9 := (below_less hb (by omega))
  have rd9 := h.rd.aside hbl hb1
  have res9 : Box w9 rb #[.string ByteArray.empty, .int .i64 0, .int .i64 0, .string ByteArray.empty, .slice none 0 0] 73 := (hb.block rb (by omega)).trans h.res
  have box9 : Box w9 xb _ 73 := (hb.block xb (by omega)).trans h.box
  refine ⟨rd9.aside hbl ((Below.refl _ _).setCell (p := ⟨xb, 4, none⟩) (show w.heap.size ≤ xb by omega) _), res9.other (a := ⟨xb, 4, none⟩) (by simp; omega) _, by simpa using box9.set 4 (.slice (some ⟨g, 0, none⟩) (n + 1) cap9), ?_, by rw [List.length_append, h.len]; rfl⟩
  refine ho.blocks (fun g' e => ?_)
  have hlt := ho.lt
  have e2 : g = g' := by simpa using e
  subst e2
  exact Below.heap_setCell _ _ _ _ (by simp; omega)
set_option maxHeartbeats 8000000 in
theorem item_at (b : Nat) (s : ByteArray) (hs : s.size ≤ 1000000) (w : World) (hb : Box w b #[.string s] 99) :
    Calls Tryz.prog 91 #[.pointer (some ⟨b, 0, none⟩)] w (ItmP b s w) := by
  have HB := Lib.hid hb
  have HSZ := Lib.hid hs
  have hbl := hb.lt
  clear hb hs
  go_enter Tryz.func91, Tryz.ntmps91
  go_upto_region 2 with fail
  refine code_forget (fun W => Hid (ItM b s w W w.heap.size (w.heap.size + 1) ⟨ByteArray.empty, ⟨0, 0, ByteArray.empty⟩⟩ [] 0 none 0 s)) (Lib.hid ⟨?_, ?_, ?_, Own.nil _ _ _ _, rfl⟩) ?_
  · exact (RdF.refl HB.out).below (((Below.refl _ _).alloc (Nat.le_refl _) _).alloc (by simp) _)
  · exact (Box.new w _ _).alloc _
  · have h := Box.new (w.alloc (.cells #[.string ByteArray.empty, .int .i64 0, .int .i64 0, .string ByteArray.empty, .slice none 0 0] 73)) #[.string ByteArray.empty, .int .i64 0, .int .i64 0, .string ByteArray.empty, .slice none 0 0] 73
    rw [World.size_alloc] at h
    exact h
  obtain ⟨rb, hrb⟩ : ∃ x, w.heap.size = x := ⟨_, rfl⟩
  obtain ⟨xb, hxb⟩ : ∃ x, rb + 1 = x := ⟨_, rfl⟩
  have HRB : Hid (w.heap.size = rb ∧ rb + 1 = xb) := Lib.hid ⟨hrb, hxb⟩
  have HNE : Hid (rb ≠ b ∧ xb ≠ b ∧ b < xb + 1) := Lib.hid ⟨by omega, by omega, by omega⟩
  rintro w1 HM
  rw [hrb, hxb] at HM ⊢
  clear hrb hxb
  obtain ⟨v, hv⟩ : ∃ v, hdI (btL s) = v := ⟨_, rfl⟩
  have HV := Lib.hid hv
  clear hv
  go_wp2_with fail
  refine (next_at b s v HV.out _ HM.out.rd.box).mono ?_
  rintro e w2 ⟨rfl, hw⟩
  subst w2
  go_upto_if 13 with fail
  go_cut [3] (fun v3 wx => v3 = .bool false ∧ ∃ (k : PB) (q : ByteArray), Hid (ItM b s w wx rb xb k [] 0 none 0 q) ∧ Hid (headF (btL s) = some (k.f, btL q)) ∧ Hid (q.size < s.size))
  case first =>
    by_cases c34 : v = 34
    · have d1 : (v == 34) = true := by rw [c34]; rfl
      obtain ⟨t, ht⟩ : ∃ t, btL s = 34 :: t := by
        cases hl : btL s with
        | nil =>
          have := HV.out
          rw [hl, c34] at this
          cases this
        | cons c r =>
          have := HV.out
          rw [hl] at this
          exact ⟨r, by rw [show c = 34 from (show c = v from this).trans c34]⟩
      have HHF := Lib.hid (head_some ht)
      have TX := Lib.hid (ftext_at b s t ht HSZ.out _ HM.out.rd.box)
      have HTL := Lib.hid ht
      clear c34 ht
      go_wp2_with fail
      refine TX.out.mono ?_
      rintro e w3 ⟨x, q, hR, _, hF⟩
      have HM3 := Lib.hid (HM.out.turn hR HNE.out.1 HNE.out.2.1 HNE.out.2.2)
      clear hR TX
      rcases hF with ⟨h, he⟩ | ⟨h, he⟩
      · obtain ⟨p, hp⟩ : ∃ p, textG t = some p := by
          cases hg : textG t with
          | none => rw [hg] at h; cases h
          | some p => exact ⟨p, rfl⟩
        rw [hp, Option.map_some] at h
        injection h with h
        injection h with h1 h2
        obtain ⟨z, rfl, hz⟩ := pk_text h1
        have he2 : e = .returned (.tuple #[.iface 129 (.string z), .bool true]) := he
        subst he2
        have HH : Hid (headF (btL s) = some ((⟨z, pkV (.flag true)⟩ : PB).f, btL q)) := Lib.hid (by rw [HHF.out, hp, Option.map_some, h2, hz]; rfl)
        have HQ : Hid (q.size < s.size) := Lib.hid (by
          have h8 := textG_len _ t p.1 p.2 (Nat.le_refl _) hp
          have h9 := congrArg List.length HTL.out
          rw [btL_length, List.length_cons] at h9
          rw [h2, btL_length] at h8
          omega)
        have TA := ta_txt z
        have PK : Hid (∀ W : World, Calls Tryz.prog 114 #[.iface 4 (.bool true)] W fun e w' => e = .returned (.agg #[.int .i64 4, .int .i64 1, .string ByteArray.empty]) ∧ Below W.heap.size W w') := Lib.hid (fun W => packed_at (.flag true) W)
        clear h1 h2 hz hp he
        have HMd := Lib.hid (HM3.out.later (Below.refl _ _).drew)
        go_upto_region 6 with fail
        go_region_with (go_at_call 114; with_reducible refine (PK.out _).mono ?_; rintro e w4 ⟨rfl, hb⟩; have HM4 := Lib.hid (HMd.out.later hb); clear hb; obtain ⟨lx, px, qx⟩ := HM4.out.box.facts)
        all_goals
          have NX := Lib.hid (HM4.out.named hbl HRB.out.1 HRB.out.2 z ByteArray.empty 4 1)
          go_wp2_with fail
          go_meet
          exact ⟨rfl, ⟨z, pkV (.flag true)⟩, q, NX, HH, HQ⟩
      · have HF : Hid (itemF (btL s) = none) := Lib.hid (itemF_none (by
          rw [HHF.out]
          cases hg : textG t with
          | none => rfl
          | some p => rw [hg] at h; cases h))
        subst he
        obtain ⟨xv, hxv⟩ : ∃ xv, anyV x = xv := ⟨_, rfl⟩
        rw [hxv]
        clear h hxv
        go_upto_region 5 with fail
        refine wp_region_lit ?_
        refine fLoadv rfl rfl rfl (ite_row HM3.out.box rfl) ?_
        refine fStoreRow rfl rfl rfl rfl HM3.out.res rfl (by kernel_rfl) (by simp [Value.oneCell']) ?_
        go_wp2
        refine bodyPost_ret (results_cell_tmpF Tryz.results91 rfl (ite_row (HM3.out.res.setRow _) rfl)) rfl ?_
        exact ⟨q, false, ⟨ByteArray.empty, ⟨0, 0, ByteArray.empty⟩⟩, [], 0, none, 0, HM3.out.rd.aside hbl (below_row (Below.refl _ _) (by have := HRB.out; omega) _), rfl, HF.out, fun h => by cases h⟩
    · have d1 : (v == 34) = false := by simpa using c34
      have HHF : Hid (headF (btL s) = pairF (btL s)) := Lib.hid (head_pair HV.out c34)
      clear c34
      go_wp2_with fail
      refine (pair_at b s HSZ.out _ HM.out.rd.box).mono ?_
      rintro e w3 ⟨pk, pv, q, ok, hR, rfl, hF⟩
      have HM3 := Lib.hid (HM.out.turn hR HNE.out.1 HNE.out.2.1 HNE.out.2.2)
      have HFP := Lib.hid hF
      clear hR hF
      go_upto_region 8 with fail
      refine code_forget (fun W => Hid (Box W w3.heap.size #[.string pk, .int .i64 pv.k, .int .i64 pv.n, .string pv.s] 110) ∧ Hid (Below w3.heap.size w3 W)) ⟨Lib.hid (Box.new w3 _ _), Lib.hid ((Below.refl w3.heap.size w3).alloc (Nat.le_refl _) _)⟩ ?_
      obtain ⟨pb, hpb⟩ : ∃ x, w3.heap.size = x := ⟨_, rfl⟩
      rintro w4 ⟨BP, hb⟩
      have HM4 := Lib.hid (HM3.out.later hb.out)
      rw [hpb] at BP ⊢
      clear hpb hb HM3
      cases ok with
      | true =>
        have HH : Hid (headF (btL s) = some ((⟨pk, pv⟩ : PB).f, btL q)) := Lib.hid (by rw [HHF.out, HFP.out]; rfl)
        have HQ : Hid (q.size < s.size) := Lib.hid (by
          have := pairF_len (HFP.out.trans (if_pos rfl))
          rw [btL_length, btL_length] at this
          exact this)
        have HMd := Lib.hid (HM4.out.later (Below.refl _ _).drew)
        obtain ⟨lp, pp, qp⟩ := BP.out.facts
        have x0 := HM4.out.box.cell 0
        have x1 := HM4.out.box.cell 1
        have x2 := HM4.out.box.cell 2
        have x3 := HM4.out.box.cell 3
        have z0 := HM4.out.box.free 0
        have z1 := HM4.out.box.free 1
        have z2 := HM4.out.box.free 2
        have z3 := HM4.out.box.free 3
        have NX := Lib.hid (HMd.out.named hbl HRB.out.1 HRB.out.2 pk pv.s pv.k pv.n)
        go_upto_region 10 with fail
        go_region
        all_goals
          go_wp2_with fail
          go_meet
          exact ⟨rfl, ⟨pk, pv⟩, q, NX, HH, HQ⟩
      | false =>
        have HF : Hid (itemF (btL s) = none) := Lib.hid (itemF_none (by rw [HHF.out, HFP.out]; rfl))
        go_upto_region 9 with fail
        refine wp_region_lit ?_
        refine fLoadv rfl rfl rfl (ite_row HM4.out.box rfl) ?_
        refine fStoreRow rfl rfl rfl rfl HM4.out.res rfl (by kernel_rfl) (by simp [Value.oneCell']) ?_
        go_wp2
        refine bodyPost_ret (results_cell_tmpF Tryz.results91 rfl (ite_row (HM4.out.res.setRow _) rfl)) rfl ?_
        exact ⟨q, false, ⟨ByteArray.empty, ⟨0, 0, ByteArray.empty⟩⟩, [], 0, none, 0, HM4.out.rd.aside hbl (below_row (Below.refl _ _) (by have := HRB.out; omega) _), rfl, HF.out, fun h => by cases h⟩
  case rest =>
    obtain ⟨rfl, k, q0, HM0, HH, HQ⟩ := hcut
    have HI := Lib.hid (itemF_pf HH.out)
    clear HM HH
    go_wp2_with fail
    go_loopw [10] (fun _ wr => ∃ (ps : List PB) (n : Nat) (a : Option Addr) (cap : Nat) (q : ByteArray), n ≤ 999999 ∧ Hid (ItM b s w wr rb xb k ps n a cap q) ∧ Hid (PF (btL q0) = (PF (btL q)).map fun z => (ps.map PB.f ++ z.1, z.2)) ∧ Hid (n + q.size < s.size)) (fun _ wr => cellSz wr b)
    case atStart => exact ⟨[], 0, none, 0, q0, by omega, HM0, Lib.hid (by simp), Lib.hid (by have := HQ.out; omega)⟩
    case round =>
      obtain ⟨ps, n, a, cap, q, hn, HMr, HP, HNQ⟩ := hrel
      clear HM0
      have HSC : Hid (cellSz wr b = q.size) := Lib.hid (by unfold cellSz; rw [HMr.out.rd.box.cell 0]; rfl)
      go_wp2_with fail
      refine (fskip_at b q ⟨#[59]⟩ _ HMr.out.rd.box).mono ?_
      rintro e w3 ⟨q1, h, rfl, hR, hy, hno⟩
      have HM3 := Lib.hid (HMr.out.turn hR HNE.out.1 HNE.out.2.1 HNE.out.2.2)
      have HY := Lib.hid hy
      have HNO := Lib.hid hno
      clear hR hy hno
      cases h with
      | false =>
        obtain ⟨hn1, hq⟩ := HNO.out rfl
        subst hq
        have HF : Hid (itemF (btL s) = some (⟨btL k.key, k.v.f, ps.map PB.f⟩, btL q1)) := Lib.hid (by
          rw [HI.out, HP.out, PF_end hn1]
          simp [PB.f])
        clear hn1 HY HNO
        go_upto_region 17 with fail
        refine wp_region_lit ?_
        refine fLoadv rfl rfl rfl (ite_row HM3.out.box rfl) ?_
        refine fStoreRow rfl rfl rfl rfl HM3.out.res rfl (by kernel_rfl) (by simp [Value.oneCell']) ?_
        go_wp2
        refine bodyPost_ret (results_cell_tmpF Tryz.results91 rfl (ite_row (HM3.out.res.setRow _) rfl)) rfl ?_
        exact ⟨q1, true, k, ps, n, a, cap, HM3.out.rd.aside hbl (below_row (Below.refl _ _) (by have := HRB.out; omega) _), rfl, HF.out, fun _ => ⟨by have := HNQ.out; omega, HM3.out.len, (own_setRowF HM3.out.own (by have := HRB.out; omega)).mono (by have := HRB.out; omega)⟩⟩
      | true =>
        have HC := Lib.hid (HY.out rfl)
        have kr : w3.cell? ⟨b, 0, none⟩ = some (.string q1) := by rw [HM3.out.rd.box.cell 0]; rfl
        have c0 := HM3.out.rd.box.free 0
        have lr := HM3.out.rd.box.lt
        clear HY HNO
        go_wp2_with fail
        refine (tleft1_at q1 _).mono ?_
        rintro e w4 ⟨q2, rfl, hq2, hs2, hw⟩
        subst w4
        have HQ2 := Lib.hid hq2
        have NX0 : Hid (ItM b s w (w3.setCell ⟨b, 0, none⟩ (.string q2)) rb xb k ps n a cap q2) := Lib.hid (HM3.out.turn ⟨by simpa using HM3.out.rd.box.set 0 (.string q2), d_setCell (World.grownBy.refl w3 _) (Or.inl rfl) _, hs2⟩ HNE.out.1 HNE.out.2.1 HNE.out.2.2)
        have HS2 := Lib.hid hs2
        clear hq2 hs2
        go_upto_region 13 with fail
        refine code_forget (fun W => Hid (ItM b s w W rb xb k ps n a cap q2)) NX0 ?_
        rintro w4 HM4
        clear kr c0 lr NX0 HM3
        have hs22 : q2.size ≤ 1000000 := by
          have h1 := HM4.out.rd.size
          have h2 := HSZ.out
          omega
        have HS22 := Lib.hid hs22
        clear hs22
        go_wp2_with fail
        refine (pair_at b q2 HS22.out _ HM4.out.rd.box).mono ?_
        rintro e w5 ⟨pk, pv, q3, ok, hR, rfl, hF⟩
        have HM5 := Lib.hid (HM4.out.turn hR HNE.out.1 HNE.out.2.1 HNE.out.2.2)
        have HFP := Lib.hid hF
        clear hR hF HM4
        go_upto_region 14 with fail
        refine code_forget (fun W => Hid (Box W w5.heap.size #[.string pk, .int .i64 pv.k, .int .i64 pv.n, .string pv.s] 110) ∧ Hid (Below w5.heap.size w5 W)) ⟨Lib.hid (Box.new w5 _ _), Lib.hid ((Below.refl w5.heap.size w5).alloc (Nat.le_refl _) _)⟩ ?_
        obtain ⟨pb, hpb⟩ : ∃ x, w5.heap.size = x := ⟨_, rfl⟩
        rintro w6 ⟨BP, hb⟩
        have HM6 := Lib.hid (HM5.out.later hb.out)
        rw [hpb] at BP ⊢
        clear hpb hb HM5
        cases ok with
        | false =>
          have HF : Hid (itemF (btL s) = none) := Lib.hid (by
            rw [HI.out, HP.out, PF_step HC.out, ← HQ2.out, HFP.out]
            rfl)
          go_upto_region 15 with fail
          refine wp_region_lit ?_
          refine fLoadv rfl rfl rfl (ite_row HM6.out.box rfl) ?_
          refine fStoreRow rfl rfl rfl rfl HM6.out.res rfl (by kernel_rfl) (by simp [Value.oneCell']) ?_
          go_wp2
          refine bodyPost_ret (results_cell_tmpF Tryz.results91 rfl (ite_row (HM6.out.res.setRow _) rfl)) rfl ?_
          exact ⟨q3, false, k, ps, n, a, cap, HM6.out.rd.aside hbl (below_row (Below.refl _ _) (by have := HRB.out; omega) _), rfl, HF.out, fun h => by cases h⟩
        | true =>
          have HP2 : Hid (PF (btL q0) = (PF (btL q3)).map fun z => ((ps ++ [(⟨pk, pv⟩ : PB)]).map PB.f ++ z.1, z.2)) := Lib.hid (by
            rw [HP.out, PF_step HC.out, ← HQ2.out, HFP.out]
            simp only [if_pos, Option.map_map]
            congr 1
            funext z
            simp [PB.f])
          have HL3 : Hid (q3.size < q.size) := Lib.hid (by
            have h1 := pairF_len (HFP.out.trans (if_pos rfl))
            rw [btL_length, btL_length] at h1
            have h2 := HS2.out
            have h3 := congrArg List.length (cutS_some HC.out)
            rw [btL_length, List.length_append, btL_length] at h3
            simp at h3
            omega)
          have HNQ2 : Hid (n + 1 + q3.size < s.size) := Lib.hid (by have := HNQ.out; have := HL3.out; omega)
          have hn2 : n + 1 ≤ 999999 := by have := HNQ2.out; have := HSZ.out; omega
          obtain ⟨lx, px, qx⟩ := HM6.out.box.facts
          obtain ⟨lp, pp, qp⟩ := BP.out.facts
          go_wp2_with (at_builtin; refine wpList_app1 rowPar rfl _ _ rfl (xb + 1) a n cap (pbV ps) rfl HM6.out.own #[.string pk, .int .i64 pv.k, .int .i64 pv.n, .string pv.s] rfl rfl (pbone pk pv) (by omega) (by decide) (by omega) (n + 1) rfl (pbV (ps ++ [(⟨pk, pv⟩ : PB)])) (pbV_snoc ps (⟨pk, pv⟩ : PB)) ?_; rintro g9 cap9 w9 own9 _ bel9 _; have NX := Lib.hid (HM6.out.grown (p := ⟨pk, pv⟩) hbl HRB.out.1 HRB.out.2 own9 bel9); have BX9 : Box w9 xb _ _ := (bel9.block xb (by omega)).trans HM6.out.box; obtain ⟨ly, py, qy⟩ := BX9.facts; clear BX9 own9 bel9)
          have HS9 : Hid (cellSz (w9.setCell ⟨xb, 4, none⟩ (.slice (some ⟨g9, 0, none⟩) (n + 1) cap9)) b = q3.size) := Lib.hid (by unfold cellSz; rw [NX.out.rd.box.cell 0]; rfl)
          go_roundw
          case rel => exact ⟨ps ++ [(⟨pk, pv⟩ : PB)], n + 1, some ⟨g9, 0, none⟩, cap9, q3, hn2, NX, HP2, HNQ2⟩
          case measure =>
            rw [HS9.out, HSC.out]
            exact HL3.out
end Go.Proofs.YtodibjpojfipoaaGreatDoor
/- Package field: collect, Parse. -/
namespace Go.Proofs.YtodibjpojfipoaaGreatDoor
open Go.RowKit
set_option linter.unusedVariables false
set_option linter.unusedSimpArgs false
set_option maxRecDepth 10000

set_option maxHeartbeats 1000000 in
theorem fcomma_at (b : Nat) (s : ByteArray) (w : World) (hb : Box w b #[.string s] 99) :
    Calls Tryz.prog 92 #[.pointer (some ⟨b, 0, none⟩)] w fun e w' => ∃ (q : ByteArray) (h : Bool), e = .returned (.bool h) ∧ RdF b w w' s q ∧ (h = true → ∃ r, btL s = 44 :: r ∧ btL q = r.dropWhile blI) ∧ (h = false → cutS [44] (btL s) = none) := by
  have HB := Lib.hid hb
  have gl := hb.lt
  clear hb
  go_enter Tryz.func92, Tryz.ntmps92
  go_wp2_with fail
  refine (fskip_at b s ⟨#[44]⟩ _ HB.out).mono ?_
  rintro e w0 ⟨q0, h, rfl, hR, hy, hno⟩
  have HR0 := Lib.hid hR
  have HY := Lib.hid hy
  have HNO := Lib.hid hno
  have k0 : w0.cell? ⟨b, 0, none⟩ = some (.string q0) := by rw [hR.box.cell 0]; rfl
  clear hR hy hno
  go_wp2_with fail
  refine (tleft2_at q0 _).mono ?_
  rintro e w1 ⟨q, rfl, hq, hs, hw⟩
  have R1 : Hid (RdF b w w1 s q0) := Lib.hid (HR0.out.below hw)
  have HQ := Lib.hid hq
  have HS := Lib.hid hs
  clear k0
  have k0 : w1.cell? ⟨b, 0, none⟩ = some (.string q0) := by rw [R1.out.box.cell 0]; rfl
  have c0 := R1.out.box.free 0
  have gl := R1.out.box.lt
  clear hq hs hw HR0
  go_wp2
  go_ret
  refine ⟨q, h, rfl, ⟨R1.out.box.set 0 _, d_setCell R1.out.only (Or.inl rfl) _, Nat.le_trans HS.out R1.out.size⟩, fun hy => ?_, fun hn => (HNO.out hn).1⟩
  exact ⟨btL q0, by have := cutS_some (HY.out hy); rw [this]; rfl, HQ.out⟩
/-! ### The mathematics of a list of items -/
theorem headF_len {l r : List Int} {p : FPar} (h : headF l = some (p, r)) : r.length < l.length := by
  unfold headF at h
  split at h
  · rename_i t
    cases hg : textG t with
    | none => rw [hg] at h; cases h
    | some q =>
      rw [hg, Option.map_some] at h
      injection h with h
      injection h with h1 h2
      have := textG_len _ t q.1 q.2 (Nat.le_refl _) hg
      rw [← h2]
      simp
      omega
  · exact pairF_len h
theorem parsF_len : ∀ (f : Nat) (l : List Int) (ps : List FPar) (r : List Int), parsF f l = some (ps, r) → r.length ≤ l.length := by
  intro f
  induction f with
  | zero => intro l ps r h; cases h
  | succ f ih =>
    intro l ps r h
    cases hc : cutS [59] l with
    | none =>
      rw [parsF_end _ _ hc] at h
      injection h with h
      injection h with h1 h2
      rw [h2]
      exact Nat.le_refl _
    | some t =>
      rw [parsF_step _ _ _ hc] at h
      have h3 := congrArg List.length (cutS_some hc)
      simp at h3
      have h2 := dw_len sp1 t
      cases hp : pairF (t.dropWhile sp1) with
      | none => rw [hp] at h; cases h
      | some pr =>
        obtain ⟨p, r'⟩ := pr
        rw [hp] at h
        dsimp only at h
        have h1 := pairF_len hp
        cases hg : parsF f r' with
        | none => rw [hg] at h; cases h
        | some q =>
          rw [hg, Option.map_some] at h
          injection h with h
          injection h with h4 h5
          have := ih r' q.1 q.2 hg
          rw [← h5]
          omega
theorem itemF_len {l r : List Int} {i : FItem} (h : itemF l = some (i, r)) : r.length < l.length := by
  unfold itemF at h
  cases hh : headF l with
  | none => rw [hh] at h; cases h
  | some p =>
    obtain ⟨kv, t⟩ := p
    rw [hh] at h
    dsimp only at h
    have h1 := headF_len hh
    cases hg : parsF (t.length + 1) t with
    | none => rw [hg] at h; cases h
    | some q =>
      rw [hg, Option.map_some] at h
      injection h with h
      injection h with h4 h5
      have := parsF_len _ t q.1 q.2 hg
      rw [← h5]
      omega
theorem collF_more : ∀ (f g n : Nat) (l : List Int), l.length < f → f ≤ g → collF g n l = collF f n l := by
  intro f
  induction f with
  | zero => intro g n l h; omega
  | succ f ih =>
    intro g n l h hg
    obtain ⟨g', rfl⟩ : ∃ g', g = g' + 1 := ⟨g - 1, by omega⟩
    unfold collF
    cases hi : itemF l with
    | none => rfl
    | some p =>
      obtain ⟨i, r⟩ := p
      dsimp only
      split
      · rfl
      · have h1 := itemF_len hi
        have h2 := dw_len blI r
        split
        · rfl
        · rename_i r' hr
          rw [hr] at h2
          simp at h2
          have h3 := dw_len blI r'
          rw [ih g' (n + 1) _ (by omega) (by omega)]
        · rfl
def CG (n : Nat) (l : List Int) : Option (List FItem) := collF (l.length + 1) n l
theorem CG_none {n : Nat} {l : List Int} (h : itemF l = none) : CG n l = none := by
  unfold CG collF
  rw [h]
theorem CG_full {n : Nat} {l r : List Int} {i : FItem} (h : itemF l = some (i, r)) (hn : n = 16) : CG n l = none := by
  unfold CG collF
  rw [h]
  dsimp only
  rw [if_pos hn]
theorem CG_end {n : Nat} {l r : List Int} {i : FItem} (h : itemF l = some (i, r)) (hn : n ≠ 16) (he : r.dropWhile blI = []) : CG n l = some [i] := by
  unfold CG collF
  rw [h]
  dsimp only
  rw [if_neg hn, he]
theorem CG_stop {n : Nat} {l r : List Int} {i : FItem} (h : itemF l = some (i, r)) (hn : n ≠ 16) (he : r.dropWhile blI ≠ []) (hc : cutS [44] (r.dropWhile blI) = none) : CG n l = none := by
  unfold CG collF
  rw [h]
  dsimp only
  rw [if_neg hn]
  split
  · contradiction
  · rename_i r' hr
    rw [hr, cut_one] at hc
    dsimp only at hc
    rw [if_pos rfl] at hc
    cases hc
  · rfl
theorem CG_next {n : Nat} {l r r' : List Int} {i : FItem} (h : itemF l = some (i, r)) (hn : n ≠ 16) (he : r.dropWhile blI = 44 :: r') : CG n l = (CG (n + 1) (r'.dropWhile blI)).map fun is => i :: is := by
  unfold CG
  conv => lhs; unfold collF
  rw [h]
  dsimp only
  rw [if_neg hn, he]
  show Option.map (fun is => i :: is) (collF l.length (n + 1) (r'.dropWhile blI)) = _
  have h1 := itemF_len h
  have h2 := dw_len blI r
  rw [he] at h2
  simp at h2
  have h3 := dw_len blI r'
  rw [collF_more ((r'.dropWhile blI).length + 1) l.length (n + 1) _ (by omega) (by omega)]
/-! ### Items in memory -/
structure IX where
  k : PB
  ps : List PB
  n : Nat
  a : Option Addr
  cap : Nat
def IX.f (x : IX) : FItem := ⟨btL x.k.key, x.k.v.f, x.ps.map PB.f⟩
def ixL (x : IX) : List Value := [.string x.k.key, .int .i64 x.k.v.k, .int .i64 x.k.v.n, .string x.k.v.s, .slice x.a x.n x.cap]
def ixV (L : List IX) : List Value := L.flatMap ixL
theorem ixV_snoc (L : List IX) (x : IX) : ixV L ++ #[.string x.k.key, .int .i64 x.k.v.k, .int .i64 x.k.v.n, .string x.k.v.s, .slice x.a x.n x.cap].toList = ixV (L ++ [x]) := by
  unfold ixV
  rw [List.flatMap_append]
  simp [ixL]
theorem ixone (x : IX) : (#[.string x.k.key, .int .i64 x.k.v.k, .int .i64 x.k.v.n, .string x.k.v.s, .slice x.a x.n x.cap] : Array Value).all (·.oneCell') = true := by
  simp [Value.oneCell']
theorem rowItm : RowTy Tryz.prog 65 73 5 72 := ⟨Tryz.underlying65, ⟨.agg #[.string ⟨#[]⟩, .int .i64 0, .int .i64 0, .string ⟨#[]⟩, .slice none 0 0], by kernel_rfl, rfl⟩, by decide⟩
structure ItsM (w : World) (B : Nat) (a : Option Addr) (n cap : Nat) (L : List IX) : Prop where
  own : Own w B 73 5 a n cap (ixV L)
  len : L.length = n
  par : ∀ x ∈ L, Own w B 110 4 x.a x.n x.cap (pbV x.ps) ∧ x.ps.length = x.n ∧ ∀ g, x.a = some ⟨g, 0, none⟩ → a ≠ some ⟨g, 0, none⟩
theorem ItsM.nil (w : World) (B : Nat) : ItsM w B none 0 0 [] := ⟨Own.nil _ _ _ _, rfl, fun x hx => by cases hx⟩
theorem ItsM.turned {w w' : World} {B b n cap : Nat} {a : Option Addr} {L : List IX} (h : ItsM w B a n cap L) (hg : w.grownBy w' (some b)) (hb : b < B) : ItsM w' B a n cap L :=
  ⟨h.own.turnedF hg hb, h.len, fun x hx => ⟨(h.par x hx).1.turnedF hg hb, (h.par x hx).2⟩⟩
theorem ItsM.later {w w' : World} {B n cap : Nat} {a : Option Addr} {L : List IX} (h : ItsM w B a n cap L) (hb : Below w.heap.size w w') : ItsM w' B a n cap L :=
  ⟨h.own.later hb, h.len, fun x hx => ⟨(h.par x hx).1.later hb, (h.par x hx).2⟩⟩
theorem own_ltF {w : World} {B g size n cap : Nat} {E : TypeId} {xs : List Value} {a : Option Addr} (h : Own w B E size a n cap xs) (ha : a = some ⟨g, 0, none⟩) : B ≤ g ∧ g < w.heap.size := by
  subst ha
  exact h.lt
theorem own_mapF {w : World} {B : Nat} {E : TypeId} {size n cap : Nat} {a : Option Addr} {xs : List Value} (h : Own w B E size a n cap xs) {k : Nat} (hk : a.map (·.block) = some k) : a = some ⟨k, 0, none⟩ := by
  rcases h.form with ⟨rfl, _⟩ | ⟨g, rfl, _⟩
  · cases hk
  · injection hk with hk
    dsimp only at hk
    rw [hk]
theorem ItsM.add {w w9 : World} {B M n cap g cap9 : Nat} {a : Option Addr} {L : List IX} {x : IX} (h : ItsM w B a n cap L) (hx : Own w M 110 4 x.a x.n x.cap (pbV x.ps)) (hl : x.ps.length = x.n) (hBM : B ≤ M) (ha : ∀ k, a = some ⟨k, 0, none⟩ → k < M)
    (ho : Own w9 B 73 5 (some ⟨g, 0, none⟩) (n + 1) cap9 (ixV (L ++ [x]))) (hg : w.grownBy w9 (a.map (·.block))) (hor : a.map (·.block) = some g ∨ w.heap.size ≤ g) :
    ItsM w9 B (some ⟨g, 0, none⟩) (n + 1) cap9 (L ++ [x]) := by
  refine ⟨ho, by rw [List.length_append, h.len]; rfl, ?_⟩
  have key : ∀ (y : IX) (Y : Nat), Own w Y 110 4 y.a y.n y.cap (pbV y.ps) → (∀ k, y.a = some ⟨k, 0, none⟩ → a ≠ some ⟨k, 0, none⟩) → B ≤ Y → Own w9 B 110 4 y.a y.n y.cap (pbV y.ps) ∧ ∀ k, y.a = some ⟨k, 0, none⟩ → (some ⟨g, 0, none⟩ : Option Addr) ≠ some ⟨k, 0, none⟩ := fun y Y h1 h2 h3 => by
    refine ⟨(h1.mono h3).blocks (fun k e => hg.block k (own_ltF h1 e).2 (fun e2 => h2 k e (own_mapF h.own e2.symm))), fun k e e2 => ?_⟩
    injection e2 with e2
    injection e2 with e2
    subst e2
    rcases hor with h4 | h4
    · exact h2 _ e (own_mapF h.own h4)
    · have := (own_ltF h1 e).2
      omega
  intro y hy
  rw [List.mem_append] at hy
  rcases hy with hy | hy
  · obtain ⟨h1, h2, h3⟩ := h.par y hy
    have := key y B h1 h3 (Nat.le_refl _)
    exact ⟨this.1, h2, this.2⟩
  · have e : y = x := by simpa using hy
    subst e
    have := key y M hx (fun k e e2 => by have h5 := (own_ltF hx e).1; have h6 := ha k e2; omega) hBM
    exact ⟨this.1, hl, this.2⟩
theorem egI1 : ∀ args w, (callFunc 91 args).run Tryz.prog w = .ok (.enter 91 args) w := enters_of Tryz.func91 (by kernel_rfl) rfl
theorem egI2 : ∀ args w, (callFunc 92 args).run Tryz.prog w = .ok (.enter 92 args) w := enters_of Tryz.func92 (by kernel_rfl) rfl
theorem egI3 : ∀ args w, (callFunc 93 args).run Tryz.prog w = .ok (.enter 93 args) w := enters_of Tryz.func93 (by kernel_rfl) rfl
def ColP (b : Nat) (s : ByteArray) (r : Option (List FItem)) (w : World) (e : Ending) (w' : World) : Prop :=
  ∃ (q : ByteArray) (ok : Bool) (L : List IX) (n : Nat) (a : Option Addr) (cap : Nat), RdF b w w' s q ∧ e = .returned (.tuple #[.slice a n cap, .bool ok]) ∧ r = (if ok then some (L.map IX.f) else none) ∧ n ≤ 16 ∧ ItsM w' w.heap.size a n cap L ∧ (ok = false → L = [])
set_option maxHeartbeats 4000000 in
theorem collect_at (b : Nat) (s : ByteArray) (hs : s.size ≤ 1000000) (w : World) (hb : Box w b #[.string s] 99) :
    Calls Tryz.prog 90 #[.func (.func 91) #[.pointer (some ⟨b, 0, none⟩)] #[], .func (.func 92) #[.pointer (some ⟨b, 0, none⟩)] #[], .func (.func 93) #[.pointer (some ⟨b, 0, none⟩)] #[]] w (ColP b s (CG 0 (btL s)) w) := by
  have HB := Lib.hid hb
  have HSZ := Lib.hid hs
  have hbl := hb.lt
  have e1 := egI1
  have e2 := egI2
  have e3 := egI3
  clear hb hs
  go_enter Tryz.func90, Tryz.ntmps90
  go_wp2_with fail
  go_loopw [8] (fun vals wr => ∃ (L : List IX) (n : Nat) (a : Option Addr) (cap : Nat) (q : ByteArray), vals = .slice a n cap ∧ n ≤ 16 ∧ Hid (RdF b w wr s q) ∧ Hid (ItsM wr w.heap.size a n cap L) ∧ Hid (CG 0 (btL s) = (CG n (btL q)).map fun is => L.map IX.f ++ is)) (fun _ wr => cellSz wr b)
  case atStart => exact ⟨[], 0, none, 0, s, rfl, by omega, Lib.hid (RdF.refl HB.out), Lib.hid (ItsM.nil _ _), Lib.hid (by simp)⟩
  case round =>
    obtain ⟨L, n, a, cap, q, rfl, hn, HR, HI, HP⟩ := hrel
    have HSC : Hid (cellSz wr b = q.size) := Lib.hid (by unfold cellSz; rw [HR.out.box.cell 0]; rfl)
    have hq : q.size ≤ 1000000 := by have := HR.out.size; have := HSZ.out; omega
    have IT := Lib.hid (item_at b q hq _ HR.out.box)
    clear hq
    go_wp2_with fail
    refine IT.out.mono ?_
    rintro e w2 ⟨q2, ok, k, ps, m, pa, pc, hR, rfl, hF, hO⟩
    have HR2 := Lib.hid (HR.out.trans hR)
    have HI2 := Lib.hid (HI.out.turned hR.only hbl)
    have HF := Lib.hid hF
    have HO := Lib.hid hO
    have HG := Lib.hid hR.only.size
    have HLA : Hid (∀ k, a = some ⟨k, 0, none⟩ → k < wr.heap.size) := Lib.hid (fun k e => (own_ltF HI.out.own e).2)
    have HBM : Hid (w.heap.size ≤ wr.heap.size) := Lib.hid HR.out.only.size
    clear hR hF hO IT HR
    go_upto_region 3 with fail
    refine code_forget (fun W => Hid (Box W w2.heap.size #[.string k.key, .int .i64 k.v.k, .int .i64 k.v.n, .string k.v.s, .slice pa m pc] 73) ∧ Hid (Below w2.heap.size w2 W)) ⟨Lib.hid (Box.new w2 _ _), Lib.hid ((Below.refl w2.heap.size w2).alloc (Nat.le_refl _) _)⟩ ?_
    obtain ⟨xb, hxb⟩ : ∃ x, w2.heap.size = x := ⟨_, rfl⟩
    have HXB := Lib.hid hxb
    rintro w3 ⟨BX, hb⟩
    have HR3 := Lib.hid (HR2.out.below hb.out)
    have HI3 := Lib.hid (HI2.out.later hb.out)
    have HO3 : Hid (ok = true → q2.size < q.size ∧ ps.length = m ∧ Own w3 wr.heap.size 110 4 pa m pc (pbV ps)) := Lib.hid (fun h => ⟨(HO.out h).1, (HO.out h).2.1, (HO.out h).2.2.later hb.out⟩)
    have HG3 : Hid (w2.heap.size ≤ w3.heap.size) := Lib.hid hb.out.size
    rw [hxb] at BX ⊢
    clear hxb hb HR2 HI2 HO HI
    cases ok with
    | false =>
      have HC : Hid (CG 0 (btL s) = none) := Lib.hid (by rw [HP.out, CG_none HF.out]; rfl)
      clear HP HF
      go_wp2_with fail
      go_ret2
      exact ⟨q2, false, [], 0, none, 0, HR3.out, rfl, HC.out, by omega, ItsM.nil _ _, fun _ => rfl⟩
    | true =>
      have HF2 : Hid (itemF (btL q) = some (IX.f ⟨k, ps, m, pa, pc⟩, btL q2)) := Lib.hid HF.out
      clear HF
      by_cases h16 : n = 16
      · have d1 : ((n : Int) == 16) = true := by rw [h16]; rfl
        have HC : Hid (CG 0 (btL s) = none) := Lib.hid (by rw [HP.out, CG_full HF2.out h16]; rfl)
        clear HP HF2
        go_wp2_with fail
        go_ret2
        exact ⟨q2, false, [], 0, none, 0, HR3.out, rfl, HC.out, by omega, ItsM.nil _ _, fun _ => rfl⟩
      · have d1 : ((n : Int) == 16) = false := by simp; omega
        have hn2 : n + 1 ≤ 16 := by omega
        have H16 := Lib.hid h16
        clear h16
        obtain ⟨lp, pp, qp⟩ := BX.out.facts
        go_wp2_with (at_builtin; refine wpList_app1 rowItm rfl _ _ rfl w.heap.size a n cap (ixV L) rfl HI3.out.own #[.string k.key, .int .i64 k.v.k, .int .i64 k.v.n, .string k.v.s, .slice pa m pc] rfl rfl (ixone ⟨k, ps, m, pa, pc⟩) (by omega) (by decide) (by have := HR3.out.only.size; omega) (n + 1) rfl (ixV (L ++ [(⟨k, ps, m, pa, pc⟩ : IX)])) (ixV_snoc L (⟨k, ps, m, pa, pc⟩ : IX)) ?_; rintro g9 cap9 w9 own9 gr9 bel9 or9)
        have HO4 := HO3.out (by simp)
        have HI9 : Hid (ItsM w9 w.heap.size (some ⟨g9, 0, none⟩) (n + 1) cap9 (L ++ [(⟨k, ps, m, pa, pc⟩ : IX)])) := Lib.hid (HI3.out.add (x := ⟨k, ps, m, pa, pc⟩) HO4.2.2 HO4.2.1 HBM.out HLA.out own9 gr9 (or9.imp id (fun e => by rw [e]; omega)))
        have HR9 : Hid (RdF b w w9 s q2) := Lib.hid (HR3.out.aside hbl bel9)
        have HL2 := Lib.hid HO4.1
        clear own9 gr9 bel9 or9 HO4 HO3 HI3 HR3 lp pp qp BX
        obtain ⟨x, hx⟩ : ∃ x : IX, ⟨k, ps, m, pa, pc⟩ = x := ⟨_, rfl⟩
        rw [hx] at HI9 HF2
        clear hx
        go_wp2_with fail
        refine (ended_at b q2 _ HR9.out.box).mono ?_
        rintro e w10 ⟨q3, rfl, hq3, hR⟩
        have HR10 := Lib.hid (HR9.out.trans hR)
        have HI10 := Lib.hid (HI9.out.turned hR.only hbl)
        have HQ3 := Lib.hid hq3
        have HS3 := Lib.hid hR.size
        clear hq3 hR HR9 HI9
        obtain ⟨en, hen⟩ : ∃ en, decide (q3.size = 0) = en := ⟨_, rfl⟩
        have HEN := Lib.hid hen
        rw [hen]
        clear hen
        cases en with
        | true =>
          have HC : Hid (CG 0 (btL s) = some ((L ++ [x]).map IX.f)) := Lib.hid (by
            have h0 : btL q3 = [] := by
              have := of_decide_eq_true HEN.out
              rw [← List.length_eq_zero_iff, btL_length, this]
            rw [HP.out, CG_end HF2.out H16.out (by rw [← HQ3.out, h0])]
            simp)
          clear HP HF2 HQ3
          go_wp2_with fail
          go_ret2
          exact ⟨q3, true, L ++ [x], n + 1, some ⟨g9, 0, none⟩, cap9, HR10.out, rfl, HC.out, hn2, HI10.out, fun h => by cases h⟩
        | false =>
          have HN0 : Hid ((btL q2).dropWhile blI ≠ []) := Lib.hid (fun h => by
            have := of_decide_eq_false HEN.out
            rw [← HQ3.out, ← List.length_eq_zero_iff, btL_length] at h
            exact this h)
          go_wp2_with fail
          refine (fcomma_at b q3 _ HR10.out.box).mono ?_
          rintro e w11 ⟨q4, h, rfl, hR, hy, hno⟩
          have HR11 := Lib.hid (HR10.out.trans hR)
          have HI11 := Lib.hid (HI10.out.turned hR.only hbl)
          have HS4 := Lib.hid hR.size
          have HY := Lib.hid hy
          have HNO := Lib.hid hno
          clear hR hy hno HR10 HI10
          cases h with
          | false =>
            have HC : Hid (CG 0 (btL s) = none) := Lib.hid (by
              rw [HP.out, CG_stop HF2.out H16.out HN0.out (by rw [← HQ3.out]; exact HNO.out rfl)]
              rfl)
            clear HP HF2 HNO HY
            go_wp2_with fail
            go_ret2
            exact ⟨q4, false, [], 0, none, 0, HR11.out, rfl, HC.out, by omega, ItsM.nil _ _, fun _ => rfl⟩
          | true =>
            have HP2 : Hid (CG 0 (btL s) = (CG (n + 1) (btL q4)).map fun is => (L ++ [x]).map IX.f ++ is) := Lib.hid (by
              obtain ⟨r, h1, h2⟩ := HY.out rfl
              rw [HP.out, CG_next HF2.out H16.out (by rw [← HQ3.out]; exact h1), h2, Option.map_map]
              congr 1
              funext z
              simp)
            clear HP HF2 HY HNO
            have HS11 : Hid (cellSz w11 b = q4.size) := Lib.hid (by unfold cellSz; rw [HR11.out.box.cell 0]; rfl)
            go_wp2_with fail
            go_roundw
            case rel => exact ⟨L ++ [x], n + 1, some ⟨g9, 0, none⟩, cap9, q4, rfl, hn2, HR11, HI11, HP2⟩
            case measure =>
              rw [HS11.out, HSC.out]
              have := HS4.out
              have := HS3.out
              have := HL2.out
              omega
end Go.Proofs.YtodibjpojfipoaaGreatDoor
namespace Go.Proofs.YtodibjpojfipoaaGreatDoor
open Go.RowKit
set_option linter.unusedVariables false
set_option linter.unusedSimpArgs false
set_option maxRecDepth 10000

theorem ItsM.mono {w : World} {B B' n cap : Nat} {a : Option Addr} {L : List IX} (h : ItsM w B a n cap L) (hB : B' ≤ B) : ItsM w B' a n cap L :=
  ⟨h.own.mono hB, h.len, fun x hx => ⟨(h.par x hx).1.mono hB, (h.par x hx).2⟩⟩
theorem below_of_grown {w w1 w2 : World} {b : Nat} (h1 : Below w.heap.size w w1) (h : w1.grownBy w2 (some b)) (hb : w.heap.size ≤ b) : Below w.heap.size w w2 :=
  h1.trans ⟨h.os, h.tape, h.output, h.size, fun i hi => h.block i (by have := h1.size; omega) (fun e => by injection e with e; omega)⟩
theorem parseF_nil {l : List Int} (h : l.dropWhile sp1 = []) : parseF l = some [] := by unfold parseF; rw [h]
theorem parseF_cg {l : List Int} (h : l.dropWhile sp1 ≠ []) : parseF l = CG 0 (l.dropWhile sp1) := by
  unfold parseF CG
  split
  · contradiction
  · rfl
def FParP (r : Option (List FItem)) (w : World) (e : Ending) (w' : World) : Prop :=
  ∃ (ok : Bool) (L : List IX) (n : Nat) (a : Option Addr) (cap : Nat), e = .returned (.tuple #[.slice a n cap, .bool ok]) ∧ r = (if ok then some (L.map IX.f) else none) ∧ n ≤ 16 ∧ ItsM w' w.heap.size a n cap L ∧ (ok = false → L = []) ∧ Below w.heap.size w w'
set_option maxHeartbeats 2000000 in
theorem fparse_at (s : ByteArray) (hs : s.size ≤ 1000000) (w : World) : Calls Tryz.prog 56 #[.string s] w (FParP (parseF (btL s)) w) := by
  have hmf : ∀ (fn : Fn) (first cap : Array Value) (w : World), (Instr.makeFunc fn first cap).run Tryz.prog w = .ok (.func fn first cap) w := fun _ _ _ _ => rfl
  have HSZ := Lib.hid hs
  clear hs
  go_enter Tryz.func56, Tryz.ntmps56
  go_wp2_with fail
  refine (tleft1_at s _).mono ?_
  rintro e w1 ⟨q, rfl, hq, hsz, hw⟩
  subst w1
  have HQ := Lib.hid hq
  have HS := Lib.hid hsz
  clear hq hsz
  go_upto_region 2 with fail
  refine code_forget (fun W => Hid (Box W w.heap.size #[.string q] 99) ∧ Hid (Below w.heap.size w W)) ⟨Lib.hid (Box.new w _ _), Lib.hid ((Below.refl w.heap.size w).alloc (Nat.le_refl _) _)⟩ ?_
  obtain ⟨b, hb⟩ : ∃ x, w.heap.size = x := ⟨_, rfl⟩
  have HB := Lib.hid hb
  rintro w2 ⟨BX, HL⟩
  have bl := BX.out.lt
  rw [hb] at BX bl ⊢
  clear hb
  have k0 : w2.cell? ⟨b, 0, none⟩ = some (.string q) := by rw [BX.out.cell 0]; rfl
  by_cases h0 : btL q = []
  · have HE : q.toList.isEmpty = true := by
      rw [emp_size q]
      have : q.size = 0 := by rw [← btL_length, h0]; rfl
      simp [this]
    have HP : Hid (parseF (btL s) = some []) := Lib.hid (parseF_nil (by rw [← HQ.out, h0]))
    clear h0
    go_wp2_with fail
    go_ret2
    exact ⟨true, [], 0, none, 0, rfl, HP.out, by omega, ItsM.nil _ _, fun _ => rfl, HL.out⟩
  · have HE : q.toList.isEmpty = false := by
      rw [emp_size q]
      have : q.size ≠ 0 := fun h => h0 (by rw [← List.length_eq_zero_iff, btL_length, h])
      simp [this]
    have HP : Hid (parseF (btL s) = CG 0 (btL q)) := Lib.hid (by rw [parseF_cg (by rw [← HQ.out]; exact h0), HQ.out])
    clear h0
    go_wp2_with fail
    refine (collect_at b q (Nat.le_trans HS.out HSZ.out) _ BX.out).mono ?_
    rintro e w3 ⟨q3, ok, L, n, a, cap, hR, rfl, hr, hn, hI, hno⟩
    have HH : Hid (FParP (parseF (btL s)) w (.returned (.tuple #[.slice a n cap, .bool ok])) w3) := Lib.hid ⟨ok, L, n, a, cap, rfl, by rw [HP.out, hr], hn, hI.mono HL.out.size, hno, below_of_grown HL.out hR.only (by have := HB.out; omega)⟩
    clear hR hr hn hI hno BX HL HP
    go_wp2_with fail
    go_ret2
    exact HH.out
end Go.Proofs.YtodibjpojfipoaaGreatDoor
