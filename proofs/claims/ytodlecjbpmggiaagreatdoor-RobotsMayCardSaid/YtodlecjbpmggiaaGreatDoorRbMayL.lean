/- RobotsMay: the walk. -/
import Derived.Test.YtodlecjbpmggiaaGreatDoorRbRmay
import Derived.Test.YtodlecjbpmggiaaGreatDoorRbIn
namespace Go.Proofs.YtodlecjbpmggiaaGreatDoor
open Go Go.RowKit
set_option linter.unusedVariables false
set_option linter.unusedSimpArgs false
set_option maxRecDepth 100000

set_option maxHeartbeats 4000000 in
theorem robotsMay_w (all no : Bool) (a : Option Addr) (n cap : Nat) (d : Int) (rs : List Rl) (path : ByteArray) (w : World) (hlen : rs.length = n) (hr : RdR w a rs) (hn : n ≤ cap) (hcap : cap ≤ maxLen) (hsz : ∀ r ∈ rs, r.pat.size ≤ maxLen) (hp : path.size ≤ maxLen) (hT : TabsM w) :
    Calls Tryz.prog 4 #[.agg #[.bool all, .bool no, .slice a n cap, .int .i64 d], .string path] w fun e w' => e = .returned (.bool true) ∧ Below w.heap.size w w' := by
  unfold maxLen at hcap hp
  have AW := Lib.hid (fun W (hW : Below w.heap.size w W) => awake11 W (hT.later hW))
  have HT := Lib.hid hT
  have HR := Lib.hid hr
  have HLEN := Lib.hid hlen
  have HSZ := Lib.hid hsz
  have BX := Lib.hid (Box.new w #[.bool all, .bool no, .slice a n cap, .int .i64 d] 26)
  have BB := Lib.hid ((Below.refl w.heap.size w).alloc (Nat.le_refl _) (.cells #[.bool all, .bool no, .slice a n cap, .int .i64 d] 26))
  clear hT hr hlen hsz
  go_enter Tryz.func4, Tryz.ntmps4
  go_upto_region 1 with fail
  obtain ⟨w1, hw1⟩ : ∃ W, w.alloc (.cells #[.bool all, .bool no, .slice a n cap, .int .i64 d] 26) = W := ⟨_, rfl⟩
  rw [hw1] at BX BB
  rw [hw1]
  clear hw1
  have c2 := BX.out.cell 2
  have lt := BX.out.lt
  by_cases h1 : 20 < n
  · have d1 : decide ((20 : Int) < (n : Int)) = true := decide_eq_true (by omega)
    go_wp2_with fail
    refine (AW.out _ BB.out).mono ?_
    rintro e w2 ⟨rfl, hb2⟩
    have B2 := Lib.hid (BB.out.trans (hb2.mono BB.out.size))
    clear hb2
    go_wp2
    go_ret
    exact ⟨rfl, B2.out⟩
  have d1 : decide ((20 : Int) < (n : Int)) = false := decide_eq_false (by omega)
  by_cases h2 : 100 < path.size
  · have d2 : decide ((100 : Int) < (path.size : Int)) = true := decide_eq_true (by omega)
    go_wp2_with fail
    refine (AW.out _ BB.out).mono ?_
    rintro e w2 ⟨rfl, hb2⟩
    have B2 := Lib.hid (BB.out.trans (hb2.mono BB.out.size))
    clear hb2
    go_wp2
    go_ret
    exact ⟨rfl, B2.out⟩
  have d2 : decide ((100 : Int) < (path.size : Int)) = false := decide_eq_false (by omega)
  go_upto_region 3 with fail
  clear d1 d2 c2
  go_wp2_with fail
  go_loopw [5] (fun j wr => ∃ i : Nat, i ≤ n ∧ j = .int .i64 (i : Int) ∧ wr = w1 ∧ Hid (∀ r ∈ rs.take i, r.pat.size ≤ 100)) (fun j _ => n - (intOf j).toNat)
  case atStart => exact ⟨0, by omega, rfl, rfl, Lib.hid (fun r hr => by simp at hr)⟩
  case round =>
    obtain ⟨i, hi, rfl, rfl, HP⟩ := hrel
    have c2 := BX.out.cell 2
    by_cases hlt : i < n
    · have hkd : decide ((i : Int) < (n : Int)) = true := decide_eq_true (by omega)
      obtain ⟨r, hrk⟩ : ∃ r, rs[i]? = some r := ⟨rs[i]'(by have := HLEN.out; omega), List.getElem?_eq_getElem _⟩
      obtain ⟨bb, off, ha, hc⟩ := HR.out
      have ha' := ha (by have := HLEN.out; omega)
      subst ha'
      obtain ⟨q0, q1⟩ := hc i r hrk
      have y1 := (BB.out.cell (World.block_lt_of_cell? _ _ q1)).trans q1
      have hrs := HSZ.out r (List.mem_of_getElem? hrk)
      unfold maxLen at hrs
      have HRK : Hid (rs.take (i + 1) = rs.take i ++ [r]) := Lib.hid (by rw [List.take_add_one, hrk]; rfl)
      have hx0 : (0 : Int) ≤ (i : Int) := by omega
      have hx1 : (i : Int) < (n : Int) := by omega
      clear ha hc q0 q1 hrk
      by_cases h4 : 100 < r.pat.size
      · have d4 : decide ((100 : Int) < (r.pat.size : Int)) = true := decide_eq_true (by omega)
        go_wp2_with fail
        refine (AW.out _ BB.out).mono ?_
        rintro e w2 ⟨rfl, hb2⟩
        have B2 := Lib.hid (BB.out.trans (hb2.mono BB.out.size))
        clear hb2
        go_wp2
        go_ret
        exact ⟨rfl, B2.out⟩
      · have d4 : decide ((100 : Int) < (r.pat.size : Int)) = false := decide_eq_false (by omega)
        have NX : Hid (∀ q ∈ rs.take (i + 1), q.pat.size ≤ 100) := Lib.hid (fun q hq => by
          rw [HRK.out] at hq
          rcases List.mem_append.1 hq with hq | hq
          · exact HP.out q hq
          · rw [List.mem_singleton.1 hq]; omega)
        go_wp2
        go_roundw
        case rel => exact ⟨i + 1, by omega, by simp, trivial, NX⟩
        case measure =>
          simp only [intOf]
          omega
    · have hkd : decide ((i : Int) < (n : Int)) = false := decide_eq_false (by omega)
      obtain rfl : i = n := by omega
      have HS : Hid (∀ r ∈ rs, r.pat.size ≤ 100) := Lib.hid (fun r hr => HP.out r (by rw [List.take_of_length_le (by have := HLEN.out; omega)]; exact hr))
      clear HP HSZ
      go_upto_region 8 with fail
      obtain ⟨b, hb⟩ : ∃ b : Bool, b = true ↔ mayP all no rs path := by classical exact ⟨decide (mayP all no rs path), by simp⟩
      have M1 : Hid (∀ W, Below w.heap.size w W → Calls Tryz.prog 10 #[.agg #[.bool all, .bool no, .slice a i cap, .int .i64 d], .string path] W fun e w' => e = .returned (.bool b) ∧ Below W.heap.size W w') := Lib.hid (fun W hW =>
        may_at all no rs a i cap d path b hb W HLEN.out (HR.out.later hW) (by omega) (fun r hr => by have := HS.out r hr; omega) (by omega) (HT.out.later hW))
      have M2 : Hid (∀ W, Below w.heap.size w W → Calls Tryz.prog 11 #[.agg #[.bool all, .bool no, .slice a i cap, .int .i64 d], .string path] W fun e w' => e = .returned (.bool b) ∧ Below W.heap.size W w') := Lib.hid (fun W hW =>
        rmay_at all no rs a i cap d path b hb W HLEN.out (HR.out.later hW) (by omega) (fun r hr => by have := HS.out r hr; omega) (by omega))
      have M3 : Hid (∀ W, Below w.heap.size w W → Calls Tryz.prog 10 #[.agg #[.bool all, .bool no, .slice a i cap, .int .i64 d], .string ⟨#[47, 114, 111, 98, 111, 116, 115, 46, 116, 120, 116]⟩] W fun e w' => e = .returned (.bool true) ∧ Below W.heap.size W w') := Lib.hid (fun W hW =>
        may_at all no rs a i cap d _ true ⟨fun _ => Or.inl (by decide +kernel), fun _ => rfl⟩ W HLEN.out (HR.out.later hW) (by omega) (fun r hr => by have := HS.out r hr; omega) (by decide) (HT.out.later hW))
      clear HR HLEN HS HT hb h1 h2 c2
      have c0 := BX.out.drew.cell 0
      have c1 := BX.out.drew.cell 1
      have c2 := BX.out.drew.cell 2
      have c3 := BX.out.drew.cell 3
      go_region_with (first
        | (go_at_call 6; with_reducible refine (AW.out _ BB.out.drew).mono ?_; rintro e wa ⟨rfl, hwa⟩; have BA := Lib.hid ((BB.out.drew).trans (hwa.mono (BB.out.drew).size)); have XA := Lib.hid ((BX.out.drew).later hwa); clear hwa; have c0 := XA.out.cell 0; have c1 := XA.out.cell 1; have c2 := XA.out.cell 2; have c3 := XA.out.cell 3; have lwa := XA.out.lt)
        | (go_at_call 10; with_reducible refine (M1.out _ BA.out).mono ?_; rintro e wb ⟨rfl, hwb⟩; have BC := Lib.hid ((BA.out).trans (hwb.mono (BA.out).size)); have XC := Lib.hid ((XA.out).later hwb); clear hwb; have c0 := XC.out.cell 0; have c1 := XC.out.cell 1; have c2 := XC.out.cell 2; have c3 := XC.out.cell 3; have lwb := XC.out.lt)
        | (go_at_call 11; with_reducible refine (M2.out _ BC.out).mono ?_; rintro e wd ⟨rfl, hwd⟩; have BD := Lib.hid ((BC.out).trans (hwd.mono (BC.out).size)); have XD := Lib.hid ((XC.out).later hwd); clear hwd; have c0 := XD.out.cell 0; have c1 := XD.out.cell 1; have c2 := XD.out.cell 2; have c3 := XD.out.cell 3; have lwd := XD.out.lt)
        | (go_at_call 10; with_reducible refine (M3.out _ BD.out).mono ?_; rintro e we ⟨rfl, hwe⟩; have BE := Lib.hid ((BD.out).trans (hwe.mono (BD.out).size)); have XE := Lib.hid ((XD.out).later hwe); clear hwe; have c0 := XE.out.cell 0; have c1 := XE.out.cell 1; have c2 := XE.out.cell 2; have c3 := XE.out.cell 3; have lwe := XE.out.lt))
      all_goals
        go_wp2
        go_ret
        exact ⟨rfl, BE.out⟩
theorem robotsMay_walk (x : RbX) (path : ByteArray) (w : World) (hx : IsRls w (x.ra, x.rl, x.rc)) (hp : path.size ≤ maxLen) (hT : TabsM w) :
    Calls Tryz.prog 4 #[.agg #[.bool x.all, .bool x.no, .slice x.ra x.rl x.rc, .int .i64 x.d], .string path] w fun e w' => e = .returned (.bool true) ∧ Below w.heap.size w w' := by
  obtain ⟨rs, h1, h2, h3, h4, h5⟩ := hx
  exact robotsMay_w x.all x.no x.ra x.rl x.rc x.d rs path w h1 h4 h3 h2 h5 hp hT
end Go.Proofs.YtodlecjbpmggiaaGreatDoor
