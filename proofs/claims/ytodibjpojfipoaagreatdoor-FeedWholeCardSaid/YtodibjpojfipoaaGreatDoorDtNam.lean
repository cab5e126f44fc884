/- The reader: names of days and months. -/
import Derived.Test.YtodibjpojfipoaaGreatDoorDtClk
namespace Go.Proofs.YtodibjpojfipoaaGreatDoor
open Go.RowKit
set_option linter.unusedVariables false
set_option linter.unusedSimpArgs false
set_option maxRecDepth 10000

def dayV : Array Value := #[.string ⟨#[77, 111, 110, 100, 97, 121]⟩, .string ⟨#[84, 117, 101, 115, 100, 97, 121]⟩, .string ⟨#[87, 101, 100, 110, 101, 115, 100, 97, 121]⟩, .string ⟨#[84, 104, 117, 114, 115, 100, 97, 121]⟩, .string ⟨#[70, 114, 105, 100, 97, 121]⟩, .string ⟨#[83, 97, 116, 117, 114, 100, 97, 121]⟩, .string ⟨#[83, 117, 110, 100, 97, 121]⟩]
def monV : Array Value := #[.string ⟨#[74, 97, 110]⟩, .string ⟨#[70, 101, 98]⟩, .string ⟨#[77, 97, 114]⟩, .string ⟨#[65, 112, 114]⟩, .string ⟨#[77, 97, 121]⟩, .string ⟨#[74, 117, 110]⟩, .string ⟨#[74, 117, 108]⟩, .string ⟨#[65, 117, 103]⟩, .string ⟨#[83, 101, 112]⟩, .string ⟨#[79, 99, 116]⟩, .string ⟨#[78, 111, 118]⟩, .string ⟨#[68, 101, 99]⟩]
/-- The package's names. -/
structure TabD (w : World) : Prop where
  lt : 1 < w.heap.size ∧ 0 < w.heap.size
  day : ∀ i : Nat, i < 7 → w.cell? ⟨0, i, none⟩ = dayV[i]?
  mon : ∀ i : Nat, i < 12 → w.cell? ⟨1, i, none⟩ = monV[i]?
theorem TabD.later {w w' : World} (h : TabD w) (hb : Below w.heap.size w w') : TabD w' :=
  ⟨⟨Nat.lt_of_lt_of_le h.lt.1 hb.size, Nat.lt_of_lt_of_le h.lt.2 hb.size⟩, fun i hi => (hb.cell h.lt.2).trans (h.day i hi), fun i hi => (hb.cell h.lt.1).trans (h.mon i hi)⟩
theorem day_get (k : Nat) (h : k < 7) : ∃ x : ByteArray, dayV[k]? = some (.string x) ∧ dayN.drop k = btL x :: dayN.drop (k + 1) ∧ dayH.drop k = btL (x.extract 0 3) :: dayH.drop (k + 1) ∧ 3 ≤ x.size := by
  have hk : k = 0 ∨ k = 1 ∨ k = 2 ∨ k = 3 ∨ k = 4 ∨ k = 5 ∨ k = 6 := by omega
  rcases hk with rfl | rfl | rfl | rfl | rfl | rfl | rfl <;> exact ⟨_, rfl, by decide, by decide, by decide⟩
theorem mon_get (k : Nat) (h : k < 12) : ∃ x : ByteArray, monV[k]? = some (.string x) ∧ monN.drop k = btL x :: monN.drop (k + 1) := by
  have hk : k = 0 ∨ k = 1 ∨ k = 2 ∨ k = 3 ∨ k = 4 ∨ k = 5 ∨ k = 6 ∨ k = 7 ∨ k = 8 ∨ k = 9 ∨ k = 10 ∨ k = 11 := by omega
  rcases hk with rfl | rfl | rfl | rfl | rfl | rfl | rfl | rfl | rfl | rfl | rfl | rfl <;> exact ⟨_, rfl, by decide⟩
set_option maxHeartbeats 4000000 in
theorem short_at (b : Nat) (s : ByteArray) (f : Bool) (w : World) (hT : TabD w) (hb : Box w b #[.string s, .bool f] 87) :
    Calls Tryz.prog 71 #[.pointer (some ⟨b, 0, none⟩)] w (StepP b s f w (nameS dayH 0 (btL s)) 7) := by
  have n0 : w.cell? ⟨0, 0, none⟩ = some (.string ⟨#[77, 111, 110, 100, 97, 121]⟩) := hT.day 0 (by decide)
  have n1 : w.cell? ⟨0, 1, none⟩ = some (.string ⟨#[84, 117, 101, 115, 100, 97, 121]⟩) := hT.day 1 (by decide)
  have n2 : w.cell? ⟨0, 2, none⟩ = some (.string ⟨#[87, 101, 100, 110, 101, 115, 100, 97, 121]⟩) := hT.day 2 (by decide)
  have n3 : w.cell? ⟨0, 3, none⟩ = some (.string ⟨#[84, 104, 117, 114, 115, 100, 97, 121]⟩) := hT.day 3 (by decide)
  have n4 : w.cell? ⟨0, 4, none⟩ = some (.string ⟨#[70, 114, 105, 100, 97, 121]⟩) := hT.day 4 (by decide)
  have n5 : w.cell? ⟨0, 5, none⟩ = some (.string ⟨#[83, 97, 116, 117, 114, 100, 97, 121]⟩) := hT.day 5 (by decide)
  have n6 : w.cell? ⟨0, 6, none⟩ = some (.string ⟨#[83, 117, 110, 100, 97, 121]⟩) := hT.day 6 (by decide)
  have gl := hT.lt
  have HB := Lib.hid hb
  clear hb hT
  go_enter Tryz.func71, Tryz.ntmps71
  go_wp2
  go_loopw [6] (fun i wr => ∃ k : Nat, k ≤ 7 ∧ i = .int .i64 (k : Int) ∧ Hid (RdP b s f w wr s f) ∧ Hid (nameS dayH 0 (btL s) = nameS (dayH.drop k) (((k : Nat) : Int)) (btL s))) (fun i _ => 7 - (intOf i).toNat)
  case atStart => exact ⟨0, by omega, rfl, Lib.hid (RdP.refl HB.out), Lib.hid rfl⟩
  case round =>
    obtain ⟨k, k1, rfl, R, H⟩ := hrel
    by_cases hlt : k < 7
    · have e1 : decide ((k : Int) < 7) = true := decide_eq_true (by omega)
      have e2 : decide (k < 7) = true := decide_eq_true hlt
      obtain ⟨x, g1, g2, g3, g4⟩ := day_get k hlt
      have HX : ∀ W : World, (Instr.index 120 (.agg #[.string ⟨#[77, 111, 110, 100, 97, 121]⟩, .string ⟨#[84, 117, 101, 115, 100, 97, 121]⟩, .string ⟨#[87, 101, 100, 110, 101, 115, 100, 97, 121]⟩, .string ⟨#[84, 104, 117, 114, 115, 100, 97, 121]⟩, .string ⟨#[70, 114, 105, 100, 97, 121]⟩, .string ⟨#[83, 97, 116, 117, 114, 100, 97, 121]⟩, .string ⟨#[83, 117, 110, 100, 97, 121]⟩]) (.int .i64 (k : Int))).run Tryz.prog W = .ok (.string x) W := fun W => run_index_arr W _ _ 7 _ .i64 k _ Tryz.underlying120 hlt Tryz.isAgg9 Tryz.sizeOf9 g1
      have z1 : (3 : Int) ≤ (x.size : Int) := by omega
      have z2 : 3 ≤ x.size := g4
      have HC : Hid (dayH.drop k = btL (x.extract 0 3) :: dayH.drop (k + 1)) := Lib.hid g3
      go_wp2_with fail
      refine (skip_at b s _ f _ R.out.box).mono ?_
      rintro e w1 ⟨q, h, rfl, R1, c1, c2⟩
      have R1 := Lib.hid (R.out.trans R1)
      have C1 := Lib.hid c1
      have C2 := Lib.hid c2
      clear c1 c2
      cases h with
      | true =>
        have HN : Hid (nameS dayH 0 (btL s) = some (((k : Nat) : Int), btL q)) := Lib.hid (by rw [H.out, HC.out, nameS_hit (C1.out (by simp))])
        go_wp2
        go_ret
        exact ⟨_, q, f, rfl, R1.out, by omega, by omega, fun hf => by rw [hf]; exact StepIs.of_some HN.out⟩
      | false =>
        have HN : Hid (nameS dayH 0 (btL s) = nameS (dayH.drop (k + 1)) (((k : Nat) : Int) + 1) (btL s)) := Lib.hid (by rw [H.out, HC.out, nameS_miss (C2.out (by simp)).1])
        obtain rfl := (C2.out (by simp)).2
        go_wp2
        go_round
        case rel => exact ⟨k + 1, by omega, by simp, R1, HN⟩
        case measure => simp [intOf]; omega
    · have e1 : decide ((k : Int) < 7) = false := decide_eq_false (by omega)
      have e2 : decide (k < 7) = false := decide_eq_false hlt
      have HN : Hid (nameS dayH 0 (btL s) = none) := Lib.hid (by
        have hk : k = 7 := by omega
        rw [H.out, hk]
        rfl)
      go_wp2_with fail
      refine (fail_at b s f _ R.out.box).mono ?_
      rintro e w1 ⟨rfl, R1⟩
      have R1 := Lib.hid (R.out.trans R1)
      go_wp2
      go_ret
      exact ⟨0, s, true, rfl, R1.out, by omega, by omega, fun _ => StepIs.of_none HN.out⟩
set_option maxHeartbeats 4000000 in
theorem full_at (b : Nat) (s : ByteArray) (f : Bool) (w : World) (hT : TabD w) (hb : Box w b #[.string s, .bool f] 87) :
    Calls Tryz.prog 77 #[.pointer (some ⟨b, 0, none⟩)] w (StepP b s f w (nameS dayN 0 (btL s)) 7) := by
  have n0 : w.cell? ⟨0, 0, none⟩ = some (.string ⟨#[77, 111, 110, 100, 97, 121]⟩) := hT.day 0 (by decide)
  have n1 : w.cell? ⟨0, 1, none⟩ = some (.string ⟨#[84, 117, 101, 115, 100, 97, 121]⟩) := hT.day 1 (by decide)
  have n2 : w.cell? ⟨0, 2, none⟩ = some (.string ⟨#[87, 101, 100, 110, 101, 115, 100, 97, 121]⟩) := hT.day 2 (by decide)
  have n3 : w.cell? ⟨0, 3, none⟩ = some (.string ⟨#[84, 104, 117, 114, 115, 100, 97, 121]⟩) := hT.day 3 (by decide)
  have n4 : w.cell? ⟨0, 4, none⟩ = some (.string ⟨#[70, 114, 105, 100, 97, 121]⟩) := hT.day 4 (by decide)
  have n5 : w.cell? ⟨0, 5, none⟩ = some (.string ⟨#[83, 97, 116, 117, 114, 100, 97, 121]⟩) := hT.day 5 (by decide)
  have n6 : w.cell? ⟨0, 6, none⟩ = some (.string ⟨#[83, 117, 110, 100, 97, 121]⟩) := hT.day 6 (by decide)
  have gl := hT.lt
  have HB := Lib.hid hb
  clear hb hT
  go_enter Tryz.func77, Tryz.ntmps77
  go_wp2
  go_loopw [6] (fun i wr => ∃ k : Nat, k ≤ 7 ∧ i = .int .i64 (k : Int) ∧ Hid (RdP b s f w wr s f) ∧ Hid (nameS dayN 0 (btL s) = nameS (dayN.drop k) (((k : Nat) : Int)) (btL s))) (fun i _ => 7 - (intOf i).toNat)
  case atStart => exact ⟨0, by omega, rfl, Lib.hid (RdP.refl HB.out), Lib.hid rfl⟩
  case round =>
    obtain ⟨k, k1, rfl, R, H⟩ := hrel
    by_cases hlt : k < 7
    · have e1 : decide ((k : Int) < 7) = true := decide_eq_true (by omega)
      have e2 : decide (k < 7) = true := decide_eq_true hlt
      obtain ⟨x, g1, g2, g3, g4⟩ := day_get k hlt
      have HX : ∀ W : World, (Instr.index 120 (.agg #[.string ⟨#[77, 111, 110, 100, 97, 121]⟩, .string ⟨#[84, 117, 101, 115, 100, 97, 121]⟩, .string ⟨#[87, 101, 100, 110, 101, 115, 100, 97, 121]⟩, .string ⟨#[84, 104, 117, 114, 115, 100, 97, 121]⟩, .string ⟨#[70, 114, 105, 100, 97, 121]⟩, .string ⟨#[83, 97, 116, 117, 114, 100, 97, 121]⟩, .string ⟨#[83, 117, 110, 100, 97, 121]⟩]) (.int .i64 (k : Int))).run Tryz.prog W = .ok (.string x) W := fun W => run_index_arr W _ _ 7 _ .i64 k _ Tryz.underlying120 hlt Tryz.isAgg9 Tryz.sizeOf9 g1
      have HC : Hid (dayN.drop k = btL (x) :: dayN.drop (k + 1)) := Lib.hid g2
      go_wp2_with fail
      refine (skip_at b s _ f _ R.out.box).mono ?_
      rintro e w1 ⟨q, h, rfl, R1, c1, c2⟩
      have R1 := Lib.hid (R.out.trans R1)
      have C1 := Lib.hid c1
      have C2 := Lib.hid c2
      clear c1 c2
      cases h with
      | true =>
        have HN : Hid (nameS dayN 0 (btL s) = some (((k : Nat) : Int), btL q)) := Lib.hid (by rw [H.out, HC.out, nameS_hit (C1.out (by simp))])
        go_wp2
        go_ret
        exact ⟨_, q, f, rfl, R1.out, by omega, by omega, fun hf => by rw [hf]; exact StepIs.of_some HN.out⟩
      | false =>
        have HN : Hid (nameS dayN 0 (btL s) = nameS (dayN.drop (k + 1)) (((k : Nat) : Int) + 1) (btL s)) := Lib.hid (by rw [H.out, HC.out, nameS_miss (C2.out (by simp)).1])
        obtain rfl := (C2.out (by simp)).2
        go_wp2
        go_round
        case rel => exact ⟨k + 1, by omega, by simp, R1, HN⟩
        case measure => simp [intOf]; omega
    · have e1 : decide ((k : Int) < 7) = false := decide_eq_false (by omega)
      have e2 : decide (k < 7) = false := decide_eq_false hlt
      have HN : Hid (nameS dayN 0 (btL s) = none) := Lib.hid (by
        have hk : k = 7 := by omega
        rw [H.out, hk]
        rfl)
      go_wp2_with fail
      refine (fail_at b s f _ R.out.box).mono ?_
      rintro e w1 ⟨rfl, R1⟩
      have R1 := Lib.hid (R.out.trans R1)
      go_wp2
      go_ret
      exact ⟨0, s, true, rfl, R1.out, by omega, by omega, fun _ => StepIs.of_none HN.out⟩
set_option maxHeartbeats 4000000 in
theorem month_at (b : Nat) (s : ByteArray) (f : Bool) (w : World) (hT : TabD w) (hb : Box w b #[.string s, .bool f] 87) :
    Calls Tryz.prog 74 #[.pointer (some ⟨b, 0, none⟩)] w (StepP b s f w (nameS monN 1 (btL s)) 13) := by
  have n0 : w.cell? ⟨1, 0, none⟩ = some (.string ⟨#[74, 97, 110]⟩) := hT.mon 0 (by decide)
  have n1 : w.cell? ⟨1, 1, none⟩ = some (.string ⟨#[70, 101, 98]⟩) := hT.mon 1 (by decide)
  have n2 : w.cell? ⟨1, 2, none⟩ = some (.string ⟨#[77, 97, 114]⟩) := hT.mon 2 (by decide)
  have n3 : w.cell? ⟨1, 3, none⟩ = some (.string ⟨#[65, 112, 114]⟩) := hT.mon 3 (by decide)
  have n4 : w.cell? ⟨1, 4, none⟩ = some (.string ⟨#[77, 97, 121]⟩) := hT.mon 4 (by decide)
  have n5 : w.cell? ⟨1, 5, none⟩ = some (.string ⟨#[74, 117, 110]⟩) := hT.mon 5 (by decide)
  have n6 : w.cell? ⟨1, 6, none⟩ = some (.string ⟨#[74, 117, 108]⟩) := hT.mon 6 (by decide)
  have n7 : w.cell? ⟨1, 7, none⟩ = some (.string ⟨#[65, 117, 103]⟩) := hT.mon 7 (by decide)
  have n8 : w.cell? ⟨1, 8, none⟩ = some (.string ⟨#[83, 101, 112]⟩) := hT.mon 8 (by decide)
  have n9 : w.cell? ⟨1, 9, none⟩ = some (.string ⟨#[79, 99, 116]⟩) := hT.mon 9 (by decide)
  have n10 : w.cell? ⟨1, 10, none⟩ = some (.string ⟨#[78, 111, 118]⟩) := hT.mon 10 (by decide)
  have n11 : w.cell? ⟨1, 11, none⟩ = some (.string ⟨#[68, 101, 99]⟩) := hT.mon 11 (by decide)
  have gl := hT.lt
  have HB := Lib.hid hb
  clear hb hT
  go_enter Tryz.func74, Tryz.ntmps74
  go_wp2
  go_loopw [6] (fun i wr => ∃ k : Nat, k ≤ 12 ∧ i = .int .i64 (k : Int) ∧ Hid (RdP b s f w wr s f) ∧ Hid (nameS monN 1 (btL s) = nameS (monN.drop k) (((k : Nat) : Int) + 1) (btL s))) (fun i _ => 12 - (intOf i).toNat)
  case atStart => exact ⟨0, by omega, rfl, Lib.hid (RdP.refl HB.out), Lib.hid rfl⟩
  case round =>
    obtain ⟨k, k1, rfl, R, H⟩ := hrel
    by_cases hlt : k < 12
    · have e1 : decide ((k : Int) < 12) = true := decide_eq_true (by omega)
      have e2 : decide (k < 12) = true := decide_eq_true hlt
      obtain ⟨x, g1, g2⟩ := mon_get k hlt
      have HX : ∀ W : World, (Instr.index 122 (.agg #[.string ⟨#[74, 97, 110]⟩, .string ⟨#[70, 101, 98]⟩, .string ⟨#[77, 97, 114]⟩, .string ⟨#[65, 112, 114]⟩, .string ⟨#[77, 97, 121]⟩, .string ⟨#[74, 117, 110]⟩, .string ⟨#[74, 117, 108]⟩, .string ⟨#[65, 117, 103]⟩, .string ⟨#[83, 101, 112]⟩, .string ⟨#[79, 99, 116]⟩, .string ⟨#[78, 111, 118]⟩, .string ⟨#[68, 101, 99]⟩]) (.int .i64 (k : Int))).run Tryz.prog W = .ok (.string x) W := fun W => run_index_arr W _ _ 12 _ .i64 k _ Tryz.underlying122 hlt Tryz.isAgg9 Tryz.sizeOf9 g1
      have HC : Hid (monN.drop k = btL (x) :: monN.drop (k + 1)) := Lib.hid g2
      go_wp2_with fail
      refine (skip_at b s _ f _ R.out.box).mono ?_
      rintro e w1 ⟨q, h, rfl, R1, c1, c2⟩
      have R1 := Lib.hid (R.out.trans R1)
      have C1 := Lib.hid c1
      have C2 := Lib.hid c2
      clear c1 c2
      cases h with
      | true =>
        have HN : Hid (nameS monN 1 (btL s) = some (((k : Nat) : Int) + 1, btL q)) := Lib.hid (by rw [H.out, HC.out, nameS_hit (C1.out (by simp))])
        go_wp2
        go_ret
        exact ⟨_, q, f, rfl, R1.out, by omega, by omega, fun hf => by rw [hf]; exact StepIs.of_some HN.out⟩
      | false =>
        have HN : Hid (nameS monN 1 (btL s) = nameS (monN.drop (k + 1)) (((k : Nat) : Int) + 1 + 1) (btL s)) := Lib.hid (by rw [H.out, HC.out, nameS_miss (C2.out (by simp)).1])
        obtain rfl := (C2.out (by simp)).2
        go_wp2
        go_round
        case rel => exact ⟨k + 1, by omega, by simp, R1, HN⟩
        case measure => simp [intOf]; omega
    · have e1 : decide ((k : Int) < 12) = false := decide_eq_false (by omega)
      have e2 : decide (k < 12) = false := decide_eq_false hlt
      have HN : Hid (nameS monN 1 (btL s) = none) := Lib.hid (by
        have hk : k = 12 := by omega
        rw [H.out, hk]
        rfl)
      go_wp2_with fail
      refine (fail_at b s f _ R.out.box).mono ?_
      rintro e w1 ⟨rfl, R1⟩
      have R1 := Lib.hid (R.out.trans R1)
      go_wp2
      go_ret
      exact ⟨0, s, true, rfl, R1.out, by omega, by omega, fun _ => StepIs.of_none HN.out⟩
end Go.Proofs.YtodibjpojfipoaaGreatDoor
