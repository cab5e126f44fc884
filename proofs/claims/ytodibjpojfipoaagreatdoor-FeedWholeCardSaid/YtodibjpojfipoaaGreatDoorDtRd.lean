/- The reader's methods, one by one. -/
import Derived.Test.YtodibjpojfipoaaGreatDoorDtBase
namespace Go.Proofs.YtodibjpojfipoaaGreatDoor
open Go.RowKit
set_option linter.unusedVariables false
set_option linter.unusedSimpArgs false
set_option maxRecDepth 10000

/-- What a method leaves of the reader in block b. -/
structure RdP (b : Nat) (s : ByteArray) (f : Bool) (w w' : World) (q : ByteArray) (f' : Bool) : Prop where
  box : Box w' b #[.string q, .bool f'] 87
  only : w.grownBy w' (some b)
  size : q.size ≤ s.size
  fail : f = true → f' = true
theorem RdP.refl {b : Nat} {s : ByteArray} {f : Bool} {w : World} (h : Box w b #[.string s, .bool f] 87) : RdP b s f w w s f := ⟨h, World.grownBy.refl w _, Nat.le_refl _, id⟩
theorem RdP.trans {b : Nat} {s q r : ByteArray} {f g h : Bool} {w w1 w2 : World} (a : RdP b s f w w1 q g) (c : RdP b q g w1 w2 r h) : RdP b s f w w2 r h := ⟨c.box, d_trans a.only c.only, Nat.le_trans c.size a.size, fun x => c.fail (a.fail x)⟩
set_option maxHeartbeats 2000000 in
theorem skip_at (b : Nat) (s t : ByteArray) (f : Bool) (w : World) (hb : Box w b #[.string s, .bool f] 87) :
    Calls Tryz.prog 105 #[.pointer (some ⟨b, 0, none⟩), .string t] w fun e w' => ∃ (q : ByteArray) (h : Bool), e = .returned (.bool h) ∧ RdP b s f w w' q f ∧ (h = true → cutS (btL t) (btL s) = some (btL q)) ∧ (h = false → cutS (btL t) (btL s) = none ∧ q = s) := by
  have k0 : w.cell? ⟨b, 0, none⟩ = some (.string s) := by rw [hb.cell 0]; rfl
  have c0 := hb.free 0
  have gl := hb.lt
  have HB := Lib.hid hb
  clear hb
  obtain ⟨h, hh⟩ : ∃ h, Lib.hasPrefix s.data.toList t.data.toList = h := ⟨_, rfl⟩
  obtain ⟨q, hq⟩ : ∃ q : ByteArray, ⟨(Lib.trimPrefix s.data.toList t.data.toList).toArray⟩ = q := ⟨_, rfl⟩
  have hc := cut_prefix s.data.toList t.data.toList
  have C1 : Hid (h = true → cutS (btL t) (btL s) = some (btL q)) := Lib.hid (fun hy => by rw [← hq, btD_mk]; exact hc.1 (hh.trans hy))
  have C2 : Hid (h = false → cutS (btL t) (btL s) = none ∧ q = s) := Lib.hid (fun hn => by
    have := hc.2 (hh.trans hn)
    exact ⟨this.1, by rw [← hq, this.2]⟩)
  have C3 : Hid (q.size ≤ s.size) := Lib.hid (by
    have := trim_len s.data.toList t.data.toList
    rw [← hq]
    show (Lib.trimPrefix s.data.toList t.data.toList).toArray.size ≤ s.data.size
    simpa using this)
  have CP : Hid (∀ W : World, Calls Tryz.prog 126 #[.string s, .string t] W fun e w' => e = .returned (.tuple #[.string q, .bool h]) ∧ w' = W) := Lib.hid (fun W => by
    rw [← hq, ← hh]
    exact Any.strings_CutPrefix Tryz.lays103 s t W)
  clear hh hq hc
  go_enter Tryz.func105, Tryz.ntmps105
  go_wp2_with (refine (CP.out _).mono ?_; rintro e w' ⟨rfl, hw⟩; rw [hw])
  go_ret
  exact ⟨q, h, rfl, ⟨HB.out.set 0 _, d_setCell (World.grownBy.refl w _) (Or.inl rfl) _, C3.out, id⟩, C1.out, C2.out⟩
set_option maxHeartbeats 1000000 in
theorem fail_at (b : Nat) (s : ByteArray) (f : Bool) (w : World) (hb : Box w b #[.string s, .bool f] 87) :
    Calls Tryz.prog 106 #[.pointer (some ⟨b, 0, none⟩)] w fun e w' => e = .returned (.int .i64 0) ∧ RdP b s f w w' s true := by
  have k1 : w.cell? ⟨b, 1, none⟩ = some (.bool f) := by rw [hb.cell 1]; rfl
  have c1 := hb.free 1
  have gl := hb.lt
  have HB := Lib.hid hb
  clear hb
  go_enter Tryz.func106, Tryz.ntmps106
  go_wp2
  go_ret
  exact ⟨rfl, ⟨HB.out.set 1 _, d_setCell (World.grownBy.refl w _) (Or.inl rfl) _, Nat.le_refl _, fun _ => rfl⟩⟩
set_option maxHeartbeats 1000000 in
theorem mark_at (b : Nat) (s t : ByteArray) (f : Bool) (w : World) (hb : Box w b #[.string s, .bool f] 87) :
    Calls Tryz.prog 72 #[.pointer (some ⟨b, 0, none⟩), .string t] w fun e w' => ∃ (q : ByteArray) (f' : Bool), e = .returned (.tuple #[]) ∧ RdP b s f w w' q f' ∧ (f = false → StepIs (markS (btL t) (btL s)) () (btL q) f') := by
  have HB := Lib.hid hb
  clear hb
  go_enter Tryz.func72, Tryz.ntmps72
  go_wp2_with fail
  refine (skip_at b s t f _ HB.out).mono ?_
  rintro e w1 ⟨q, h, rfl, R, c1, c2⟩
  have R := Lib.hid R
  have C1 := Lib.hid c1
  have C2 := Lib.hid c2
  clear c1 c2
  cases h with
  | true =>
    go_wp2
    go_end0
    refine ⟨q, f, rfl, R.out, fun hf => ?_⟩
    rw [hf]
    exact StepIs.of_some (by unfold markS; rw [C1.out (by simp)]; rfl)
  | false =>
    go_wp2_with fail
    refine (fail_at b q f _ R.out.box).mono ?_
    rintro e w2 ⟨rfl, R2⟩
    have R2 := Lib.hid R2
    go_wp2
    go_end0
    exact ⟨q, true, rfl, R.out.trans R2.out, fun hf => StepIs.of_none (by unfold markS; rw [(C2.out (by simp)).1]; rfl)⟩
set_option maxHeartbeats 1000000 in
theorem done_at (b : Nat) (s : ByteArray) (f : Bool) (w : World) (hb : Box w b #[.string s, .bool f] 87) :
    Calls Tryz.prog 76 #[.pointer (some ⟨b, 0, none⟩)] w fun e w' => ∃ h : Bool, e = .returned (.bool h) ∧ w' = w ∧ (h = true ↔ f = false ∧ btL s = []) := by
  have k0 : w.cell? ⟨b, 0, none⟩ = some (.string s) := by rw [hb.cell 0]; rfl
  have k1 : w.cell? ⟨b, 1, none⟩ = some (.bool f) := by rw [hb.cell 1]; rfl
  clear hb
  have HZ : Hid (s.toList.isEmpty = true ↔ btL s = []) := Lib.hid (by
    rw [Lib.toList_data, List.isEmpty_iff]
    unfold btL
    rw [List.map_eq_nil_iff])
  cases f with
  | true =>
    go_enter Tryz.func76, Tryz.ntmps76
    go_wp2
    go_ret
    exact ⟨_, rfl, rfl, by simp⟩
  | false =>
    go_enter Tryz.func76, Tryz.ntmps76
    go_wp2
    go_ret
    exact ⟨s.toList.isEmpty, rfl, rfl, by rw [HZ.out]; simp⟩
end Go.Proofs.YtodibjpojfipoaaGreatDoor
