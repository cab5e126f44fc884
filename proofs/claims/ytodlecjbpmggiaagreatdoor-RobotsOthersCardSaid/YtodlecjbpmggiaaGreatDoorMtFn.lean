/- Package match: its functions. -/
import Derived.Test.YtodlecjbpmggiaaGreatDoorMtSplit
import Derived.Test.YtodlecjbpmggiaaGreatDoorShelfM
import Derived.Test.YtodlecjbpmggiaaGreatDoorPcRef
import Derived.Test.YtodlecjbpmggiaaGreatDoorBox
import Derived.BigQuiet
import Derived.Deep.QuietTactic
namespace Go.Proofs.YtodlecjbpmggiaaGreatDoor
open Go.RowKit
set_option linter.unusedVariables false
set_option linter.unusedSimpArgs false

/-- The tables of utf8, and that bytealg's bound holds some number. -/
def TabsM (w : World) : Prop := Tabs w ∧ ∃ m, w.cell? ⟨0, 0, none⟩ = some (.int .i64 m)
theorem TabsM.later {w w' : World} (h : TabsM w) (hb : Below w.heap.size w w') : TabsM w' :=
  ⟨h.1.later hb, h.2.elim fun m hm => ⟨m, (hb.cell (World.block_lt_of_cell? _ _ hm)).trans hm⟩⟩
/-- In one form, or as it is. -/
def nfB (s : ByteArray) : ByteArray := match nrmI (btL s) with
  | some x => strL x
  | none => s
theorem nfB_size (s : ByteArray) : (nfB s).size ≤ 3 * s.size := by
  unfold nfB
  cases h : nrmI (btL s) with
  | none => simp only; omega
  | some x =>
    have := (plain_nrm (btL_byts s) h).len
    simp only [strL_size]
    rw [btL_length] at this
    exact this
theorem normal_at (s t : ByteArray) (ht : nfB s = t) (hs : s.size ≤ 10000) (w : World) (hT : Tabs w) :
    Calls Tryz.prog 37 #[.string s] w fun e w' => e = .returned (.string t) ∧ Below w.heap.size w w' := by
  have HT := Lib.hid hT
  clear hT
  unfold nfB at ht
  cases hr : nrmI (btL s) with
  | none =>
    rw [hr] at ht
    subst ht
    have HR := Lib.hid hr
    clear hr
    go_enter Tryz.func37, Tryz.ntmps37
    go_wp2_with fail
    refine (norm_at s none HR.out hs _ HT.out).mono ?_
    rintro e w1 ⟨rfl, hb⟩
    have HB := Lib.hid hb
    clear hb
    go_wp2
    go_ret
    exact ⟨rfl, HB.out⟩
  | some x =>
    rw [hr] at ht
    have HR := Lib.hid hr
    have HX : Hid (strL ((some x).getD []) = t) := Lib.hid ht
    clear hr ht
    go_enter Tryz.func37, Tryz.ntmps37
    go_wp2_with fail
    refine (norm_at s (some x) HR.out hs _ HT.out).mono ?_
    rw [HX.out]
    rintro e w1 ⟨rfl, hb⟩
    have HB := Lib.hid hb
    clear hb
    go_wp2
    go_ret
    exact ⟨rfl, HB.out⟩

/-- What is known behind the cut of the sign at the end. -/
structure Cut (p P1 : ByteArray) (wb : Bool) : Prop where
  size : P1.size ≤ p.size
  mm : ∀ s, MM (dl p) s = mb (if wb then dl P1 else dl P1 ++ [42]) s
theorem cut_suffix (p : ByteArray) : Cut p ⟨(Lib.trimSuffix p.data.toList [36]).toArray⟩ (Lib.hasSuffix p.data.toList [36]) := by
  have hd : dl ⟨(Lib.trimSuffix p.data.toList [36]).toArray⟩ = Lib.trimSuffix p.data.toList [36] := by simp [dl]
  refine ⟨?_, fun s => ?_⟩
  · have := Lib.trimSuffix_le p.data.toList [36]
    rw [Lib.size_eq, Lib.size_eq p]
    simpa using this
  · rw [hd]
    unfold MM Lib.trimSuffix dl
    cases h : Lib.hasSuffix p.data.toList [36] with
    | true =>
      have h' := List.isSuffixOf_iff_suffix.1 h
      obtain ⟨t, ht⟩ := h'
      have e1 : p.data.toList.getLast? = some 36 := by rw [← ht]; simp
      have e2 : p.data.toList.take (p.data.toList.length - ([36] : List UInt8).length) = p.data.toList.dropLast := by rw [← ht]; simp
      rw [if_pos e1, if_pos rfl, if_pos rfl, e2]
    | false =>
      have e1 : ¬ p.data.toList.getLast? = some 36 := by
        intro e
        have h3 : [36] <:+ p.data.toList := by
          obtain ⟨l, hl⟩ := List.getLast?_eq_some_iff.1 e
          exact ⟨l, hl.symm⟩
        have h4 : Lib.hasSuffix p.data.toList [36] = true := List.isSuffixOf_iff_suffix.2 h3
        rw [h4] at h
        cases h
      rw [if_neg e1]
      simp
/-- The parts that are looked for behind the first. -/
def psW (wb : Bool) (ps : List (List UInt8)) : List (List UInt8) := if wb then ps else ps ++ [[]]
theorem mm_greedy {p P1 : ByteArray} {wb : Bool} {p0 : List UInt8} {ps : List (List UInt8)} (hc : Cut p P1 wb) (hp : Parts (dl P1) p0 ps) (s : List UInt8) : MM (dl p) s = true ↔ p0 <+: s ∧ gw (psW wb ps) (s.drop p0.length) := by
  rw [hc.mm s, hp.join]
  cases wb
  · exact greedy_open hp.n0 hp.ns s
  · exact greedy_whole hp.n0 hp.ns s
theorem csuf_at (p : ByteArray) (w : World) (hp : p.size ≤ 100000) :
    Calls Tryz.prog 48 #[.string p, .string ⟨#[36]⟩] w fun e w' => ∃ P1 wb, e = .returned (.tuple #[.string P1, .bool wb]) ∧ Cut p P1 wb ∧ w = w' := by
  refine (Any.strings_CutSuffix Tryz.lays104 p ⟨#[36]⟩ w (by omega)).mono ?_
  rintro e w' ⟨rfl, rfl⟩
  exact ⟨_, _, rfl, cut_suffix p, rfl⟩
theorem split_at (p : ByteArray) (w : World) (hp : p.size ≤ 100000) (hT : TabsM w) :
    Calls Tryz.prog 49 #[.string p, .string ⟨#[42]⟩] w fun e w' => ∃ (P0 : ByteArray) (PS : List ByteArray), e = .returned (.slice (some ⟨w.heap.size, 0, none⟩) (PS.length + 1) (PS.length + 1)) ∧ Parts (dl p) (dl P0) (PS.map dl) ∧ w' = w.alloc (.cells ((P0 :: PS).map Value.string).toArray 9) := by
  obtain ⟨m, hm⟩ := hT.2
  obtain ⟨P0, PS, h1, h2, h3⟩ := splitB_parts p
  refine (Any.strings_Split Tryz.lays146 (by kernel_rfl) p ⟨#[42]⟩ m w (by omega) hm (by decide)).mono ?_
  rintro e w' ⟨rfl, rfl⟩
  refine ⟨P0, PS, ?_, h3, ?_⟩
  · rw [h2]
  · rw [h1]
    rfl
theorem cpre_at (s p : ByteArray) (w : World) :
    Calls Tryz.prog 50 #[.string s, .string p] w fun e w' => ∃ R b, e = .returned (.tuple #[.string R, .bool b]) ∧ (b = true → dl p <+: dl s ∧ dl R = (dl s).drop (dl p).length) ∧ (b = false → ¬ dl p <+: dl s) ∧ w = w' := by
  refine (Any.strings_CutPrefix Tryz.lays103 s p w).mono ?_
  rintro e w' ⟨rfl, rfl⟩
  refine ⟨_, _, rfl, fun h => ⟨List.isPrefixOf_iff_prefix.1 h, ?_⟩, fun h hp => ?_, rfl⟩
  · show (Lib.trimPrefix s.data.toList p.data.toList).toArray.toList = _
    unfold Lib.trimPrefix
    rw [if_pos h]
    rfl
  · have : Lib.hasPrefix s.data.toList p.data.toList = true := List.isPrefixOf_iff_prefix.2 hp
    rw [this] at h
    cases h
theorem cut_at (s q : ByteArray) (w : World) (hs : s.size ≤ 100000) (hT : TabsM w) :
    Calls Tryz.prog 42 #[.string s, .string q] w fun e w' => ∃ A R b, e = .returned (.tuple #[.string A, .string R, .bool b]) ∧ (b = true → 0 ≤ Lib.index (dl s) (dl q) ∧ dl R = (dl s).drop ((Lib.index (dl s) (dl q)).toNat + (dl q).length) ∧ R.size ≤ s.size) ∧ (b = false → ¬ 0 ≤ Lib.index (dl s) (dl q)) ∧ Below w.heap.size w w' := by
  obtain ⟨m, hm⟩ := hT.2
  refine (Any.strings_Cut Tryz.lays145 s q m w (by omega) hm).mono ?_
  rintro e w' ⟨rfl, n, rfl⟩
  refine ⟨_, _, _, rfl, fun h => ?_, fun h => ?_, below_drewN (Below.refl _ _) n⟩
  · unfold Lib.cut at h ⊢
    by_cases hi : 0 ≤ Lib.index s.data.toList q.data.toList
    · rw [if_pos hi]
      refine ⟨hi, rfl, ?_⟩
      show (List.toArray _).size ≤ _
      rw [List.size_toArray, List.length_drop, Lib.size_eq s]
      omega
    · rw [if_neg hi] at h
      cases h
  · unfold Lib.cut at h
    by_cases hi : 0 ≤ Lib.index s.data.toList q.data.toList
    · rw [if_pos hi] at h
      cases h
    · exact hi
theorem contains_at (s q : ByteArray) (b : Bool) (hb : decide (0 ≤ Lib.index (dl s) (dl q)) = b) (w : World) (hs : s.size ≤ 100000) (hT : TabsM w) :
    Calls Tryz.prog 52 #[.string s, .string q] w fun e w' => e = .returned (.bool b) ∧ w = w' := by
  obtain ⟨m, hm⟩ := hT.2
  refine (Any.strings_Contains Tryz.lays144 s q m w (by omega) hm).mono ?_
  rintro e w' ⟨rfl, rfl⟩
  subst hb
  exact ⟨rfl, rfl⟩
theorem hsuf_at (s q : ByteArray) (b : Bool) (hb : (dl q).isSuffixOf (dl s) = b) (w : World) (hs : s.size ≤ 100000) :
    Calls Tryz.prog 51 #[.string s, .string q] w fun e w' => e = .returned (.bool b) ∧ w = w' := by
  refine (Any.strings_HasSuffix Tryz.lays100 s q w (by omega)).mono ?_
  rintro e w' ⟨rfl, rfl⟩
  subst hb
  exact ⟨rfl, rfl⟩
end Go.Proofs.YtodlecjbpmggiaaGreatDoor
