/- Package match: the fixed fact; a text cut at a hundred. -/
import Derived.Test.YtcedckkmdpecmaaDoorMtAllow
namespace Go.Proofs.YtcedckkmdpecmaaDoor
open Go.RowKit
set_option linter.unusedVariables false
set_option linter.unusedSimpArgs false

instance (rs : List Rl) (path : ByteArray) : Decidable (allowP rs path) := by
  unfold allowP
  exact inferInstance
def c100 (s : ByteArray) : ByteArray := if 100 < s.size then s.extract 0 100 else s
theorem c100_size (s : ByteArray) : (c100 s).size ≤ 100 := by
  unfold c100
  split
  · rw [ByteArray.size_extract]; omega
  · omega
theorem cut10_at (s t : ByteArray) (ht : c100 s = t) (hs : s.size ≤ maxLen) (w : World) :
    Calls Tryd.prog 19 #[.string s] w fun e w' => e = .returned (.string t) ∧ w = w' := by
  unfold maxLen at hs
  by_cases h : 100 < s.size
  · have he : s.extract 0 100 = t := by rw [← ht]; exact (if_pos h).symm
    have HE := Lib.hid he
    clear ht he
    go_enter Tryd.func19, Tryd.ntmps19
    go_wp2
    go_ret
    rw [← HE.out]
    exact ⟨rfl, rfl⟩
  · have he : s = t := by rw [← ht]; exact (if_neg h).symm
    subst he
    clear ht
    go_enter Tryd.func19, Tryd.ntmps19
    go_wp2
    go_ret
    exact ⟨rfl, rfl⟩
set_option maxHeartbeats 4000000 in
set_option maxRecDepth 100000 in
theorem awake10_at (w : World) (hT : TabsM w) :
    Calls Tryd.prog 20 #[] w fun e w' => e = .returned (.bool true) ∧ Below w.heap.size w w' := by
  have HT := Lib.hid hT
  clear hT
  go_enter Tryd.func20, Tryd.ntmps20
  go_wp2_with fail
  refine (match_at _ _ ⟨#[47, 97, 42, 98, 36]⟩ ⟨#[47, 97, 120, 120, 98]⟩ true (by decide +kernel) (by decide +kernel) (by decide +kernel) (by decide) (by decide) _ HT.out).mono ?_
  rintro e w1 ⟨rfl, hb1⟩
  have T1 := Lib.hid (HT.out.later hb1)
  have B1 := Lib.hid hb1
  clear hb1
  go_wp2_with fail
  refine (match_at _ _ ⟨#[47, 97, 42, 98, 36]⟩ ⟨#[47, 97, 120, 120, 98, 99]⟩ false (by decide +kernel) (by decide +kernel) (by decide +kernel) (by decide) (by decide) _ T1.out).mono ?_
  rintro e w2 ⟨rfl, hb2⟩
  have T2 := Lib.hid (T1.out.later hb2)
  have B2 := Lib.hid (B1.out.trans (hb2.mono B1.out.size))
  clear hb2
  go_wp2_with fail
  refine (match_at _ _ ⟨#[47, 97]⟩ ⟨#[47, 97, 98]⟩ true (by decide +kernel) (by decide +kernel) (by decide +kernel) (by decide) (by decide) _ T2.out).mono ?_
  rintro e w3 ⟨rfl, hb3⟩
  have T3 := Lib.hid (T2.out.later hb3)
  have B3 := Lib.hid (B2.out.trans (hb3.mono B2.out.size))
  clear hb3
  go_wp2_with fail
  have bx := Box.new w3 (flatL [⟨false, ⟨#[47]⟩⟩, ⟨true, ⟨#[47, 97]⟩⟩]).toArray 34
  have A3 := Lib.hid (T3.out.later ((Below.refl w3.heap.size w3).alloc (Nat.le_refl _) (.cells (flatL [⟨false, ⟨#[47]⟩⟩, ⟨true, ⟨#[47, 97]⟩⟩]).toArray 34)))
  have C3 := Lib.hid (B3.out.alloc B3.out.size (.cells (flatL [⟨false, ⟨#[47]⟩⟩, ⟨true, ⟨#[47, 97]⟩⟩]).toArray 34))
  refine (allowed_at [⟨false, ⟨#[47]⟩⟩, ⟨true, ⟨#[47, 97]⟩⟩] _ 2 _ _ ⟨#[47, 97, 98]⟩ true (by decide +kernel) ?al _ rfl (rdr_box bx) (by decide) ?sz (by decide) A3.out).mono ?_
  case al => decide +kernel
  case sz => decide +kernel
  rintro e w4 ⟨rfl, hb4⟩
  have T4 := Lib.hid (A3.out.later hb4)
  have B4 := Lib.hid (C3.out.trans (hb4.mono C3.out.size))
  clear hb4 bx
  go_wp2_with fail
  have bx := Box.new w4 (flatL [⟨false, ⟨#[47]⟩⟩]).toArray 34
  have A4 := Lib.hid (T4.out.later ((Below.refl w4.heap.size w4).alloc (Nat.le_refl _) (.cells (flatL [⟨false, ⟨#[47]⟩⟩]).toArray 34)))
  have C4 := Lib.hid (B4.out.alloc B4.out.size (.cells (flatL [⟨false, ⟨#[47]⟩⟩]).toArray 34))
  refine (allowed_at [⟨false, ⟨#[47]⟩⟩] _ 1 _ _ ⟨#[47, 120]⟩ false (by decide +kernel) ?al _ rfl (rdr_box bx) (by decide) ?sz (by decide) A4.out).mono ?_
  case al => decide +kernel
  case sz => decide +kernel
  rintro e w5 ⟨rfl, hb5⟩
  have B5 := Lib.hid (C4.out.trans (hb5.mono C4.out.size))
  clear hb5 bx
  go_wp2_with fail
  refine (rmatch_at _ _ ⟨#[]⟩ ⟨#[]⟩ true (by decide +kernel) (by decide +kernel) (by decide +kernel) (by decide) (by decide) _).mono ?_
  rintro e w6 ⟨rfl, hb6⟩
  have B6 := Lib.hid (B5.out.trans (hb6.mono B5.out.size))
  clear hb6
  go_wp2
  go_ret
  exact ⟨rfl, B6.out⟩
set_option maxHeartbeats 1000000 in
theorem matchAny_walk (p0 s0 : ByteArray) (w : World) (wp : p0.size ≤ maxLen) (ws : s0.size ≤ maxLen) (hT : TabsM w) :
    Calls Tryd.prog 9 #[.string p0, .string s0] w fun e w' => e = .returned (.bool true) ∧ Below w.heap.size w w' := by
  have HT := Lib.hid hT
  obtain ⟨p, hp⟩ : ∃ p, c100 p0 = p := ⟨_, rfl⟩
  obtain ⟨s, hs⟩ : ∃ p, c100 s0 = p := ⟨_, rfl⟩
  have zp : p.size ≤ 100 := by rw [← hp]; exact c100_size p0
  have zs : s.size ≤ 100 := by rw [← hs]; exact c100_size s0
  obtain ⟨p', hp'⟩ : ∃ x, nfB p = x := ⟨_, rfl⟩
  obtain ⟨s', hs'⟩ : ∃ x, nfB s = x := ⟨_, rfl⟩
  obtain ⟨b, hb⟩ : ∃ x, MM (dl p') (dl s') = x := ⟨_, rfl⟩
  have H1 := Lib.hid hp
  have H2 := Lib.hid hs
  have H3 := Lib.hid hp'
  have H4 := Lib.hid hs'
  have H5 := Lib.hid hb
  have W1 := Lib.hid wp
  have W2 := Lib.hid ws
  clear hT hp hs hp' hs' hb wp ws
  go_enter Tryd.func9, Tryd.ntmps9
  go_wp2_with fail
  refine (cut10_at p0 p H1.out W1.out _).mono ?_
  rintro e w' ⟨rfl, rfl⟩
  go_wp2_with fail
  refine (cut10_at s0 s H2.out W2.out _).mono ?_
  rintro e w' ⟨rfl, rfl⟩
  go_wp2_with fail
  refine (awake10_at _ HT.out).mono ?_
  rintro e w1 ⟨rfl, hb1⟩
  have T1 := Lib.hid (HT.out.later hb1)
  have B1 := Lib.hid hb1
  clear hb1
  go_wp2_with fail
  refine (match_at p s p' s' b H3.out H4.out H5.out (by omega) (by omega) _ T1.out).mono ?_
  rintro e w2 ⟨rfl, hb2⟩
  have B2 := Lib.hid (B1.out.trans (hb2.mono B1.out.size))
  clear hb2
  go_wp2_with fail
  refine (rmatch_at p s p' s' b H3.out H4.out H5.out (by omega) (by omega) _).mono ?_
  rintro e w3 ⟨rfl, hb3⟩
  have B3 := Lib.hid (B2.out.trans (hb3.mono B2.out.size))
  clear hb3
  cases b
  all_goals
    go_wp2
    go_ret
    exact ⟨rfl, B3.out⟩
end Go.Proofs.YtcedckkmdpecmaaDoor
