/- Package url: the fixed fact. -/
import Derived.Test.YtcdodpkfhkfnkaaDoorUrKy
namespace Go.Proofs.YtcdodpkfhkfnkaaDoor
open Go.RowKit
set_option linter.unusedVariables false
set_option linter.unusedSimpArgs false
set_option maxRecDepth 10000

theorem parse_any (s : ByteArray) (r : PR) (hr : parI (btL s) = r) (w : World) (hT : TabsU w) :
    Calls Tryd.prog 22 #[.string s] w fun e w' => e = .returned (prV r) ∧ Below w.heap.size w w' := by
  by_cases h : s.size ≤ 256
  · exact parse_at s r hr h w hT.1
  · have : PR.over = r := by
      rw [← hr]
      unfold parI
      rw [if_pos (by rw [btL_length]; omega)]
    rw [← this]
    exact parse_over s (by omega) w
theorem rparse_any (s : ByteArray) (r : PR) (hr : parI (btL s) = r) (w : World) :
    Calls Tryd.prog 23 #[.string s] w fun e w' => e = .returned (prV r) ∧ Below w.heap.size w w' := by
  by_cases h : s.size ≤ 256
  · cases hsc : schA (btL s) with
    | none =>
      have : PR.form = r := by
        rw [← hr]
        unfold parI
        rw [if_neg (by rw [btL_length]; omega), hsc]
      rw [← this]
      exact rparse_none s hsc h w
    | some q => exact rparse_some s r q.1 q.2 hsc hr h w
  · have : PR.over = r := by
      rw [← hr]
      unfold parI
      rw [if_pos (by rw [btL_length]; omega)]
    rw [← this]
    exact rparse_over s (by omega) w
def awS : ByteArray := ⟨#[72, 84, 84, 80, 58, 47, 47, 69, 120, 46, 67, 79, 77, 58, 56, 48, 56, 48, 47, 97, 47, 46, 46, 47, 37, 55, 101, 98, 63, 113, 61, 49, 35, 120]⟩
theorem aw_one : parI (btL awS) = .ok false [101, 120, 46, 99, 111, 109] 8080 [47, 126, 98] [113, 61, 49] true := by kernel_rfl
theorem aw_two : parI (btL ⟨#[102, 116, 112, 58, 47, 47, 97]⟩) = .form := by kernel_rfl
theorem aw_three : parI (btL ⟨#[104, 116, 116, 112, 58, 47, 47, 45, 97, 47]⟩) = .host := by kernel_rfl
theorem aw_key : keyB ⟨#[104, 116, 116, 112]⟩ ⟨#[101, 120, 46, 99, 111, 109]⟩ 8080 = ⟨#[104, 116, 116, 112, 58, 47, 47, 101, 120, 46, 99, 111, 109, 58, 56, 48, 56, 48]⟩ := by
  have h : decD 8080 = [56, 48, 56, 48] := by simp [decD]
  unfold keyB
  rw [h]
  decide +kernel
theorem aw_tgt : tgtB ⟨#[47, 126, 98]⟩ ⟨#[113, 61, 49]⟩ true = ⟨#[47, 126, 98, 63, 113, 61, 49]⟩ := by decide +kernel
set_option maxHeartbeats 2000000 in
theorem awake_at (w : World) (hT : TabsU w) :
    Calls Tryd.prog 24 #[] w fun e w' => e = .returned (.bool true) ∧ Below w.heap.size w w' := by
  have HT := Lib.hid hT
  clear hT
  have P1 : Hid (∀ W : World, TabsU W → Calls Tryd.prog 22 #[.string awS] W fun e w' => e = .returned (.tuple #[.agg #[.string ⟨#[104, 116, 116, 112]⟩, .string ⟨#[101, 120, 46, 99, 111, 109]⟩, .int .i64 8080, .string ⟨#[47, 126, 98]⟩, .string ⟨#[113, 61, 49]⟩, .bool true], .int .i64 0]) ∧ Below W.heap.size W w') := Lib.hid (fun W hW => parse_any _ _ aw_one W hW)
  have P2 : Hid (∀ W : World, TabsU W → Calls Tryd.prog 22 #[.string ⟨#[102, 116, 112, 58, 47, 47, 97]⟩] W fun e w' => e = .returned (.tuple #[.agg #[.string ⟨#[]⟩, .string ⟨#[]⟩, .int .i64 0, .string ⟨#[]⟩, .string ⟨#[]⟩, .bool false], .int .i64 2]) ∧ Below W.heap.size W w') := Lib.hid (fun W hW => parse_any _ _ aw_two W hW)
  have P3 : Hid (∀ W : World, TabsU W → Calls Tryd.prog 22 #[.string ⟨#[104, 116, 116, 112, 58, 47, 47, 45, 97, 47]⟩] W fun e w' => e = .returned (.tuple #[.agg #[.string ⟨#[]⟩, .string ⟨#[]⟩, .int .i64 0, .string ⟨#[]⟩, .string ⟨#[]⟩, .bool false], .int .i64 11]) ∧ Below W.heap.size W w') := Lib.hid (fun W hW => parse_any _ _ aw_three W hW)
  go_enter Tryd.func24, Tryd.ntmps24
  go_wp2_with fail
  refine (P1.out _ HT.out).mono ?_
  rintro e w1 ⟨rfl, hb1⟩
  have B1 := Lib.hid hb1
  have T1 := Lib.hid (HT.out.later hb1)
  clear hb1
  go_wp2_with fail
  obtain ⟨g, hg⟩ : ∃ g, w1.heap.size = g := ⟨_, rfl⟩
  rw [hg]
  have HG := Lib.hid hg
  refine calls_forget (fun w2 => Hid (Box w2 g #[.string ⟨#[104, 116, 116, 112]⟩, .string ⟨#[101, 120, 46, 99, 111, 109]⟩, .int .i64 8080, .string ⟨#[47, 126, 98]⟩, .string ⟨#[113, 61, 49]⟩, .bool true] 41) ∧ Hid (TabsU w2) ∧ Hid (Below w.heap.size w w2)) ⟨Lib.hid (box_new_at hg.symm), Lib.hid (T1.out.later ((Below.refl _ _).alloc (Nat.le_refl _) _)), Lib.hid (B1.out.alloc B1.out.size _)⟩ ?_
  clear hg
  rintro w2 ⟨X2, T2, B2⟩
  clear T1 B1
  refine (P2.out _ T2.out).mono ?_
  rintro e w3 ⟨rfl, hb3⟩
  have X3 := Lib.hid (X2.out.later hb3)
  have T3 := Lib.hid (T2.out.later hb3)
  have B3 := Lib.hid (B2.out.trans (hb3.mono B2.out.size))
  clear hb3 X2 T2 B2
  go_wp2_with fail
  refine calls_forget (fun w4 => Hid (Box w4 g #[.string ⟨#[104, 116, 116, 112]⟩, .string ⟨#[101, 120, 46, 99, 111, 109]⟩, .int .i64 8080, .string ⟨#[47, 126, 98]⟩, .string ⟨#[113, 61, 49]⟩, .bool true] 41) ∧ Hid (TabsU w4) ∧ Hid (Below w.heap.size w w4)) ⟨Lib.hid (X3.out.alloc _), Lib.hid (T3.out.later ((Below.refl _ _).alloc (Nat.le_refl _) _)), Lib.hid (B3.out.alloc B3.out.size _)⟩ ?_
  rintro w4 ⟨X4, T4, B4⟩
  clear X3 T3 B3
  refine (P3.out _ T4.out).mono ?_
  rintro e w5 ⟨rfl, hb5⟩
  have X5 := Lib.hid (X4.out.later hb5)
  have T5 := Lib.hid (T4.out.later hb5)
  have B5 := Lib.hid (B4.out.trans (hb5.mono B4.out.size))
  clear hb5 X4 T4 B4
  obtain ⟨t1, ht1⟩ : ∃ t, keyB ⟨#[104, 116, 116, 112]⟩ ⟨#[101, 120, 46, 99, 111, 109]⟩ 8080 = t := ⟨_, rfl⟩
  obtain ⟨t2, ht2⟩ : ∃ t, tgtB ⟨#[47, 126, 98]⟩ ⟨#[113, 61, 49]⟩ true = t := ⟨_, rfl⟩
  have v1 : t1.toList = [104, 116, 116, 112, 58, 47, 47, 101, 120, 46, 99, 111, 109, 58, 56, 48, 56, 48] := by rw [← ht1, aw_key, Lib.toList_data]
  have v2 : t2.toList = [47, 126, 98, 63, 113, 61, 49] := by rw [← ht2, aw_tgt, Lib.toList_data]
  obtain ⟨t3, ht3⟩ : ∃ t, t1 ++ t2 = t := ⟨_, rfl⟩
  have v3 : t3.toList = [104, 116, 116, 112, 58, 47, 47, 101, 120, 46, 99, 111, 109, 58, 56, 48, 56, 48, 47, 126, 98, 63, 113, 61, 49] := by rw [← ht3, ← ht1, ← ht2, aw_key, aw_tgt, Lib.toList_data]; decide +kernel
  have C1 : Hid (∀ W : World, TabsU W → Calls Tryd.prog 29 #[.agg #[.string ⟨#[104, 116, 116, 112]⟩, .string ⟨#[101, 120, 46, 99, 111, 109]⟩, .int .i64 8080, .string ⟨#[47, 126, 98]⟩, .string ⟨#[113, 61, 49]⟩, .bool true]] W fun e w' => e = .returned (.string t3) ∧ Below W.heap.size W w') := Lib.hid (fun W hW => by
    have := string_at _ _ _ _ _ _ 8080 true ht1 ht2 (by decide) (by decide) (by decide) (by decide) (by decide) W hW
    rw [ht3] at this
    exact this)
  have C2 : Hid (∀ W : World, TabsU W → Calls Tryd.prog 25 #[.agg #[.string ⟨#[104, 116, 116, 112]⟩, .string ⟨#[101, 120, 46, 99, 111, 109]⟩, .int .i64 8080, .string ⟨#[47, 126, 98]⟩, .string ⟨#[113, 61, 49]⟩, .bool true]] W fun e w' => e = .returned (.string t1) ∧ Below W.heap.size W w') := Lib.hid (fun W hW => key_at _ _ _ _ _ 8080 true ht1 (by decide) (by decide) (by decide) W hW)
  have C3 : Hid (∀ W : World, Calls Tryd.prog 27 #[.agg #[.string ⟨#[104, 116, 116, 112]⟩, .string ⟨#[101, 120, 46, 99, 111, 109]⟩, .int .i64 8080, .string ⟨#[47, 126, 98]⟩, .string ⟨#[113, 61, 49]⟩, .bool true]] W fun e w' => e = .returned (.string t2) ∧ Below W.heap.size W w') := Lib.hid (fun W => target_at _ _ _ _ _ 8080 true ht2 (by decide) (by decide) W)
  clear ht1 ht2 ht3
  obtain ⟨⟨c0, c1, c2, c3, c4, c5⟩, ⟨f0, f1, f2, f3, f4, f5⟩, lt⟩ := box6 X5.out
  go_wp2_with fail
  refine calls_forget (fun w6 => Hid (Box w6 g #[.string ⟨#[104, 116, 116, 112]⟩, .string ⟨#[101, 120, 46, 99, 111, 109]⟩, .int .i64 8080, .string ⟨#[47, 126, 98]⟩, .string ⟨#[113, 61, 49]⟩, .bool true] 41) ∧ Hid (TabsU w6) ∧ Hid (Below w.heap.size w w6)) ⟨Lib.hid (X5.out.alloc _), Lib.hid (T5.out.later ((Below.refl _ _).alloc (Nat.le_refl _) _)), Lib.hid (B5.out.alloc B5.out.size _)⟩ ?_
  rintro w6 ⟨X6, T6, B6⟩
  clear X5 T5 B5 c0 c1 c2 c3 c4 c5 f0 f1 f2 f3 f4 f5 lt
  refine (C1.out _ T6.out).mono ?_
  rintro e w7 ⟨rfl, hb7⟩
  have X7 := Lib.hid (X6.out.later hb7)
  have T7 := Lib.hid (T6.out.later hb7)
  have B7 := Lib.hid (B6.out.trans (hb7.mono B6.out.size))
  clear hb7 X6 T6 B6
  obtain ⟨⟨c0, c1, c2, c3, c4, c5⟩, ⟨f0, f1, f2, f3, f4, f5⟩, lt⟩ := box6 X7.out
  go_wp2_with fail
  clear c0 c1 c2 c3 c4 c5 f0 f1 f2 f3 f4 f5 lt
  refine (C2.out _ T7.out).mono ?_
  rintro e w8 ⟨rfl, hb8⟩
  have X8 := Lib.hid (X7.out.later hb8)
  have B8 := Lib.hid (B7.out.trans (hb8.mono B7.out.size))
  clear hb8 X7 T7 B7
  obtain ⟨⟨c0, c1, c2, c3, c4, c5⟩, ⟨f0, f1, f2, f3, f4, f5⟩, lt⟩ := box6 X8.out
  go_wp2_with fail
  clear c0 c1 c2 c3 c4 c5 f0 f1 f2 f3 f4 f5 lt
  refine (C3.out _).mono ?_
  rintro e w9 ⟨rfl, hb9⟩
  have B9 := Lib.hid (B8.out.trans (hb9.mono B8.out.size))
  clear hb9 X8 B8
  go_wp2
  go_ret
  exact ⟨rfl, B9.out⟩
end Go.Proofs.YtcdodpkfhkfnkaaDoor
