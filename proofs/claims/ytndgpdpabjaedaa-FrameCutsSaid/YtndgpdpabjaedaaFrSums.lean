/- The law on sums, walked. -/
import Derived.Test.YtndgpdpabjaedaaFrAwake
import Derived.Test.YtndgpdpabjaedaaFrame
namespace Go.Proofs.Ytndgpdpabjaedaa
open Go.RowKit
set_option linter.unusedSimpArgs false

/-- Bytes that came in. -/
theorem rdb_of_row {w : World} {a : Option Addr} {len cap : Nat} {zs : List Int} (h : IsRow .u8 w a len cap zs) : RdB w a zs ∧ Byts zs ∧ len ≤ zs.length ∧ zs.length = cap ∧ (cap = 0 ∨ ∃ b off, a = some ⟨b, off, none⟩) ∧ cap ≤ 9223372036854775807 := by
  rcases h with ⟨rfl, rfl, rfl, rfl⟩ | ⟨x, rfl, hl, hm, hz, hc, hw⟩
  · exact ⟨Or.inl rfl, Byts.nil, by simp, rfl, Or.inl rfl, by decide⟩
  · have hb : Byts zs := fun c hc => by
      have := hw c hc
      simp [Lit.wf, IntKind.min, IntKind.max, IntKind.signed, IntKind.bits] at this
      omega
    obtain ⟨b, off, spot⟩ := x
    by_cases h0 : zs = []
    · subst h0
      simp at hz
      subst hz
      exact ⟨Or.inl rfl, Byts.nil, by simp; omega, by simp, Or.inl rfl, by decide⟩
    · have h1 := hc 0 (List.length_pos_iff.2 h0)
      have hspot : spot = none := by simpa [Addr.add] using World.cell?_spot h1
      subst hspot
      refine ⟨Or.inr ⟨b, off, rfl, fun i c hi => ?_⟩, hb, by omega, hz, Or.inr ⟨b, off, rfl⟩, hm⟩
      have hlt := (List.getElem?_eq_some_iff.1 hi).1
      have := hc i hlt
      rw [Go.WideShapes.add_plain, List.getD_eq_getElem?_getD, hi] at this
      exact this

set_option maxHeartbeats 1000000 in
theorem frameSums_walk (a : Option Addr) (len cap : Nat) (zs : List Int) (w : World) (hrow : IsRow .u8 w a len cap zs) :
    Calls Try.prog 5 #[.slice a len cap] w fun e w' => e = .returned (.bool true) ∧ Below w.heap.size w w' := by
  obtain ⟨hr, hb, hl, hz, _, hm⟩ := rdb_of_row hrow
  have HR := Lib.hid hr
  have HB := Lib.hid hb
  have hlc : len ≤ cap := by omega
  clear hrow hr hb
  by_cases h : 2000 < len
  · have hd : decide (2000 < (len : Int)) = true := decide_eq_true (by omega)
    have HL : Hid ((zs.take 2000).length = 2000) := Lib.hid (by rw [List.length_take]; omega)
    clear hz hl
    go_enter Try.func5, Try.ntmps5
    go_wp2_with fail
    refine (awake14 _).mono ?_
    rintro e w1 ⟨rfl, hb1⟩
    go_wp2_with fail
    refine (sum_as (zs.take 2000) 2000 _ _ _ _ ((HR.out.later hb1).take 2000) HL.out (HB.out.take 2000) (by decide) rfl).mono ?_
    rintro e w' ⟨rfl, rfl⟩
    go_wp2_with fail
    refine (rsum_as (zs.take 2000) 2000 _ _ _ _ ((HR.out.later hb1).take 2000) HL.out (HB.out.take 2000) (by decide) rfl).mono ?_
    rintro e w' ⟨rfl, rfl⟩
    go_wp2_with fail
    go_ret
    exact ⟨rfl, hb1⟩
  · have hd : decide (2000 < (len : Int)) = false := decide_eq_false (by omega)
    have HL : Hid ((zs.take len).length = len) := Lib.hid (by rw [List.length_take]; omega)
    clear hz hl
    go_enter Try.func5, Try.ntmps5
    go_wp2_with fail
    refine (awake14 _).mono ?_
    rintro e w1 ⟨rfl, hb1⟩
    go_wp2_with fail
    refine (sum_as (zs.take len) len _ _ _ _ ((HR.out.later hb1).take len) HL.out (HB.out.take len) (by omega) rfl).mono ?_
    rintro e w' ⟨rfl, rfl⟩
    go_wp2_with fail
    refine (rsum_as (zs.take len) len _ _ _ _ ((HR.out.later hb1).take len) HL.out (HB.out.take len) (by omega) rfl).mono ?_
    rintro e w' ⟨rfl, rfl⟩
    go_wp2_with fail
    go_ret
    exact ⟨rfl, hb1⟩
end Go.Proofs.Ytndgpdpabjaedaa
