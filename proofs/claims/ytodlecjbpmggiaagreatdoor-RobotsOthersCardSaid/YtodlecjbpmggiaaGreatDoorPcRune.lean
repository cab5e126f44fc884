/- Package pct: which runes are kept; strings.IndexRune and ContainsRune over the kept signs, at every rune. -/
import Derived.Test.YtodlecjbpmggiaaGreatDoorPcFn
import Derived.BigQuiet
import Derived.Deep.RegionWith
import Derived.WalkMore
import Derived.Deep.QuietTactic
namespace Go.Proofs.YtodlecjbpmggiaaGreatDoor
open Go.RowKit
set_option linter.unusedVariables false
set_option linter.unusedSimpArgs false

theorem indexByte_none {l : List UInt8} {b : UInt8} (h : b ∉ l) : Lib.indexByte l b = -1 := by
  induction l with
  | nil => rfl
  | cons x l ih =>
    have hx : (x == b) = false := beq_eq_false_iff_ne.2 (fun e => h (by simp [e]))
    have hl := ih (fun e => h (by simp [e]))
    simp [Lib.indexByte, hx, hl]
theorem indexByte_some {l : List UInt8} {b : UInt8} (h : b ∈ l) : 0 ≤ Lib.indexByte l b := by
  induction l with
  | nil => cases h
  | cons x l ih =>
    unfold Lib.indexByte
    by_cases hx : x = b
    · simp [hx]
    · have hx' : (x == b) = false := beq_eq_false_iff_ne.2 hx
      rw [if_neg (by simp [hx'])]
      have := ih (by rcases List.mem_cons.1 h with e | e; exact absurd e.symm hx; exact e)
      split
      · rename_i h1
        rw [beq_iff_eq] at h1
        omega
      · omega
theorem crune_low (c : Int) (b : Bool) (hb : resI c = b) (h0 : 0 ≤ c) (h1 : c < 128) (w : World) :
    Calls Tryz.prog 83 #[.string ⟨#[33, 36, 38, 39, 40, 41, 42, 43, 44, 59, 61, 58, 64, 47, 63, 91, 93]⟩, .int .i32 c] w fun e w' => e = .returned (.bool b) ∧ w = w' := by
  refine (Any.strings_ContainsRune_ascii Tryz.lays151 ⟨#[33, 36, 38, 39, 40, 41, 42, 43, 44, 59, 61, 58, 64, 47, 63, 91, 93]⟩ c w h0 h1).mono ?_
  rintro e w' ⟨rfl, rfl⟩
  refine ⟨ret_bool ?_, rfl⟩
  rw [← hb, ← res_mem c]
  have hm : c ∈ btL ({ data := #[33, 36, 38, 39, 40, 41, 42, 43, 44, 59, 61, 58, 64, 47, 63, 91, 93] } : ByteArray) ↔ c.toNat.toUInt8 ∈ ({ data := #[33, 36, 38, 39, 40, 41, 42, 43, 44, 59, 61, 58, 64, 47, 63, 91, 93] } : ByteArray).data.toList := by
    unfold btL
    rw [List.mem_map]
    constructor
    · rintro ⟨x, hx, rfl⟩
      simpa using hx
    · intro hx
      refine ⟨_, hx, ?_⟩
      show ((UInt8.ofNat c.toNat).toNat : Int) = c
      simp
      omega
  by_cases h : c.toNat.toUInt8 ∈ ({ data := #[33, 36, 38, 39, 40, 41, 42, 43, 44, 59, 61, 58, 64, 47, 63, 91, 93] } : ByteArray).data.toList
  · rw [decide_eq_true (hm.2 h)]
    exact decide_eq_true (indexByte_some h)
  · rw [decide_eq_false (fun e => h (hm.1 e)), indexByte_none h]
    decide
theorem below_drewN {B : Nat} {a w : World} (h : Below B a w) (n : Nat) : Below B a (w.drewN n) := ⟨h.os, h.tape, h.output, h.size, h.block⟩
def encN (c : Nat) : ByteArray :=
  if c < 0x80 then ⟨#[UInt8.ofNat c]⟩
  else if c < 0x800 then ⟨#[UInt8.ofNat (0xC0 + c / 64), UInt8.ofNat (0x80 + c % 64)]⟩
  else if c < 0x10000 then ⟨#[UInt8.ofNat (0xE0 + c / 4096), UInt8.ofNat (0x80 + c / 64 % 64), UInt8.ofNat (0x80 + c % 64)]⟩
  else ⟨#[UInt8.ofNat (0xF0 + c / 262144), UInt8.ofNat (0x80 + c / 4096 % 64), UInt8.ofNat (0x80 + c / 64 % 64), UInt8.ofNat (0x80 + c % 64)]⟩
theorem hi_byte (n : Nat) : 128 ≤ ((UInt8.ofNat (0x80 + n % 64)).toNat : Int) := by
  simp
  omega
theorem encN_facts (c : Nat) (h : 128 ≤ c) : 2 ≤ (encN c).size ∧ (encN c).size ≤ 4 ∧ ∀ (i : Nat) (hi : i < (encN c).size), 0 < i → 128 ≤ ((encN c)[i].toNat : Int) := by
  have aux : ∀ (b : ByteArray), (2 ≤ b.size ∧ b.size ≤ 4 ∧ ∀ (i : Nat) (hi : i < b.size), 0 < i → 128 ≤ ((b[i]'hi).toNat : Int)) → b = encN c → 2 ≤ (encN c).size ∧ (encN c).size ≤ 4 ∧ ∀ (i : Nat) (hi : i < (encN c).size), 0 < i → 128 ≤ ((encN c)[i].toNat : Int) := by
    rintro b hb rfl
    exact hb
  by_cases h1 : c < 0x800
  · refine aux ⟨#[UInt8.ofNat (0xC0 + c / 64), UInt8.ofNat (0x80 + c % 64)]⟩ ⟨by show 2 ≤ 2; omega, by show 2 ≤ 4; omega, fun i hi h0 => ?_⟩ (by unfold encN; rw [if_neg (by omega), if_pos h1])
    have hi' : i < 2 := hi
    match i, hi', h0 with
    | 1, _, _ => exact hi_byte c
  · by_cases h2 : c < 0x10000
    · refine aux ⟨#[UInt8.ofNat (0xE0 + c / 4096), UInt8.ofNat (0x80 + c / 64 % 64), UInt8.ofNat (0x80 + c % 64)]⟩ ⟨by show 2 ≤ 3; omega, by show 3 ≤ 4; omega, fun i hi h0 => ?_⟩ (by unfold encN; rw [if_neg (by omega), if_neg h1, if_pos h2])
      have hi' : i < 3 := hi
      match i, hi', h0 with
      | 1, _, _ => exact hi_byte (c / 64)
      | 2, _, _ => exact hi_byte c
    · refine aux ⟨#[UInt8.ofNat (0xF0 + c / 262144), UInt8.ofNat (0x80 + c / 4096 % 64), UInt8.ofNat (0x80 + c / 64 % 64), UInt8.ofNat (0x80 + c % 64)]⟩ ⟨by show 2 ≤ 4; omega, by show 4 ≤ 4; omega, fun i hi h0 => ?_⟩ (by unfold encN; rw [if_neg (by omega), if_neg h1, if_neg h2])
      have hi' : i < 4 := hi
      match i, hi', h0 with
      | 1, _, _ => exact hi_byte (c / 4096)
      | 2, _, _ => exact hi_byte (c / 64)
      | 3, _, _ => exact hi_byte c
theorem enc_facts (c : Int) (h : 128 ≤ c) : 2 ≤ (Utf8.encode c).size ∧ (Utf8.encode c).size ≤ 4 ∧ ∀ (i : Nat) (hi : i < (Utf8.encode c).size), 0 < i → 128 ≤ ((Utf8.encode c)[i].toNat : Int) := by
  have : Utf8.encode c = encN (if Utf8.valid c then c.toNat else Utf8.runeError) := rfl
  rw [this]
  refine encN_facts _ ?_
  split
  · omega
  · decide
theorem ibyte_none (s : ByteArray) (y : Int) (w : World) (hs : ∀ x ∈ s.data.toList, x.toNat < 128) (h : 128 ≤ y) (h2 : y < 256) :
    Calls Tryz.prog 118 #[.string s, .int .u8 y] w fun e w' => e = .returned (.int .i64 (-1)) ∧ w' = w := by
  refine (Any.strings_IndexByte Tryz.lays137 s y w).mono ?_
  rintro e w' ⟨rfl, rfl⟩
  rw [indexByte_none (fun hm => by
    have h1 := hs _ hm
    have h2 : (UInt8.ofNat y.toNat).toNat = y.toNat := by simp; omega
    have h3 : (y.toNat.toUInt8).toNat = y.toNat := h2
    omega)]
  exact ⟨rfl, rfl⟩
theorem res_ascii (k : Nat) (h : k < 17) : (({ data := #[33, 36, 38, 39, 40, 41, 42, 43, 44, 59, 61, 58, 64, 47, 63, 91, 93] } : ByteArray)[k]'h).toNat < 128 := by
  have : ∀ i : Fin 17, (({ data := #[33, 36, 38, 39, 40, 41, 42, 43, 44, 59, 61, 58, 64, 47, 63, 91, 93] } : ByteArray)[i.val]'i.isLt).toNat < 128 := by decide
  exact this ⟨k, h⟩
set_option maxHeartbeats 4000000 in
set_option maxRecDepth 100000 in
theorem irune_err (w : World) :
    Calls Tryz.prog 106 #[.string ⟨#[33, 36, 38, 39, 40, 41, 42, 43, 44, 59, 61, 58, 64, 47, 63, 91, 93]⟩, .int .i32 65533] w fun e w' => e = .returned (.int .i64 (-1)) ∧ Below w.heap.size w w' := by
  go_enter Tryz.func106, Tryz.ntmps106
  go_wp2
  go_loopw [5, 6] (fun _ _ wr => ∃ pos : Nat, pos ≤ 17 ∧ wr = w.iter ({ data := #[33, 36, 38, 39, 40, 41, 42, 43, 44, 59, 61, 58, 64, 47, 63, 91, 93] } : ByteArray) pos) (fun _ _ wr => 17 - wr.iterPos w.heap.size)
  case atStart => exact ⟨0, by omega, rfl⟩
  case round =>
    obtain ⟨pos, hp, rfl⟩ := hrel
    by_cases hlt : pos < 17
    · have hlt' : pos < ({ data := #[33, 36, 38, 39, 40, 41, 42, 43, 44, 59, 61, 58, 64, 47, 63, 91, 93] } : ByteArray).size := hlt
      have ha := res_ascii pos hlt
      obtain ⟨ch, hch⟩ : ∃ x : Int, ((({ data := #[33, 36, 38, 39, 40, 41, 42, 43, 44, 59, 61, 58, 64, 47, 63, 91, 93] } : ByteArray)[pos]'hlt).toNat : Int) = x := ⟨_, rfl⟩
      have hc : (ch == 65533) = false := beq_eq_false_iff_ne.2 (by omega)
      have hnx := fun ty => run_next_ascii (P := Tryz.prog) w ({ data := #[33, 36, 38, 39, 40, 41, 42, 43, 44, 59, 61, 58, 64, 47, 63, 91, 93] } : ByteArray) pos ty hlt' ha
      go_wp2
      go_roundw
      case rel => exact ⟨pos + 1, by omega, rfl⟩
      case measure => simp; omega
    · have hnx := fun ty => run_next_end (P := Tryz.prog) w ({ data := #[33, 36, 38, 39, 40, 41, 42, 43, 44, 59, 61, 58, 64, 47, 63, 91, 93] } : ByteArray) pos ty hlt
      go_wp2
      go_ret
      exact ⟨rfl, (Below.refl _ _).alloc (Nat.le_refl _) _⟩
set_option maxHeartbeats 4000000 in
set_option maxRecDepth 100000 in
theorem irune_high (c : Int) (h : 128 ≤ c) (h2 : c ≤ 2147483647) (hne : c ≠ 65533) (w : World) :
    Calls Tryz.prog 106 #[.string ⟨#[33, 36, 38, 39, 40, 41, 42, 43, 44, 59, 61, 58, 64, 47, 63, 91, 93]⟩, .int .i32 c] w fun e w' => e = .returned (.int .i64 (-1)) ∧ Below w.heap.size w w' := by
  have n1 : ¬ c < 128 := by omega
  have hb : (c == 65533) = false := beq_eq_false_iff_ne.2 hne
  clear hne
  go_enter Tryz.func106, Tryz.ntmps106
  go_wp2_with fail
  refine (Any.utf8_ValidRune Tryz.lays119 c _).mono ?_
  rintro e w' ⟨rfl, rfl⟩
  obtain ⟨vb, hvb⟩ : ∃ vb, Lib.validRune c = vb := ⟨_, rfl⟩
  rw [hvb]
  clear hvb
  cases vb
  · go_wp2
    go_ret
    exact ⟨rfl, Below.refl _ _⟩
  · obtain ⟨e1, e2, e3⟩ := enc_facts c h
    obtain ⟨rs, hrs⟩ : ∃ rs, Utf8.encode c = rs := ⟨_, rfl⟩
    rw [hrs] at e1 e2 e3
    have hcv : ∀ wx : World, (convert 21 9 (.int .i32 c)).run Tryz.prog wx = .ok (.string rs) wx := by
      intro wx
      rw [← hrs]
      simp [convert, Conv.intToString, run_underlying Tryz.underlying21, run_underlying Tryz.underlying9, go_sem]
    clear hrs
    rcases (show rs.size = 2 ∨ rs.size = 3 ∨ rs.size = 4 by omega) with hsz | hsz | hsz
    · have q1 : 1 < rs.size := by omega
      obtain ⟨y, hy⟩ : ∃ y : Int, (rs[1].toNat : Int) = y := ⟨_, rfl⟩
      have e4 : 128 ≤ y := by have := e3 1 q1 (by omega); omega
      have f1 : ((((({ data := #[33, 36, 38, 39, 40, 41, 42, 43, 44, 59, 61, 58, 64, 47, 63, 91, 93] } : ByteArray)[1]'(by decide)).toNat : Nat) : Int) != y) = true := by
        have : ((({ data := #[33, 36, 38, 39, 40, 41, 42, 43, 44, 59, 61, 58, 64, 47, 63, 91, 93] } : ByteArray)[1]'(by decide)).toNat : Int) = 36 := by decide
        rw [this]
        exact bne_iff_ne.2 (by omega)
      have e5 : y < 256 := by have := rs[1].toNat_lt; omega
      have HX : Hid (∀ x ∈ ((({ data := #[33, 36, 38, 39, 40, 41, 42, 43, 44, 59, 61, 58, 64, 47, 63, 91, 93] } : ByteArray).extract 2 17).data.toList), x.toNat < 128) := Lib.hid (by decide +kernel)
      clear e3
      go_wp2
      go_step3
      go_wp2
      refine wp_loop_rounds 1 ?_
      rw [rounds_succ]
      go_wp2
      go_step3
      go_wp2
      go_region
      go_wp2
      go_quiet ((go_at_call 118; exact (ibyte_none _ _ _ HX.out e4 e5).mono fun _ _ ⟨he, hw⟩ => ⟨he, _, hw⟩))
      go_wp2
      rw [Exit.noGoto_ret]
      simp only [Exit.inBlock, Exit.then]
      rw [Exit.noGoto_ret]
      simp only [Exit.inBlock, Exit.then]
      go_ret
      exact ⟨rfl, below_drewN (Below.refl _ _) _⟩
    · have q1 : 2 < rs.size := by omega
      obtain ⟨y, hy⟩ : ∃ y : Int, (rs[2].toNat : Int) = y := ⟨_, rfl⟩
      have e4 : 128 ≤ y := by have := e3 2 q1 (by omega); omega
      have f1 : ((((({ data := #[33, 36, 38, 39, 40, 41, 42, 43, 44, 59, 61, 58, 64, 47, 63, 91, 93] } : ByteArray)[2]'(by decide)).toNat : Nat) : Int) != y) = true := by
        have : ((({ data := #[33, 36, 38, 39, 40, 41, 42, 43, 44, 59, 61, 58, 64, 47, 63, 91, 93] } : ByteArray)[2]'(by decide)).toNat : Int) = 38 := by decide
        rw [this]
        exact bne_iff_ne.2 (by omega)
      have e5 : y < 256 := by have := rs[2].toNat_lt; omega
      have HX : Hid (∀ x ∈ ((({ data := #[33, 36, 38, 39, 40, 41, 42, 43, 44, 59, 61, 58, 64, 47, 63, 91, 93] } : ByteArray).extract 3 17).data.toList), x.toNat < 128) := Lib.hid (by decide +kernel)
      clear e3
      go_wp2
      go_step3
      go_wp2
      refine wp_loop_rounds 1 ?_
      rw [rounds_succ]
      go_wp2
      go_step3
      go_wp2
      go_region
      go_wp2
      go_quiet ((go_at_call 118; exact (ibyte_none _ _ _ HX.out e4 e5).mono fun _ _ ⟨he, hw⟩ => ⟨he, _, hw⟩))
      go_wp2
      rw [Exit.noGoto_ret]
      simp only [Exit.inBlock, Exit.then]
      rw [Exit.noGoto_ret]
      simp only [Exit.inBlock, Exit.then]
      go_ret
      exact ⟨rfl, below_drewN (Below.refl _ _) _⟩
    · have q1 : 3 < rs.size := by omega
      obtain ⟨y, hy⟩ : ∃ y : Int, (rs[3].toNat : Int) = y := ⟨_, rfl⟩
      have e4 : 128 ≤ y := by have := e3 3 q1 (by omega); omega
      have f1 : ((((({ data := #[33, 36, 38, 39, 40, 41, 42, 43, 44, 59, 61, 58, 64, 47, 63, 91, 93] } : ByteArray)[3]'(by decide)).toNat : Nat) : Int) != y) = true := by
        have : ((({ data := #[33, 36, 38, 39, 40, 41, 42, 43, 44, 59, 61, 58, 64, 47, 63, 91, 93] } : ByteArray)[3]'(by decide)).toNat : Int) = 39 := by decide
        rw [this]
        exact bne_iff_ne.2 (by omega)
      have e5 : y < 256 := by have := rs[3].toNat_lt; omega
      have HX : Hid (∀ x ∈ ((({ data := #[33, 36, 38, 39, 40, 41, 42, 43, 44, 59, 61, 58, 64, 47, 63, 91, 93] } : ByteArray).extract 4 17).data.toList), x.toNat < 128) := Lib.hid (by decide +kernel)
      clear e3
      go_wp2
      go_step3
      go_wp2
      refine wp_loop_rounds 1 ?_
      rw [rounds_succ]
      go_wp2
      go_step3
      go_wp2
      go_region
      go_wp2
      go_quiet ((go_at_call 118; exact (ibyte_none _ _ _ HX.out e4 e5).mono fun _ _ ⟨he, hw⟩ => ⟨he, _, hw⟩))
      go_wp2
      rw [Exit.noGoto_ret]
      simp only [Exit.inBlock, Exit.then]
      rw [Exit.noGoto_ret]
      simp only [Exit.inBlock, Exit.then]
      go_ret
      exact ⟨rfl, below_drewN (Below.refl _ _) _⟩
set_option maxHeartbeats 1000000 in
theorem crune_high (c : Int) (h : 128 ≤ c) (h2 : c ≤ 2147483647) (w : World) :
    Calls Tryz.prog 83 #[.string ⟨#[33, 36, 38, 39, 40, 41, 42, 43, 44, 59, 61, 58, 64, 47, 63, 91, 93]⟩, .int .i32 c] w fun e w' => e = .returned (.bool false) ∧ Below w.heap.size w w' := by
  have H : Calls Tryz.prog 106 #[.string ⟨#[33, 36, 38, 39, 40, 41, 42, 43, 44, 59, 61, 58, 64, 47, 63, 91, 93]⟩, .int .i32 c] w fun e w' => e = .returned (.int .i64 (-1)) ∧ Below w.heap.size w w' := by
    by_cases e : c = 65533
    · subst e
      exact irune_err w
    · exact irune_high c h h2 e w
  have H' := Lib.hid H
  clear H
  go_enter Tryz.func83, Tryz.ntmps83
  go_wp2_with fail
  refine H'.out.mono ?_
  rintro e w' ⟨rfl, hb⟩
  go_wp2
  go_ret
  exact ⟨rfl, hb⟩
end Go.Proofs.YtodlecjbpmggiaaGreatDoor
