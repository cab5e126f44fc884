/- strings.IndexRune and IndexAny over the three signs that end a name and a port, at every rune and every text. -/
import Derived.Test.YtcdodpkfhkfnkaaDoorUrCuts
import Derived.BigQuiet
import Derived.Deep.RegionWith
import Derived.WalkMore
import Derived.Deep.QuietTactic
import Derived.Shelf.Strings.IndexAnyAll
namespace Go.Proofs.YtcdodpkfhkfnkaaDoor
open Go.RowKit
set_option linter.unusedVariables false
set_option linter.unusedSimpArgs false

theorem st_ascii (k : Nat) (h : k < 3) : (({ data := #[47, 63, 35] } : ByteArray)[k]'h).toNat < 128 := by
  have : ∀ i : Fin 3, (({ data := #[47, 63, 35] } : ByteArray)[i.val]'i.isLt).toNat < 128 := by decide
  exact this ⟨k, h⟩
set_option maxHeartbeats 4000000 in
set_option maxRecDepth 100000 in
theorem srune_err (w : World) :
    Calls Tryd.prog 105 #[.string ⟨#[47, 63, 35]⟩, .int .i32 65533] w fun e w' => e = .returned (.int .i64 (-1)) ∧ Below w.heap.size w w' := by
  go_enter Tryd.func105, Tryd.ntmps105
  go_wp2
  go_loopw [5, 6] (fun _ _ wr => ∃ pos : Nat, pos ≤ 3 ∧ wr = w.iter ({ data := #[47, 63, 35] } : ByteArray) pos) (fun _ _ wr => 3 - wr.iterPos w.heap.size)
  case atStart => exact ⟨0, by omega, rfl⟩
  case round =>
    obtain ⟨pos, hp, rfl⟩ := hrel
    by_cases hlt : pos < 3
    · have hlt' : pos < ({ data := #[47, 63, 35] } : ByteArray).size := hlt
      have ha := st_ascii pos hlt
      obtain ⟨ch, hch⟩ : ∃ x : Int, ((({ data := #[47, 63, 35] } : ByteArray)[pos]'hlt).toNat : Int) = x := ⟨_, rfl⟩
      have hc : (ch == 65533) = false := beq_eq_false_iff_ne.2 (by omega)
      have hnx := fun ty => run_next_ascii (P := Tryd.prog) w ({ data := #[47, 63, 35] } : ByteArray) pos ty hlt' ha
      go_wp2
      go_roundw
      case rel => exact ⟨pos + 1, by omega, rfl⟩
      case measure => simp; omega
    · have hnx := fun ty => run_next_end (P := Tryd.prog) w ({ data := #[47, 63, 35] } : ByteArray) pos ty hlt
      go_wp2
      go_ret
      exact ⟨rfl, (Below.refl _ _).alloc (Nat.le_refl _) _⟩
set_option maxHeartbeats 4000000 in
set_option maxRecDepth 100000 in
theorem srune_high (c : Int) (h : 128 ≤ c) (h2 : c ≤ 2147483647) (hne : c ≠ 65533) (w : World) :
    Calls Tryd.prog 105 #[.string ⟨#[47, 63, 35]⟩, .int .i32 c] w fun e w' => e = .returned (.int .i64 (-1)) ∧ Below w.heap.size w w' := by
  have n1 : ¬ c < 128 := by omega
  have hb : (c == 65533) = false := beq_eq_false_iff_ne.2 hne
  clear hne
  go_enter Tryd.func105, Tryd.ntmps105
  go_wp2_with fail
  refine (Any.utf8_ValidRune Tryd.lays119 c _).mono ?_
  rintro e w' ⟨rfl, rfl⟩
  obtain ⟨vb, hvb⟩ : ∃ vb, Lib.validRune c = vb := ⟨_, rfl⟩
  rw [hvb]
  clear hvb
  cases vb
  · go_wp2
    go_ret
    exact ⟨rfl, Below.refl _ _⟩
  · obtain ⟨e1, e2, e3⟩ := enc_facts c h
    obtain ⟨rs, hrs⟩ : ∃ rs, Utf8.encode c = rs := ⟨_, rfl⟩
    rw [hrs] at e1 e2 e3
    have hcv : ∀ wx : World, (convert 21 9 (.int .i32 c)).run Tryd.prog wx = .ok (.string rs) wx := by
      intro wx
      rw [← hrs]
      simp [convert, Conv.intToString, run_underlying Tryd.underlying21, run_underlying Tryd.underlying9, go_sem]
    clear hrs
    rcases (show rs.size = 2 ∨ rs.size = 3 ∨ rs.size = 4 by omega) with hsz | hsz | hsz
    · have q1 : 1 < rs.size := by omega
      obtain ⟨y, hy⟩ : ∃ y : Int, (rs[1].toNat : Int) = y := ⟨_, rfl⟩
      have e4 : 128 ≤ y := by have := e3 1 q1 (by omega); omega
      have f1 : ((((({ data := #[47, 63, 35] } : ByteArray)[1]'(by decide)).toNat : Nat) : Int) != y) = true := by
        have : ((({ data := #[47, 63, 35] } : ByteArray)[1]'(by decide)).toNat : Int) = 63 := by decide
        rw [this]
        exact bne_iff_ne.2 (by omega)
      have e5 : y < 256 := by have := rs[1].toNat_lt; omega
      have HX : Hid (∀ x ∈ ((({ data := #[47, 63, 35] } : ByteArray).extract 2 3).data.toList), x.toNat < 128) := Lib.hid (by decide +kernel)
      clear e3
      go_wp2
      go_step3
      go_wp2
      refine wp_loop_rounds 1 ?_
      rw [rounds_succ]
      go_wp2
      go_step3
      go_wp2
      go_region
      go_wp2
      go_quiet ((go_at_call 132; exact (ibyte_none _ _ _ HX.out e4 e5).mono fun _ _ ⟨he, hw⟩ => ⟨he, _, hw⟩))
      go_wp2
      rw [Exit.noGoto_ret]
      simp only [Exit.inBlock, Exit.then]
      rw [Exit.noGoto_ret]
      simp only [Exit.inBlock, Exit.then]
      go_ret
      exact ⟨rfl, below_drewN (Below.refl _ _) _⟩
    · have q1 : 2 < rs.size := by omega
      obtain ⟨y, hy⟩ : ∃ y : Int, (rs[2].toNat : Int) = y := ⟨_, rfl⟩
      have e4 : 128 ≤ y := by have := e3 2 q1 (by omega); omega
      have f1 : ((((({ data := #[47, 63, 35] } : ByteArray)[2]'(by decide)).toNat : Nat) : Int) != y) = true := by
        have : ((({ data := #[47, 63, 35] } : ByteArray)[2]'(by decide)).toNat : Int) = 35 := by decide
        rw [this]
        exact bne_iff_ne.2 (by omega)
      have e5 : y < 256 := by have := rs[2].toNat_lt; omega
      have HX : Hid (∀ x ∈ ((({ data := #[47, 63, 35] } : ByteArray).extract 3 3).data.toList), x.toNat < 128) := Lib.hid (by decide +kernel)
      clear e3
      go_wp2
      go_step3
      go_wp2
      refine wp_loop_rounds 1 ?_
      rw [rounds_succ]
      go_wp2
      go_step3
      go_wp2
      go_region
      go_wp2
      go_quiet ((go_at_call 132; exact (ibyte_none _ _ _ HX.out e4 e5).mono fun _ _ ⟨he, hw⟩ => ⟨he, _, hw⟩))
      go_wp2
      rw [Exit.noGoto_ret]
      simp only [Exit.inBlock, Exit.then]
      rw [Exit.noGoto_ret]
      simp only [Exit.inBlock, Exit.then]
      go_ret
      exact ⟨rfl, below_drewN (Below.refl _ _) _⟩
    · have q1 : 3 < rs.size := by omega
      clear e3
      go_wp2
      go_step3
      go_wp2
      refine wp_loop_rounds 1 ?_
      rw [rounds_succ]
      go_wp2
      repeat (rw [Exit.noGoto_ret]; simp only [Exit.inBlock, Exit.then])
      go_ret
      exact ⟨rfl, Below.refl _ _⟩
theorem srune_no (c : Int) (h : 128 ≤ c) (h2 : c ≤ 2147483647) (w : World) :
    Calls Tryd.prog 105 #[.string ⟨#[47, 63, 35]⟩, .int .i32 c] w fun e w' => e = .returned (.int .i64 (-1)) ∧ Below w.heap.size w w' := by
  by_cases e : c = 65533
  · subst e
    exact srune_err w
  · exact srune_high c h h2 e w
theorem srune_low (c : Int) (b : Bool) (hb : decide (c ∈ stopsI) = b) (h0 : 0 ≤ c) (h1 : c < 128) (w : World) :
    Calls Tryd.prog 105 #[.string ⟨#[47, 63, 35]⟩, .int .i32 c] w fun e w' => ∃ v : Int, e = .returned (.int .i64 v) ∧ decide (0 ≤ v) = b ∧ w = w' := by
  refine (Any.strings_IndexRune_ascii Tryd.lays152 ⟨#[47, 63, 35]⟩ c w h0 h1).mono ?_
  rintro e w' ⟨rfl, rfl⟩
  refine ⟨_, rfl, ?_, rfl⟩
  rw [← hb, ← Lib.contains_iff_indexByte]
  have hm : c ∈ stopsI ↔ c.toNat.toUInt8 ∈ ({ data := #[47, 63, 35] } : ByteArray).data.toList := by
    show c ∈ iv ({ data := #[47, 63, 35] } : ByteArray).data.toList ↔ _
    rw [← iv_mem]
    rw [show ((c.toNat.toUInt8.toNat : Nat) : Int) = c from by
      have : (UInt8.ofNat c.toNat).toNat = c.toNat := by simp; omega
      show (((UInt8.ofNat c.toNat).toNat : Nat) : Int) = c
      omega]
  by_cases h : c.toNat.toUInt8 ∈ ({ data := #[47, 63, 35] } : ByteArray).data.toList
  · rw [decide_eq_true (hm.2 h)]
    exact List.contains_iff_mem.2 h
  · rw [decide_eq_false (fun e => h (hm.1 e))]
    exact Bool.eq_false_iff.2 (fun e => h (List.contains_iff_mem.1 e))
theorem fnd_run {L : List Int} {l : List Int} {pos wd : Nat} (h : ∀ j, pos ≤ j → j < pos + wd → ∀ c, l[j]? = some c → c ∉ L) (hl : pos + wd ≤ l.length) : fndI L (l.drop pos) = wd + fndI L (l.drop (pos + wd)) := by
  induction wd generalizing pos with
  | zero => simp
  | succ n ih =>
    have hp : pos < l.length := by omega
    rw [fndI_drop (List.getElem?_eq_getElem hp), if_neg (h pos (Nat.le_refl _) (by omega) _ (List.getElem?_eq_getElem hp)), ih (fun j h1 h2 => h j (by omega) (by omega)) (by omega)]
    rw [show pos + 1 + n = pos + (n + 1) from by omega]
    omega
theorem sascii_at (n : Int) (b : Bool) (hb : decide (8 < n) = b) (w : World) :
    Calls Tryd.prog 106 #[.int .i64 n] w fun e w' => e = .returned (.bool b) ∧ w = w' := by
  refine (Any.strings_shouldUseASCIISet Tryd.lays226 n w).mono ?_
  rintro e w' ⟨rfl, rfl⟩
  rw [hb]
  exact ⟨rfl, rfl⟩
/-- Where the loop over the runes is. -/
structure IA (s : ByteArray) (k : Nat) (w wr : World) (pos : Nat) : Prop where
  it : wr.heap[w.heap.size]? = some (.stringIter s pos)
  bel : Below w.heap.size w wr
  eq : k = pos + fndI stopsI ((btL s).drop pos)
set_option maxHeartbeats 4000000 in
/-- strings.IndexAny at the three signs, in a short text. -/
theorem iany_short (s : ByteArray) (k : Nat) (v : Int) (hk : fndI stopsI (btL s) = k) (hv : (if k < s.size then (k : Int) else -1) = v) (hs : s.size ≤ 8) (w : World) :
    Calls Tryd.prog 82 #[.string s, .string ⟨#[47, 63, 35]⟩] w fun e w' => e = .returned (.int .i64 v) ∧ Below w.heap.size w w' := by
  have h8 : decide ((8 : Int) < (s.size : Int)) = false := decide_eq_false (by omega)
  have HK := Lib.hid hk
  have HV := Lib.hid hv
  clear hk hv
  go_enter Tryd.func82, Tryd.ntmps82
  go_wp2_with (go_at_call 106; refine (sascii_at _ false h8 _).mono ?_; rintro e w' ⟨rfl, rfl⟩)
  go_loopw [] (fun wr => ∃ pos : Nat, pos ≤ s.size ∧ w.heap.size < wr.heap.size ∧ Hid (IA s k w wr pos)) (fun wr => s.size - wr.iterPos w.heap.size)
  case atStart => exact ⟨0, by omega, by simp [World.iter], Lib.hid ⟨World.iter_heap w s 0, (Below.refl _ w).alloc (Nat.le_refl _) _, by rw [List.drop_zero, HK.out]; omega⟩⟩
  case round =>
    obtain ⟨pos, hp, hsz, HL⟩ := hrel
    by_cases hlt : pos < s.size
    · obtain ⟨rn, wd, h1, h2, h3, h4, h5, h6⟩ := rune_split s pos hlt
      have hnx : ∀ ty, (Instr.next (.pointer (some ⟨w.heap.size, 0, none⟩)) true ty).run Tryd.prog wr = .ok (.tuple #[.bool true, .int .i64 pos, .int .i32 rn]) (wr.iterAt w.heap.size s (pos + wd)) := fun ty => by
        rw [Lib.run_next_any_at wr w.heap.size s pos ty HL.out.it hlt, h1, h2]
      have hpc := piece s pos hlt
      rw [h2] at hpc
      obtain ⟨wi, hwi⟩ : ∃ wi, wr.iterAt w.heap.size s (pos + wd) = wi := ⟨_, rfl⟩
      have it : wi.heap[w.heap.size]? = some (.stringIter s (pos + wd)) := by rw [← hwi]; exact Lib.iterAt_heap wr w.heap.size s pos (pos + wd) HL.out.it
      have bel : Below w.heap.size w wi := by rw [← hwi]; exact Lib.below_iterAt HL.out.bel (Nat.le_refl _) s _
      have sz : w.heap.size < wi.heap.size := by rw [← hwi, Lib.iterAt_size]; exact hsz
      rw [hwi] at hnx
      have IT := Lib.hid it
      have BEL := Lib.hid bel
      have HPC := Lib.hid hpc
      have hget : (btL s)[pos]? = some ((s[pos].toNat : Nat) : Int) := btL_at s pos hlt
      have HG := Lib.hid hget
      have H6 := Lib.hid h6
      clear hwi it bel h1 h2 h6 hpc hget
      by_cases hlow : rn < 128
      · have hw1 : Hid ((s[pos].toNat : Int) = rn ∧ wd = 1) := Lib.hid (by have := H6.out; omega)
        have r0 : 0 ≤ rn := by have := hw1.out; omega
        obtain ⟨b, hb⟩ : ∃ b, decide (rn ∈ stopsI) = b := ⟨_, rfl⟩
        have HB := Lib.hid hb
        clear hb
        go_wp2_with fail
        refine (srune_low rn b HB.out r0 hlow _).mono ?_
        rintro e w2 ⟨x, rfl, hx, hw⟩
        subst w2
        cases b with
        | true =>
          have HE : Hid ((pos : Int) = v) := Lib.hid (by
            have h1 : k = pos := by
              rw [HL.out.eq, fndI_drop HG.out, hw1.out.1, if_pos (of_decide_eq_true HB.out)]
              rfl
            rw [← HV.out, h1, if_pos hlt])
          go_wp2
          go_ret
          rw [HE.out]
          exact ⟨rfl, BEL.out⟩
        | false =>
          have HE : Hid (k = pos + 1 + fndI stopsI ((btL s).drop (pos + 1))) := Lib.hid (by
            have := HL.out.eq
            rw [fndI_drop HG.out, hw1.out.1, if_neg (of_decide_eq_false HB.out)] at this
            omega)
          go_wp2
          go_roundw
          case rel => exact ⟨pos + wd, h5, sz, Lib.hid ⟨IT.out, BEL.out, by rw [hw1.out.2]; exact HE.out⟩⟩
          case measure =>
            simp only [World.iterPos, IT.out, HL.out.it]
            omega
      · have hhi : 128 ≤ rn := by omega
        have HE : Hid (k = pos + wd + fndI stopsI ((btL s).drop (pos + wd))) := Lib.hid (by
          have h1 := HL.out.eq
          rw [fnd_run (L := stopsI) (l := btL s) (pos := pos) (wd := wd) (fun j h1 h2 c hc hm => by
            have hjs : j < s.size := by omega
            rw [btL_at s j hjs] at hc
            have := HPC.out.high hlt (by have := H6.out; omega) (j - pos) (by omega) (by omega)
            simp only [show pos + (j - pos) = j from by omega] at this
            injection hc with hc
            have : c = 47 ∨ c = 63 ∨ c = 35 := by simpa [stopsI] using hm
            omega) (by simpa using h5)] at h1
          omega)
        have hn : ¬ (0 : Int) ≤ -1 := by decide
        go_wp2_with fail
        refine (srune_no rn hhi h3 _).mono ?_
        rintro e w2 ⟨rfl, hb2⟩
        have it2 : w2.heap[w.heap.size]? = some (.stringIter s (pos + wd)) := (hb2.block _ sz).trans IT.out
        have sz2 : w.heap.size < w2.heap.size := (Array.getElem?_eq_some_iff.1 it2).1
        have BEL2 := Lib.hid (BEL.out.trans (hb2.mono (by omega)))
        have IT2 := Lib.hid it2
        clear hb2 it2
        go_wp2
        go_roundw
        case rel => exact ⟨pos + wd, h5, sz2, Lib.hid ⟨IT2.out, BEL2.out, HE.out⟩⟩
        case measure =>
          simp only [World.iterPos, IT2.out, HL.out.it]
          omega
    · have hnx : ∀ ty, (Instr.next (.pointer (some ⟨w.heap.size, 0, none⟩)) true ty).run Tryd.prog wr = _ := fun ty => Lib.run_next_end_at wr w.heap.size s pos ty HL.out.it hlt
      have HN : Hid (-1 = v) := Lib.hid (by
        have h1 : k = pos + fndI stopsI [] := by rw [HL.out.eq, List.drop_eq_nil_of_le (by simp; omega)]
        have h2 : fndI stopsI [] = 0 := rfl
        rw [← HV.out, if_neg (by omega)])
      go_wp2
      go_ret
      rw [← HN.out]
      exact ⟨rfl, HL.out.bel⟩
theorem iany_at (s : ByteArray) (k : Nat) (v : Int) (hk : fndI stopsI (btL s) = k) (hv : (if k < s.size then (k : Int) else -1) = v) (hs : s.size ≤ 100000) (w : World) :
    Calls Tryd.prog 82 #[.string s, .string ⟨#[47, 63, 35]⟩] w fun e w' => e = .returned (.int .i64 v) ∧ Below w.heap.size w w' := by
  by_cases h8 : s.size ≤ 8
  · exact iany_short s k v hk hv h8 w
  · have hz := zero_of_info (show (Tryd.prog.info? (Tryd.lays153_ren.t 116)).map (fun i => (i.zero, i.size)) = some (some (.agg (Array.replicate 256 (.bool false))), 256) by kernel_rfl)
    refine (Any.strings_IndexAny_long Tryd.lays153 hz.1 hz.2 s ⟨#[47, 63, 35]⟩ w (by decide) (by omega) (by omega) (by decide) (by
      intro j b hj
      have : b ∈ ({ data := #[47, 63, 35] } : ByteArray).data.toList := List.mem_of_getElem? hj
      have hall : ∀ x ∈ ({ data := #[47, 63, 35] } : ByteArray).data.toList, x.toNat < 128 := by decide
      exact hall b this)).mono fun e w' ⟨h1, h2⟩ => ⟨?_, ?_⟩
    · rw [h1, any_fnd, ← Lib.size_eq]
      show Ending.returned (.int .i64 (if fndI stopsI (btL s) < s.size then (fndI stopsI (btL s) : Int) else -1)) = _
      rw [hk, hv]
    · rw [h2]
      exact ((Below.refl _ _).alloc (Nat.le_refl _) _).alloc (by simp) _
/-- strings.IndexAny at the mark alone. -/
theorem iany_mark (s : ByteArray) (k : Nat) (v : Int) (hk : fndI [35] (btL s) = k) (hv : (if k < s.size then (k : Int) else -1) = v) (w : World) :
    Calls Tryd.prog 82 #[.string s, .string ⟨#[35]⟩] w fun e w' => e = .returned (.int .i64 v) ∧ Below w.heap.size w w' := by
  refine (Any.strings_IndexAny_one Tryd.lays153 s ⟨#[35]⟩ w rfl (by
    intro j b hj
    have : b ∈ ({ data := #[35] } : ByteArray).data.toList := List.mem_of_getElem? hj
    have hall : ∀ x ∈ ({ data := #[35] } : ByteArray).data.toList, x.toNat < 128 := by decide
    exact hall b this)).mono fun e w' ⟨h1, h2⟩ => ⟨?_, ?_⟩
  · rw [h1, any_fnd, ← Lib.size_eq]
    show Ending.returned (.int .i64 (if fndI [35] (btL s) < s.size then (fndI [35] (btL s) : Int) else -1)) = _
    rw [hk, hv]
  · rw [h2]
    exact Below.refl _ _
end Go.Proofs.YtcdodpkfhkfnkaaDoor
