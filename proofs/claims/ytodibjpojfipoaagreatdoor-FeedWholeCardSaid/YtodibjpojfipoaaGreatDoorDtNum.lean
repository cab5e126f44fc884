/- The reader: a number. -/
import Derived.Test.YtodibjpojfipoaaGreatDoorDtRd
namespace Go.Proofs.YtodibjpojfipoaaGreatDoor
open Go.RowKit
set_option linter.unusedVariables false
set_option linter.unusedSimpArgs false
set_option maxRecDepth 10000

def NumP (b k : Nat) (s : ByteArray) (f : Bool) (w : World) (e : Ending) (w' : World) : Prop := ∃ (v : Int) (q : ByteArray) (f' : Bool), e = .returned (.int .i64 v) ∧ RdP b s f w w' q f' ∧ 0 ≤ v ∧ v < 10 ^ k ∧ (f = false → StepIs (numS k (btL s)) v (btL q) f')
structure NumL (b k : Nat) (s x q : ByteArray) (f : Bool) (w wr : World) (pos : Nat) (n : Int) : Prop where
  rd : RdP b s f w wr q f
  it : wr.heap[w.heap.size]? = some (.stringIter x pos)
  lo : 0 ≤ n
  hi : n < 10 ^ pos
  eq : digS 0 (btL x) = digS n ((btL x).drop pos)
theorem num_split (k : Nat) (s : ByteArray) (h : k ≤ s.size) : numS k (btL s) = (digS 0 (btL (s.extract 0 k))).map fun n => (n, btL (s.extract k s.size)) := by
  unfold numS
  rw [if_neg (by simp; omega), btD_extract, btD_extract, List.drop_zero, Nat.sub_zero, List.take_of_length_le (l := (btL s).drop k) (by simp)]
theorem pow_step (pos : Nat) (n c : Int) (h : n < 10 ^ pos) (hc : c ≤ 57) : 10 * n + (c - 48) < 10 ^ (pos + 1) := by
  rw [Int.pow_succ]
  omega
theorem pow_small (pos k : Nat) (h : pos ≤ k) (hk : k ≤ 4) : (10 : Int) ^ pos ≤ 10000 := by
  have h4 : pos = 0 ∨ pos = 1 ∨ pos = 2 ∨ pos = 3 ∨ pos = 4 := by omega
  rcases h4 with rfl | rfl | rfl | rfl | rfl <;> decide
theorem pow_mono (pos k : Nat) (h : pos ≤ k) : (10 : Int) ^ pos ≤ 10 ^ k := by
  obtain ⟨d, rfl⟩ := Nat.exists_eq_add_of_le h
  rw [Int.pow_add]
  have h1 : (0 : Int) < 10 ^ pos := Int.pow_pos (by decide)
  have h2 : (0 : Int) < 10 ^ d := Int.pow_pos (by decide)
  have := Int.mul_le_mul_of_nonneg_left (show (1 : Int) ≤ 10 ^ d by omega) (Int.le_of_lt h1)
  rw [Int.mul_one] at this
  exact this
set_option maxHeartbeats 4000000 in
theorem number_at (b k : Nat) (s : ByteArray) (f : Bool) (w : World) (hk : k ≤ 4) (hb : Box w b #[.string s, .bool f] 87) :
    Calls Tryz.prog 73 #[.pointer (some ⟨b, 0, none⟩), .int .i64 (k : Int)] w (NumP b k s f w) := by
  have k0 : w.cell? ⟨b, 0, none⟩ = some (.string s) := by rw [hb.cell 0]; rfl
  have c0 := hb.free 0
  have gl := hb.lt
  have HB := Lib.hid hb
  clear hb
  by_cases hlt : s.size < k
  · have d1 : decide ((s.size : Int) < (k : Int)) = true := decide_eq_true (by omega)
    have HN : Hid (numS k (btL s) = none) := Lib.hid (by unfold numS; rw [if_pos (by simpa using hlt)])
    go_enter Tryz.func73, Tryz.ntmps73
    go_wp2_with fail
    refine (fail_at b s f _ HB.out).mono ?_
    rintro e w1 ⟨rfl, R⟩
    have R := Lib.hid R
    go_wp2
    go_ret
    exact ⟨0, s, true, rfl, R.out, Int.le_refl _, Int.pow_pos (by decide), fun _ => StepIs.of_none HN.out⟩
  · have d1 : decide ((s.size : Int) < (k : Int)) = false := decide_eq_false (by omega)
    have l1 : (k : Int) ≤ (s.size : Int) := by omega
    have l2 : k ≤ s.size := by omega
    have l3 : (0 : Int) ≤ (k : Int) := by omega
    obtain ⟨x, hx⟩ : ∃ x, s.extract 0 k = x := ⟨_, rfl⟩
    obtain ⟨q, hq⟩ : ∃ q, s.extract k s.size = q := ⟨_, rfl⟩
    have HN : Hid (numS k (btL s) = (digS 0 (btL x)).map fun n => (n, btL q)) := Lib.hid (by rw [num_split k s l2, hx, hq])
    have xs : x.size = k := by rw [← hx]; simp; omega
    have qs : Hid (q.size ≤ s.size) := Lib.hid (by rw [← hq]; simp)
    go_enter Tryz.func73, Tryz.ntmps73
    go_wp2
    go_loopw [6] (fun n wr => ∃ (pos : Nat) (v : Int), pos ≤ x.size ∧ n = .int .i64 v ∧ w.heap.size < wr.heap.size ∧ Hid (NumL b k s x q f w wr pos v)) (fun n wr => x.size - wr.iterPos w.heap.size)
    case atStart =>
      have st : (w.setCell ⟨b, 0, none⟩ (.string q)).heap.size = w.heap.size := by simp [World.setCell]
      refine ⟨0, 0, by omega, rfl, by simp [World.iter, World.setCell], Lib.hid ⟨⟨(HB.out.set 0 _).alloc _, d_alloc (d_setCell (World.grownBy.refl w _) (Or.inl rfl) _) _, qs.out, id⟩, ?_, by omega, by decide, by rw [List.drop_zero]⟩⟩
      have := World.iter_heap (w.setCell ⟨b, 0, none⟩ (.string q)) x 0
      rw [st] at this
      exact this
    case round =>
      obtain ⟨pos, v, hp, rfl, hsz, HL⟩ := hrel
      by_cases hlt2 : pos < x.size
      · obtain ⟨rn, wd, h1, h2, h3, h3', h4, h5, h6⟩ := runeD x pos hlt2
        have hnx : ∀ ty, (Instr.next (.pointer (some ⟨w.heap.size, 0, none⟩)) true ty).run Tryz.prog wr = .ok (.tuple #[.bool true, .int .i64 pos, .int .i32 rn]) (wr.iterAt w.heap.size x (pos + wd)) := fun ty => by
          rw [Lib.run_next_any_at wr w.heap.size x pos ty HL.out.it hlt2, h1, h2]
        obtain ⟨wi, hwi⟩ : ∃ wi, wr.iterAt w.heap.size x (pos + wd) = wi := ⟨_, rfl⟩
        have it : wi.heap[w.heap.size]? = some (.stringIter x (pos + wd)) := by rw [← hwi]; exact Lib.iterAt_heap wr w.heap.size x pos (pos + wd) HL.out.it
        have RD : Hid (RdP b s f w wi q f) := Lib.hid ⟨by rw [← hwi]; exact dBox_iterAt HL.out.rd.box (by omega) x _, by rw [← hwi]; exact d_iterAt HL.out.rd.only (Nat.le_refl _) x _, qs.out, id⟩
        have sz : w.heap.size < wi.heap.size := by rw [← hwi, Lib.iterAt_size]; exact hsz
        rw [hwi] at hnx
        have IT := Lib.hid it
        have v0 := HL.out.lo
        have v1 := HL.out.hi
        have v2 := pow_small pos k (by omega) hk
        have v3 : v < 10000 := by omega
        have V1 := Lib.hid v1
        have HEQ : Hid (digS 0 (btL x) = digS v ((x[pos].toNat : Int) :: (btL x).drop (pos + 1))) := Lib.hid (by rw [← btD_cons x pos hlt2]; exact HL.out.eq)
        have H6 := Lib.hid h6
        clear hwi it h1 h2 h6 v1 v2
        by_cases hd : 48 ≤ rn ∧ rn ≤ 57
        · obtain ⟨hd1, hd2⟩ := hd
          have hr : Hid (rn = (x[pos].toNat : Int) ∧ wd = 1) := Lib.hid (by have := H6.out; omega)
          have e1 : decide (rn < 48) = false := decide_eq_false (by omega)
          have e2 : decide (57 < rn) = false := decide_eq_false (by omega)
          go_wp2
          go_roundw
          case rel =>
            refine ⟨pos + wd, 10 * v + (rn - 48), by omega, rfl, sz, Lib.hid ⟨RD.out, IT.out, by omega, ?_, ?_⟩⟩
            · rw [hr.out.2]
              exact pow_step pos v rn V1.out hd2
            · rw [HEQ.out, ← hr.out.1, digS_yes ⟨hd1, hd2⟩, hr.out.2]
          case measure =>
            simp only [World.iterPos, IT.out, HL.out.it]
            omega
        · have HN2 : Hid (numS k (btL s) = none) := Lib.hid (by rw [HN.out, HEQ.out, digS_no (by have := H6.out; omega)]; rfl)
          obtain ⟨z, hz⟩ : ∃ z, decide (rn < 48) = z := ⟨_, rfl⟩
          have hz2 : z = false → decide (57 < rn) = true := fun h => decide_eq_true (by rw [h] at hz; have := of_decide_eq_false hz; omega)
          cases z with
          | true =>
            go_wp2_with fail
            refine (fail_at b q f _ RD.out.box).mono ?_
            rintro e w1 ⟨rfl, R⟩
            have R := Lib.hid R
            go_wp2
            go_ret
            exact ⟨0, q, true, rfl, RD.out.trans R.out, Int.le_refl _, Int.pow_pos (by decide), fun _ => StepIs.of_none HN2.out⟩
          | false =>
            have hz3 := hz2 rfl
            go_wp2_with fail
            refine (fail_at b q f _ RD.out.box).mono ?_
            rintro e w1 ⟨rfl, R⟩
            have R := Lib.hid R
            go_wp2
            go_ret
            exact ⟨0, q, true, rfl, RD.out.trans R.out, Int.le_refl _, Int.pow_pos (by decide), fun _ => StepIs.of_none HN2.out⟩
      · have hnx : ∀ ty, (Instr.next (.pointer (some ⟨w.heap.size, 0, none⟩)) true ty).run Tryz.prog wr = _ := fun ty => Lib.run_next_end_at wr w.heap.size x pos ty HL.out.it hlt2
        have HN2 : Hid (numS k (btL s) = some (v, btL q)) := Lib.hid (by
          rw [HN.out, HL.out.eq, List.drop_eq_nil_of_le (by simp; omega)]
          rfl)
        have HV : Hid (0 ≤ v ∧ v < 10 ^ k) := Lib.hid ⟨HL.out.lo, Int.lt_of_lt_of_le HL.out.hi (pow_mono pos k (by omega))⟩
        go_wp2
        go_ret
        exact ⟨v, q, f, rfl, HL.out.rd, HV.out.1, HV.out.2, fun hf => by rw [hf]; exact StepIs.of_some HN2.out⟩
end Go.Proofs.YtodibjpojfipoaaGreatDoor
