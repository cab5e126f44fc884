/- Package robots: what counts of an agent's name. -/
import Derived.Test.YtodlecjbpmggiaaGreatDoorRbMath
import Derived.Test.YtodlecjbpmggiaaGreatDoorLnRef
namespace Go.Proofs.YtodlecjbpmggiaaGreatDoor
open Go Go.RowKit
set_option linter.unusedVariables false
set_option linter.unusedSimpArgs false
set_option maxRecDepth 10000

theorem letter_at (c : Int) (w : World) : Calls Tryz.prog 27 #[.int .i32 c] w fun e w' => e = .returned (.bool (decide ((65 ≤ c ∧ c ≤ 90) ∨ (97 ≤ c ∧ c ≤ 122)))) ∧ w' = w := by
  have hb : ∀ b : Bool, decide ((65 ≤ c ∧ c ≤ 90) ∨ (97 ≤ c ∧ c ≤ 122)) = b ↔ b = ((decide (97 ≤ c) && decide (c ≤ 122)) || (decide (65 ≤ c) && decide (c ≤ 90))) := fun b => by
    have : decide ((65 ≤ c ∧ c ≤ 90) ∨ (97 ≤ c ∧ c ≤ 122)) = ((decide (97 ≤ c) && decide (c ≤ 122)) || (decide (65 ≤ c) && decide (c ≤ 90))) := by
      rw [Bool.eq_iff_iff]
      simp only [decide_eq_true_eq, Bool.or_eq_true, Bool.and_eq_true]
      omega
    rw [this]
    exact eq_comm
  obtain ⟨b, hbb⟩ : ∃ b, decide ((65 ≤ c ∧ c ≤ 90) ∨ (97 ≤ c ∧ c ≤ 122)) = b := ⟨_, rfl⟩
  have HB : Hid (b = ((decide (97 ≤ c) && decide (c ≤ 122)) || (decide (65 ≤ c) && decide (c ≤ 90)))) := Lib.hid ((hb b).1 hbb)
  rw [hbb]
  clear hb hbb
  go_enter Tryz.func27, Tryz.ntmps27
  by_cases h1 : 97 ≤ c
  · have d1 : decide (97 ≤ c) = true := decide_eq_true h1
    by_cases h2 : c ≤ 122
    · have d2 : decide (c ≤ 122) = true := decide_eq_true h2
      have HE : Hid (b = true) := Lib.hid (by rw [HB.out, d1, d2]; rfl)
      go_wp2
      go_ret
      exact ⟨by rw [HE.out]; rfl, rfl⟩
    · have d2 : decide (c ≤ 122) = false := decide_eq_false h2
      have d3 : decide (65 ≤ c) = true := decide_eq_true (by omega)
      have d4 : decide (c ≤ 90) = false := decide_eq_false (by omega)
      have HE : Hid (b = false) := Lib.hid (by rw [HB.out, d1, d2, d3, d4]; rfl)
      go_wp2
      go_ret
      exact ⟨by rw [HE.out]; rfl, rfl⟩
  · have d1 : decide (97 ≤ c) = false := decide_eq_false h1
    by_cases h2 : 65 ≤ c
    · have d2 : decide (65 ≤ c) = true := decide_eq_true h2
      obtain ⟨r, hr⟩ : ∃ r, decide (c ≤ 90) = r := ⟨_, rfl⟩
      have HE : Hid (b = r) := Lib.hid (by rw [HB.out, d1, d2, hr, Bool.false_and, Bool.false_or, Bool.true_and])
      go_wp2
      go_ret
      exact ⟨by rw [HE.out]; rfl, rfl⟩
    · have d2 : decide (65 ≤ c) = false := decide_eq_false h2
      have HE : Hid (b = false) := Lib.hid (by rw [HB.out, d1, d2]; rfl)
      go_wp2
      go_ret
      exact ⟨by rw [HE.out]; rfl, rfl⟩
structure TkP (s : ByteArray) (w wr : World) (pos : Nat) : Prop where
  it : wr.heap[w.heap.size]? = some (.stringIter s pos)
  bel : Below w.heap.size w wr
  ok : ∀ i c, i < pos → (btL s)[i]? = some c → okT c = true
set_option maxHeartbeats 2000000 in
theorem token_at (s : ByteArray) (hs : s.size ≤ 1000000000000000) (w : World) :
    Calls Tryz.prog 13 #[.string s] w fun e w' => e = .returned (.string (strL (tokL (btL s)))) ∧ Below w.heap.size w w' := by
  go_enter Tryz.func13, Tryz.ntmps13
  go_wp2
  go_loopw [2, 3, 4] (fun r _ _ wr => ∃ pos : Nat, pos ≤ s.size ∧ r = .string ⟨#[]⟩ ∧ w.heap.size < wr.heap.size ∧ Hid (TkP s w wr pos)) (fun _ _ _ wr => s.size - wr.iterPos w.heap.size)
  case atStart => exact ⟨0, by omega, rfl, by simp [World.iter], Lib.hid ⟨World.iter_heap w s 0, (Below.refl _ _).alloc (Nat.le_refl _) _, fun i c hi => by omega⟩⟩
  case round =>
    obtain ⟨pos, hp, rfl, hsz, HL⟩ := hrel
    by_cases hlt : pos < s.size
    · obtain ⟨rn, wd, h1, h2, h3, h4, h5, h6⟩ := runeL s pos hlt
      obtain ⟨c, hc⟩ : ∃ c : Int, (rn : Int) = c := ⟨_, rfl⟩
      have hnx : ∀ ty, (Instr.next (.pointer (some ⟨w.heap.size, 0, none⟩)) true ty).run Tryz.prog wr = .ok (.tuple #[.bool true, .int .i64 pos, .int .i32 c]) (wr.iterAt w.heap.size s (pos + wd)) := fun ty => by
        rw [Lib.run_next_any_at wr w.heap.size s pos ty HL.out.it hlt, h1, h2, hc]
      obtain ⟨wi, hwi⟩ : ∃ wi, wr.iterAt w.heap.size s (pos + wd) = wi := ⟨_, rfl⟩
      have it : wi.heap[w.heap.size]? = some (.stringIter s (pos + wd)) := by rw [← hwi]; exact Lib.iterAt_heap wr w.heap.size s pos (pos + wd) HL.out.it
      have BI : Hid (Below w.heap.size w wi) := Lib.hid (by rw [← hwi]; exact ln_iter HL.out.bel (Nat.le_refl _) s _)
      have sz : w.heap.size < wi.heap.size := by rw [← hwi, Lib.iterAt_size]; exact hsz
      rw [hwi] at hnx
      have IT := Lib.hid it
      have HB : Hid (okT (s[pos].toNat : Int) = okT c ∧ (okT c = true → wd = 1)) := Lib.hid (by
        rcases h6 with ⟨e1, e2, e3⟩ | ⟨e1, e2⟩
        · rw [← hc, e1]
          exact ⟨rfl, fun _ => e3⟩
        · have := e2 0 (by omega) (by omega)
          simp only [Nat.add_zero] at this
          have k1 : okT c = false := by unfold okT; rw [decide_eq_false_iff_not]; omega
          have k2 : okT (s[pos].toNat : Int) = false := by unfold okT; rw [decide_eq_false_iff_not]; omega
          exact ⟨by rw [k1, k2], fun h => by rw [k1] at h; cases h⟩)
      have hw1 : 1 ≤ wd := h4
      have hw2 : pos + wd ≤ s.size := h5
      clear hwi it h1 h2 h3 h4 h5 h6 hc
      have LT := Lib.hid (letter_at c)
      obtain ⟨lb, hlb⟩ : ∃ b, decide ((65 ≤ c ∧ c ≤ 90) ∨ (97 ≤ c ∧ c ≤ 122)) = b := ⟨_, rfl⟩
      rw [hlb] at LT
      have HLB := Lib.hid hlb
      clear hlb
      by_cases hok : okT c = true
      · have hwd := HB.out.2 hok
        subst hwd
        have hgo : lb = true ∨ (lb = false ∧ (c = 45 ∨ c = 95)) := by
          have h1 := HLB.out
          unfold okT at hok
          rw [decide_eq_true_eq] at hok
          cases lb with
          | true => exact Or.inl rfl
          | false =>
            rw [decide_eq_false_iff_not] at h1
            exact Or.inr ⟨rfl, by omega⟩
        have HN : Hid (TkP s w wi (pos + 1)) := Lib.hid ⟨IT.out, BI.out, fun i d hi hd => by
          by_cases h : i = pos
          · subst h
            rw [ln_at s i hlt] at hd
            injection hd with hd
            rw [← hd, HB.out.1, hok]
          · exact HL.out.ok i d (by omega) hd⟩
        clear HB BI hok HLB
        rcases hgo with rfl | ⟨rfl, rfl | rfl⟩
        · go_wp2_with fail
          refine (LT.out _).mono ?_
          rintro e wx ⟨rfl, hwx⟩
          subst hwx
          go_wp2
          go_roundw
          case rel => exact ⟨pos + 1, by omega, rfl, sz, HN⟩
          case measure =>
            simp only [World.iterPos, IT.out, HL.out.it]
            omega
        · go_wp2_with fail
          refine (LT.out _).mono ?_
          rintro e wx ⟨rfl, hwx⟩
          subst hwx
          go_wp2
          go_roundw
          case rel => exact ⟨pos + 1, by omega, rfl, sz, HN⟩
          case measure =>
            simp only [World.iterPos, IT.out, HL.out.it]
            omega
        · go_wp2_with fail
          refine (LT.out _).mono ?_
          rintro e wx ⟨rfl, hwx⟩
          subst hwx
          go_wp2
          go_roundw
          case rel => exact ⟨pos + 1, by omega, rfl, sz, HN⟩
          case measure =>
            simp only [World.iterPos, IT.out, HL.out.it]
            omega
      · have hno : lb = false ∧ c ≠ 45 ∧ c ≠ 95 := by
          have h1 := HLB.out
          have hok' : okT c = false := by simpa using hok
          unfold okT at hok'
          rw [decide_eq_false_iff_not] at hok'
          refine ⟨?_, by omega, by omega⟩
          rw [← h1, decide_eq_false_iff_not]
          omega
        obtain ⟨rfl, n1, n2⟩ := hno
        have e1 : (c != 45) = true := bne_iff_ne.2 n1
        have e2 : (c != 95) = true := bne_iff_ne.2 n2
        have LW : Hid (∀ W, Calls Tryz.prog 28 #[.string (s.extract 0 pos)] W fun e w' => e = .returned (.string (strL (tokL (btL s)))) ∧ Below W.heap.size W w') := Lib.hid (fun W => lower_at (s.extract 0 pos) _ (by
          unfold lowB tokL
          rw [ln_extract, List.drop_zero, Nat.sub_zero, tok_take HL.out.ok (fun d hd => by
            rw [ln_at s pos hlt] at hd
            injection hd with hd
            rw [← hd, HB.out.1]
            simpa using hok)]) (by simp; omega) W)
        have hpi : (pos : Int) ≤ (s.size : Int) := by omega
        clear HB hok HLB IT
        go_wp2_with fail
        refine (LT.out _).mono ?_
        rintro e wx ⟨rfl, hwx⟩
        subst hwx
        go_wp2_with fail
        refine (LW.out _).mono ?_
        rintro e w2 ⟨rfl, hb⟩
        have B2 := Lib.hid (BI.out.trans (hb.mono BI.out.size))
        clear hb
        go_wp2
        go_ret
        exact ⟨rfl, B2.out⟩
    · have hnx : ∀ ty, (Instr.next (.pointer (some ⟨w.heap.size, 0, none⟩)) true ty).run Tryz.prog wr = _ := fun ty => Lib.run_next_end_at wr w.heap.size s pos ty HL.out.it hlt
      have LW : Hid (∀ W, Calls Tryz.prog 28 #[.string s] W fun e w' => e = .returned (.string (strL (tokL (btL s)))) ∧ Below W.heap.size W w') := Lib.hid (fun W => lower_at s _ (by
        unfold lowB tokL
        rw [tok_take (k := s.size) (fun i c hi hc => HL.out.ok i c (by omega) hc) (fun c hc => by
          have := (List.getElem?_eq_some_iff.1 hc).1
          rw [btL_length] at this
          omega), List.take_of_length_le (by rw [btL_length]; omega)]) hs W)
      go_wp2_with fail
      refine (LW.out _).mono ?_
      rintro e w2 ⟨rfl, hb⟩
      have B2 := Lib.hid (HL.out.bel.trans (hb.mono HL.out.bel.size))
      clear hb
      go_wp2
      go_ret
      exact ⟨rfl, B2.out⟩
end Go.Proofs.YtodlecjbpmggiaaGreatDoor
