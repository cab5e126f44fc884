/- Letters of a name one by one: 'each' with the program's step; isName, parsePort. -/
import Derived.Test.YtcdodpkfhkfnkaaDoorUrEach
namespace Go.Proofs.YtcdodpkfhkfnkaaDoor
open Go.RowKit
set_option linter.unusedVariables false
set_option linter.unusedSimpArgs false
set_option maxRecDepth 10000

structure EN (s : ByteArray) (B : Nat) (w wr : World) (f g g2 pos : Nat) (n : Nat) (c : Int) : Prop where
  box : Box wr g #[.int .i64 (n : Int)] 3
  box2 : Box wr g2 #[.int .i32 c] 21
  boxf : Box wr f #[.func (.func 109) #[] #[.pointer (some ⟨g, 0, none⟩), .pointer (some ⟨g2, 0, none⟩)]] 27
  it : wr.heap[w.heap.size]? = some (.stringIter s pos)
  bel : Below B w wr
  eq : nameA 0 46 (btL s) = nameA n c ((btL s).drop pos)
def EachN (s : ByteArray) (B : Nat) (w : World) (f g g2 : Nat) (e : Ending) (w' : World) : Prop := ∃ (n : Nat) (c : Int) (b : Bool), e = .returned (.bool b) ∧ Box w' g #[.int .i64 (n : Int)] 3 ∧ Box w' g2 #[.int .i32 c] 21 ∧ Box w' f #[.func (.func 109) #[] #[.pointer (some ⟨g, 0, none⟩), .pointer (some ⟨g2, 0, none⟩)]] 27 ∧ Below B w w' ∧ nameA 0 46 (btL s) = (b && (decide (0 < n) && decide (c ≠ 45)))
theorem nameA_dot (n : Nat) (c : Int) (t : List Int) : nameA n c (46 :: t) = (decide (0 < n) && decide (c ≠ 45) && nameA 0 46 t) := by conv => lhs; unfold nameA; rw [if_pos rfl]
theorem nameA_dash (n : Nat) (c : Int) (t : List Int) : nameA n c (45 :: t) = (decide (0 < n) && decide (n + 1 ≤ 63) && nameA (n + 1) 45 t) := by conv => lhs; unfold nameA; rw [if_neg (by decide), if_pos rfl]
theorem nameA_other (n : Nat) (c d : Int) (t : List Int) (h1 : d ≠ 46) (h2 : d ≠ 45) : nameA n c (d :: t) = (alnI d && decide (n + 1 ≤ 63) && nameA (n + 1) d t) := by conv => lhs; unfold nameA; rw [if_neg h1, if_neg h2]
theorem aln_high {c : Int} (h : 128 ≤ c) : alnI c = false := decide_eq_false (by omega)
set_option maxHeartbeats 8000000 in
theorem each_name (s : ByteArray) (B f g g2 : Nat) (w : World) (hg : g < w.heap.size) (hg2 : g2 < w.heap.size) (hf : f < w.heap.size) (hgg : g ≠ g2) (hfg : f ≠ g) (hfg2 : f ≠ g2) (hB : B ≤ g) (hB2 : B ≤ g2)
    (hb : Box w g #[.int .i64 0] 3) (hb2 : Box w g2 #[.int .i32 46] 21) (hbf : Box w f #[.func (.func 109) #[] #[.pointer (some ⟨g, 0, none⟩), .pointer (some ⟨g2, 0, none⟩)]] 27) :
    Calls Tryd.prog 110 #[.string s, .func (.func 111) #[] #[.pointer (some ⟨f, 0, none⟩), .pointer (some ⟨g, 0, none⟩), .pointer (some ⟨g2, 0, none⟩)]] w (EachN s B w f g g2) := by
  have HB := Lib.hid hb
  have HB2 := Lib.hid hb2
  have HBF := Lib.hid hbf
  clear hb hb2 hbf
  go_enter Tryd.func110, Tryd.ntmps110
  go_wp2
  go_loopw [] (fun wr => ∃ (pos n : Nat) (c : Int), pos ≤ s.size ∧ n ≤ 63 ∧ w.heap.size < wr.heap.size ∧ Hid (EN s B w wr f g g2 pos n c)) (fun wr => s.size - wr.iterPos w.heap.size)
  case atStart =>
    refine ⟨0, 0, 46, by omega, by omega, by simp [World.iter], Lib.hid ⟨HB.out.alloc _, HB2.out.alloc _, HBF.out.alloc _, World.iter_heap w s 0, (Below.refl B w).alloc (by omega) _, by rw [List.drop_zero]⟩⟩
  case round =>
    obtain ⟨pos, n, c, hp, hn, hsz, HL⟩ := hrel
    by_cases hlt : pos < s.size
    · obtain ⟨rn, wd, h1, h2, h3, h4, h5, h6⟩ := rune_split s pos hlt
      have hnx : ∀ ty, (Instr.next (.pointer (some ⟨w.heap.size, 0, none⟩)) true ty).run Tryd.prog wr = .ok (.tuple #[.bool true, .int .i64 pos, .int .i32 rn]) (wr.iterAt w.heap.size s (pos + wd)) := fun ty => by
        rw [Lib.run_next_any_at wr w.heap.size s pos ty HL.out.it hlt, h1, h2]
      obtain ⟨wi, hwi⟩ : ∃ wi, wr.iterAt w.heap.size s (pos + wd) = wi := ⟨_, rfl⟩
      have bx : Box wi g #[.int .i64 (n : Int)] 3 := by rw [← hwi]; exact HL.out.box.iterAt (by omega) s _
      have bx2 : Box wi g2 #[.int .i32 c] 21 := by rw [← hwi]; exact HL.out.box2.iterAt (by omega) s _
      have bxf : Box wi f #[.func (.func 109) #[] #[.pointer (some ⟨g, 0, none⟩), .pointer (some ⟨g2, 0, none⟩)]] 27 := by rw [← hwi]; exact HL.out.boxf.iterAt (by omega) s _
      have it : wi.heap[w.heap.size]? = some (.stringIter s (pos + wd)) := by rw [← hwi]; exact Lib.iterAt_heap wr w.heap.size s pos (pos + wd) HL.out.it
      have bel : Below B w wi := by rw [← hwi]; exact Lib.below_iterAt HL.out.bel (by omega) s _
      rw [hwi] at hnx
      have HEQ : Hid (nameA 0 46 (btL s) = nameA n c ((s[pos].toNat : Int) :: (btL s).drop (pos + 1))) := Lib.hid (by rw [← btL_cons s pos hlt]; exact HL.out.eq)
      -- what a step leaves behind it
      have post : Hid (∀ (w2 : World) (z d : Int), w2 = (wi.setCell ⟨g, 0, none⟩ (.int .i64 z)).setCell ⟨g2, 0, none⟩ (.int .i32 d) → Hid (Box w2 g #[.int .i64 z] 3) ∧ Hid (Box w2 g2 #[.int .i32 d] 21) ∧ Hid (Box w2 f #[.func (.func 109) #[] #[.pointer (some ⟨g, 0, none⟩), .pointer (some ⟨g2, 0, none⟩)]] 27) ∧ Hid (w2.heap[w.heap.size]? = some (.stringIter s (pos + wd))) ∧ Hid (Below B w w2) ∧ w.heap.size < w2.heap.size) := Lib.hid (by
        rintro w2 z d rfl
        have i2 := (Below.heap_setCell (wi.setCell ⟨g, 0, none⟩ (.int .i64 z)) ⟨g2, 0, none⟩ (.int .i32 d) w.heap.size (by show w.heap.size ≠ g2; omega)).trans ((Below.heap_setCell wi ⟨g, 0, none⟩ (.int .i64 z) w.heap.size (by show w.heap.size ≠ g; omega)).trans it)
        exact ⟨Lib.hid ((bx.set 0 _).other (a := ⟨g2, 0, none⟩) hgg _), Lib.hid ((bx2.other (a := ⟨g, 0, none⟩) (Ne.symm hgg) _).set 0 _), Lib.hid ((bxf.other (a := ⟨g, 0, none⟩) hfg _).other (a := ⟨g2, 0, none⟩) hfg2 _), Lib.hid i2, Lib.hid ((bel.setCell (p := ⟨g, 0, none⟩) hB _).setCell (p := ⟨g2, 0, none⟩) hB2 _), (Array.getElem?_eq_some_iff.1 i2).1⟩)
      have BX := Lib.hid bx
      have BX2 := Lib.hid bx2
      have BXF := Lib.hid bxf
      have BEL := Lib.hid bel
      have H6 := Lib.hid h6
      clear hwi bx bx2 bxf it bel h1 h2 h6
      by_cases hdot : rn = 46
      · subst hdot
        have hw1 : Hid ((s[pos].toNat : Int) = 46 ∧ wd = 1) := Lib.hid (by have := H6.out; omega)
        obtain ⟨b, hv⟩ : ∃ b, (decide (0 < n) && decide (c ≠ 45)) = b := ⟨_, rfl⟩
        have HE : Hid (nameA 0 46 (btL s) = (b && nameA 0 46 ((btL s).drop (pos + 1)))) := Lib.hid (by rw [HEQ.out, hw1.out.1, nameA_dot, hv])
        have HV := Lib.hid hv
        clear hv
        go_wp2_with fail
        refine (nstep_dot n c b f g g2 _ hgg HV.out BX.out BX2.out BXF.out).mono ?_
        rintro e w2 ⟨rfl, hw2⟩
        obtain ⟨q1, q2, q3, q4, q5, q6⟩ := post.out w2 0 46 hw2
        clear hw2
        cases b with
        | true =>
          go_wp2
          go_roundw
          case rel =>
            refine ⟨pos + wd, 0, 46, by omega, by omega, q6, Lib.hid ⟨q1.out, q2.out, q3.out, q4.out, q5.out, ?_⟩⟩
            rw [HE.out, Bool.true_and, hw1.out.2]
          case measure =>
            simp only [World.iterPos, q4.out, HL.out.it]
            omega
        | false =>
          go_wp2
          go_ret
          exact ⟨0, 46, false, rfl, q1.out, q2.out, q3.out, q5.out, by rw [HE.out, Bool.false_and, Bool.false_and]⟩
      · by_cases hdash : rn = 45
        · subst hdash
          have hw1 : Hid ((s[pos].toNat : Int) = 45 ∧ wd = 1) := Lib.hid (by have := H6.out; omega)
          by_cases h0 : 0 < n
          · obtain ⟨b, hv⟩ : ∃ b, decide (n + 1 ≤ 63) = b := ⟨_, rfl⟩
            have HE : Hid (nameA 0 46 (btL s) = (b && nameA (n + 1) 45 ((btL s).drop (pos + 1)))) := Lib.hid (by rw [HEQ.out, hw1.out.1, nameA_dash, decide_eq_true h0, Bool.true_and, hv])
            have HV := Lib.hid hv
            clear hv
            go_wp2_with fail
            refine (nstep_dash n c b f g g2 _ h0 (by omega) hgg HV.out BX.out BX2.out).mono ?_
            rintro e w2 ⟨rfl, hw2⟩
            obtain ⟨q1, q2, q3, q4, q5, q6⟩ := post.out w2 _ _ hw2
            clear hw2
            cases b with
            | true =>
              have hn2 : n + 1 ≤ 63 := of_decide_eq_true HV.out
              go_wp2
              go_roundw
              case rel =>
                refine ⟨pos + wd, n + 1, 45, by omega, hn2, q6, Lib.hid ⟨q1.out, q2.out, q3.out, q4.out, q5.out, ?_⟩⟩
                rw [HE.out, Bool.true_and, hw1.out.2]
              case measure =>
                simp only [World.iterPos, q4.out, HL.out.it]
                omega
            | false =>
              go_wp2
              go_ret
              exact ⟨n + 1, 45, false, rfl, q1.out, q2.out, q3.out, q5.out, by rw [HE.out, Bool.false_and, Bool.false_and]⟩
          · obtain rfl : n = 0 := by omega
            have HE : Hid (nameA 0 46 (btL s) = false) := Lib.hid (by rw [HEQ.out, hw1.out.1, nameA_dash, decide_eq_false h0, Bool.false_and, Bool.false_and])
            go_wp2_with fail
            refine (nstep_first f g g2 _ BX.out).mono ?_
            rintro e w2 ⟨rfl, hw⟩
            subst w2
            go_wp2
            go_ret
            exact ⟨0, c, false, rfl, BX.out, BX2.out, BXF.out, BEL.out, by rw [HE.out, Bool.false_and]⟩
        · cases ha : alnI rn with
          | false =>
            have HE : Hid (nameA 0 46 (btL s) = false) := Lib.hid (by
              have hb : alnI (s[pos].toNat : Int) = false ∧ (s[pos].toNat : Int) ≠ 46 ∧ (s[pos].toNat : Int) ≠ 45 := by
                rcases H6.out with ⟨h1, _, _⟩ | ⟨_, h2⟩
                · rw [← h1]; exact ⟨ha, hdot, hdash⟩
                · exact ⟨aln_high h2, by omega, by omega⟩
              rw [HEQ.out, nameA_other _ _ _ _ hb.2.1 hb.2.2, hb.1, Bool.false_and, Bool.false_and])
            have H1 := Lib.hid hdot
            have H2 := Lib.hid hdash
            have H3 := Lib.hid ha
            clear hdot hdash ha
            go_wp2_with fail
            refine (nstep_bad rn f g g2 _ H1.out H2.out H3.out).mono ?_
            rintro e w2 ⟨rfl, hw⟩
            subst w2
            go_wp2
            go_ret
            exact ⟨n, c, false, rfl, BX.out, BX2.out, BXF.out, BEL.out, by rw [HE.out, Bool.false_and]⟩
          | true =>
            have hw1 : Hid ((s[pos].toNat : Int) = rn ∧ wd = 1) := Lib.hid (by
              rcases H6.out with ⟨h1, _, h3⟩ | ⟨h2, _⟩
              · exact ⟨h1.symm, h3⟩
              · rw [aln_high h2] at ha; cases ha)
            obtain ⟨b, hv⟩ : ∃ b, decide (n + 1 ≤ 63) = b := ⟨_, rfl⟩
            have HE : Hid (nameA 0 46 (btL s) = (b && nameA (n + 1) rn ((btL s).drop (pos + 1)))) := Lib.hid (by rw [HEQ.out, hw1.out.1, nameA_other _ _ _ _ hdot hdash, ha, Bool.true_and, hv])
            have HC : Hid (∀ W, Box W g #[.int .i64 (n : Int)] 3 → Box W g2 #[.int .i32 c] 21 → Calls Tryd.prog 111 #[.int .i32 rn, .pointer (some ⟨f, 0, none⟩), .pointer (some ⟨g, 0, none⟩), .pointer (some ⟨g2, 0, none⟩)] W fun e w' => e = .returned (.bool b) ∧ w' = (W.setCell ⟨g, 0, none⟩ (.int .i64 ((n : Int) + 1))).setCell ⟨g2, 0, none⟩ (.int .i32 rn)) := Lib.hid (fun W k1 k2 => by
              by_cases hl : decide ((97 ≤ rn ∧ rn ≤ 122) ∨ (65 ≤ rn ∧ rn ≤ 90)) = true
              · exact nstep_let n rn c b f g g2 W hdot hdash hl (by omega) hgg hv k1 k2
              · have h3 : 48 ≤ rn ∧ rn ≤ 57 := by
                  have h1 : ¬ ((97 ≤ rn ∧ rn ≤ 122) ∨ (65 ≤ rn ∧ rn ≤ 90)) := fun e => hl (decide_eq_true e)
                  have h2 : (97 ≤ rn ∧ rn ≤ 122) ∨ (65 ≤ rn ∧ rn ≤ 90) ∨ (48 ≤ rn ∧ rn ≤ 57) := of_decide_eq_true ha
                  omega
                exact nstep_dig n rn c b f g g2 W hdot hdash h3.1 h3.2 (by omega) hgg hv k1 k2)
            have HV := Lib.hid hv
            clear hv ha hdot hdash
            go_wp2_with fail
            refine (HC.out _ BX.out BX2.out).mono ?_
            rintro e w2 ⟨rfl, hw2⟩
            obtain ⟨q1, q2, q3, q4, q5, q6⟩ := post.out w2 _ _ hw2
            clear hw2
            cases b with
            | true =>
              have hn2 : n + 1 ≤ 63 := of_decide_eq_true HV.out
              go_wp2
              go_roundw
              case rel =>
                refine ⟨pos + wd, n + 1, rn, by omega, hn2, q6, Lib.hid ⟨q1.out, q2.out, q3.out, q4.out, q5.out, ?_⟩⟩
                rw [HE.out, Bool.true_and, hw1.out.2]
              case measure =>
                simp only [World.iterPos, q4.out, HL.out.it]
                omega
            | false =>
              go_wp2
              go_ret
              exact ⟨n + 1, rn, false, rfl, q1.out, q2.out, q3.out, q5.out, by rw [HE.out, Bool.false_and, Bool.false_and]⟩
    · have hnx : ∀ ty, (Instr.next (.pointer (some ⟨w.heap.size, 0, none⟩)) true ty).run Tryd.prog wr = _ := fun ty => Lib.run_next_end_at wr w.heap.size s pos ty HL.out.it hlt
      have HN : Hid (nameA 0 46 (btL s) = (decide (0 < n) && decide (c ≠ 45))) := Lib.hid (by
        rw [HL.out.eq, List.drop_eq_nil_of_le (by simp; omega)]
        rfl)
      go_wp2
      go_ret
      exact ⟨n, c, true, rfl, HL.out.box, HL.out.box2, HL.out.boxf, HL.out.bel, by rw [HN.out, Bool.true_and]⟩
end Go.Proofs.YtcdodpkfhkfnkaaDoor
