/- The law on encoding, walked. -/
import Derived.Test.YtndgpdpabjaedaaFrOpen
namespace Go.Proofs.Ytndgpdpabjaedaa
open Go.RowKit
set_option linter.unusedSimpArgs false

set_option maxHeartbeats 2000000 in
theorem frameEncodes_no (r : Rc) (w : World) (hok : RecOk r) (hs : ¬ soundR r) :
    Calls Try.prog 3 #[.agg #[.int .i64 r.kind, .int .i64 r.id, .string r.host, .string r.path, .int .i64 r.prio, .int .i64 r.till]] w fun e w' => e = .returned (.bool true) ∧ Below w.heap.size w w' := by
  obtain ⟨_, _, _, _, hh, hp⟩ := hok
  obtain ⟨W, hW⟩ : ∃ W, wrap64 ((r.host.size : Int) + (r.path.size : Int)) = W := ⟨_, rfl⟩
  have hz : Below w.heap.size w (w.alloc (.cells #[.int .i64 r.kind, .int .i64 r.id, .string r.host, .string r.path, .int .i64 r.prio, .int .i64 r.till] 25)) := (Below.refl _ _).alloc (Nat.le_refl _) _
  by_cases hd : 3000 < W
  · have hd1 : decide (3000 < W) = true := decide_eq_true hd
    go_enter Try.func3, Try.ntmps3
    go_wp2_with fail
    refine (awake14 _).mono ?_
    rintro e w1 ⟨rfl, hb1⟩
    go_wp2_with fail
    go_ret
    exact ⟨rfl, hz.trans (hb1.mono (by simp))⟩
  · have hd1 : decide (3000 < W) = false := decide_eq_false hd
    go_enter Try.func3, Try.ntmps3
    go_wp2_with fail
    refine (enc_no r _ hs).mono ?_
    rintro e w1 ⟨rfl, hb1⟩
    have z1 : Box w1 w.heap.size #[.int .i64 r.kind, .int .i64 r.id, .string r.host, .string r.path, .int .i64 r.prio, .int .i64 r.till] 25 := (Box.new w #[.int .i64 r.kind, .int .i64 r.id, .string r.host, .string r.path, .int .i64 r.prio, .int .i64 r.till] 25).later hb1
    have B1 : Below w.heap.size w w1 := hz.trans (hb1.mono (by simp))
    obtain ⟨lx, cx, fx⟩ := z1.facts
    go_wp2_with fail
    refine (rsound_no r _ hs).mono ?_
    rintro e w2 ⟨rfl, hb2⟩
    have B2 := B1.trans (hb2.mono B1.size)
    clear lx cx fx
    go_wp2_with fail
    refine (awake14 _).mono ?_
    rintro e w3 ⟨rfl, hb3⟩
    go_wp2_with fail
    go_ret
    exact ⟨rfl, B2.trans (hb3.mono B2.size)⟩

set_option maxHeartbeats 2000000 in
theorem frameEncodes_yes (r : Rc) (w : World) (hok : RecOk r) (hs : soundR r) :
    Calls Try.prog 3 #[.agg #[.int .i64 r.kind, .int .i64 r.id, .string r.host, .string r.path, .int .i64 r.prio, .int .i64 r.till]] w fun e w' => e = .returned (.bool true) ∧ Below w.heap.size w w' := by
  have hfit := hok.fit
  obtain ⟨_, _, _, _, _, _, hh, hp⟩ := id hs
  obtain ⟨E, hE⟩ : ∃ E, encR r = E := ⟨_, rfl⟩
  obtain ⟨n, hn⟩ : ∃ n, E.length = n := ⟨_, rfl⟩
  have hnb : n ≤ 3000 ∧ 26 ≤ n := by
    rw [← hn, ← hE]
    refine ⟨?_, encR_ge r⟩
    unfold encR
    rw [recB_length, contR_length]
    omega
  obtain ⟨hn1, hn2⟩ := hnb
  have hS : Scanned E [r] n := by
    have := scanned_one hs hfit (rest := []) decR_nil
    rw [List.append_nil, hE, hn] at this
    exact this
  have HBY : Hid (Byts E) := Lib.hid (hE ▸ encR_byts hs)
  have HE := Lib.hid hE
  have HN := Lib.hid hn
  have HS := Lib.hid hS
  clear hE hn hS
  have hd1 : decide (3000 < (r.host.size : Int) + (r.path.size : Int)) = false := decide_eq_false (by omega)
  go_enter Try.func3, Try.ntmps3
  go_wp2_with fail
  refine (enc_as r E n HE.out HN.out _ hs).mono ?_
  rintro e w1 ⟨g1, c1, rfl, ho1, hb1⟩
  have z1 : Box w1 w.heap.size #[.int .i64 r.kind, .int .i64 r.id, .string r.host, .string r.path, .int .i64 r.prio, .int .i64 r.till] 25 := (Box.new w #[.int .i64 r.kind, .int .i64 r.id, .string r.host, .string r.path, .int .i64 r.prio, .int .i64 r.till] 25).later hb1
  have B1 : Below w.heap.size w w1 := ((Below.refl _ _).alloc (Nat.le_refl _) _).trans (hb1.mono (by simp))
  obtain ⟨lx, cx, fx⟩ := z1.facts
  clear hb1
  go_wp2_with fail
  refine (rsound_yes r _ hs).mono ?_
  rintro e w2 ⟨rfl, hb2⟩
  have z2 := z1.later hb2
  have B2 := B1.trans (hb2.mono B1.size)
  have ho2 := ho1.later hb2
  clear lx cx fx z1 B1 ho1 hb2
  obtain ⟨lx, cx, fx⟩ := z2.facts
  have hcap := ho2.cap_le
  rw [HN.out] at hcap
  go_wp2_with fail
  refine (scan_as E [r] n 1 HS.out rfl n _ _ _ HN.out ho2.rd HBY.out hcap (by omega) (Or.inr ⟨_, _, rfl⟩)).mono ?_
  rintro e w3 ⟨a3, c3, rfl, hr3, hk3, hb3⟩
  obtain ⟨g3, o3, rfl, _⟩ := hr3.first
  have HZ := Lib.hid (z2.later hb3)
  have HB := Lib.hid (B2.trans (hb3.mono B2.size))
  have HO := Lib.hid (ho2.later hb3)
  have HR := Lib.hid hr3
  clear lx cx fx z2 B2 ho2 hb3 hr3
  go_wp2_with fail
  refine wp_region_last 34 (fun w' => Below w3.heap.size w3 w') (by kernel_rfl) (Below.drew (Below.refl _ _)) (fun hHeld hClosed => ?_)
  refine wpAnyL_one (i := 0) rfl (by kernel_rfl) (by kernel_rfl) hClosed (fun KK hK => ?_)
  go_simp
  refine (awake14 _).mono ?_
  rintro e w4 ⟨rfl, hb4⟩
  go_wp2_with fail
  refine hK.out _ _ ?_ (fun hClosed hHeld => ?_)
  · exact hHeld.trans (hb4.mono hHeld.size)
  clear hK KK
  (first | simp only [List.getElem_toArray, List.getElem_cons_zero, put_at, List.set] | (try simp only [put_at, List.set]))
  refine wpAnyL_take (i := 1) (v := ?_) rfl (by kernel_rfl) (by kernel_rfl) (by kernel_rfl) (by kernel_rfl) (fun _ _ _ h => h) (by kernel_rfl) hClosed (Or.inl ⟨by rfl, ?_⟩) hHeld (fun hClosed => ?_)
  rotate_left
  · intro wv hSw; go_simp; all_goals (with_reducible rfl)
  (try simp only [List.getElem_toArray, List.getElem_cons_succ, List.getElem_cons_zero, put_at, List.set])
  refine wpAnyL_take (i := 2) (v := ?_) rfl (by kernel_rfl) (by kernel_rfl) (by kernel_rfl) (by kernel_rfl) (fun _ _ _ h => h) (by kernel_rfl) hClosed (Or.inl ⟨by rfl, ?_⟩) hHeld (fun hClosed => ?_)
  rotate_left
  · intro wv hSw; go_simp; all_goals (with_reducible rfl)
  (try simp only [List.getElem_toArray, List.getElem_cons_succ, List.getElem_cons_zero, put_at, List.set])
  refine wpAnyL_take (i := 3) (v := ?_) rfl (by kernel_rfl) (by kernel_rfl) (by kernel_rfl) (by kernel_rfl) (fun _ _ _ h => h) (by kernel_rfl) hClosed (Or.inl ⟨by rfl, ?_⟩) hHeld (fun hClosed => ?_)
  rotate_left
  · intro wv hSw; go_simp; all_goals (with_reducible rfl)
  (try simp only [List.getElem_toArray, List.getElem_cons_succ, List.getElem_cons_zero, put_at, List.set])
  refine wpAnyL_take (i := 4) (v := ?_) rfl (by kernel_rfl) (by kernel_rfl) (by kernel_rfl) (by kernel_rfl) (fun _ _ _ h => h) (by kernel_rfl) hClosed (Or.inl ⟨by rfl, ?_⟩) hHeld (fun hClosed => ?_)
  rotate_left
  · intro wv hSw; go_simp; all_goals (with_reducible rfl)
  (try simp only [List.getElem_toArray, List.getElem_cons_succ, List.getElem_cons_zero, put_at, List.set])
  refine wpAnyL_take (i := 5) (v := ?_) rfl (by kernel_rfl) (by kernel_rfl) (by kernel_rfl) (by kernel_rfl) (fun _ _ _ h => h) (by kernel_rfl) hClosed (Or.inl ⟨by rfl, ?_⟩) hHeld (fun hClosed => ?_)
  rotate_left
  · intro wv hSw; go_simp; all_goals (with_reducible rfl)
  (try simp only [List.getElem_toArray, List.getElem_cons_succ, List.getElem_cons_zero, put_at, List.set])
  refine wpAnyL_take (i := 6) (v := ?_) rfl (by kernel_rfl) (by kernel_rfl) (by kernel_rfl) (by kernel_rfl) (fun _ _ _ h => h) (by kernel_rfl) hClosed (Or.inl ⟨by rfl, ?_⟩) hHeld (fun hClosed => ?_)
  rotate_left
  · intro wv hSw; go_simp; all_goals (with_reducible rfl)
  (try simp only [List.getElem_toArray, List.getElem_cons_succ, List.getElem_cons_zero, put_at, List.set])
  refine wpAnyL_take (i := 7) (v := ?_) rfl (by kernel_rfl) (by kernel_rfl) (by kernel_rfl) (by kernel_rfl) (fun _ _ _ h => h) (by kernel_rfl) hClosed (Or.inl ⟨by rfl, ?_⟩) hHeld (fun hClosed => ?_)
  rotate_left
  · intro wv hSw; have hz := HZ.out.later hSw; obtain ⟨lz, cz, fz⟩ := hz.facts; obtain ⟨e0, e1, e2, e3, e4, e5⟩ := (HR.out.later hSw).cells0; have hX := (HO.out.later hSw).rd.text (P := Try.prog) 27 5 9 Try.underlying27 Try.underlying5 Try.underlying9 (fun _ => Or.inr ⟨_, _, rfl⟩) c1; rw [HN.out] at hX; go_simp; all_goals (with_reducible rfl)
  (try simp only [List.getElem_toArray, List.getElem_cons_succ, List.getElem_cons_zero, put_at, List.set])
  refine wpAnyL_take (i := 8) (v := ?_) rfl (by kernel_rfl) (by kernel_rfl) (by kernel_rfl) (by kernel_rfl) (fun _ _ _ h => h) (by kernel_rfl) hClosed (Or.inl ⟨by rfl, ?_⟩) hHeld (fun hClosed => ?_)
  rotate_left
  · intro wv hSw; go_simp; all_goals (with_reducible rfl)
  (try simp only [List.getElem_toArray, List.getElem_cons_succ, List.getElem_cons_zero, put_at, List.set])
  refine wpAnyL_take (i := 9) (v := ?_) rfl (by kernel_rfl) (by kernel_rfl) (by kernel_rfl) (by kernel_rfl) (fun _ _ _ h => h) (by kernel_rfl) hClosed (Or.inl ⟨by rfl, ?_⟩) hHeld (fun hClosed => ?_)
  rotate_left
  · intro wv hSw; have hz := HZ.out.later hSw; obtain ⟨lz, cz, fz⟩ := hz.facts; obtain ⟨e0, e1, e2, e3, e4, e5⟩ := (HR.out.later hSw).cells0; have hX := (HO.out.later hSw).rd.text (P := Try.prog) 27 5 9 Try.underlying27 Try.underlying5 Try.underlying9 (fun _ => Or.inr ⟨_, _, rfl⟩) c1; rw [HN.out] at hX; go_simp; all_goals (with_reducible rfl)
  (try simp only [List.getElem_toArray, List.getElem_cons_succ, List.getElem_cons_zero, put_at, List.set])
  refine wpAnyL_take (i := 10) (v := ?_) rfl (by kernel_rfl) (by kernel_rfl) (by kernel_rfl) (by kernel_rfl) (fun _ _ _ h => h) (by kernel_rfl) hClosed (Or.inl ⟨by rfl, ?_⟩) hHeld (fun hClosed => ?_)
  rotate_left
  · intro wv hSw; go_simp; all_goals (with_reducible rfl)
  (try simp only [List.getElem_toArray, List.getElem_cons_succ, List.getElem_cons_zero, put_at, List.set])
  refine wpAnyL_take (i := 11) (v := ?_) rfl (by kernel_rfl) (by kernel_rfl) (by kernel_rfl) (by kernel_rfl) (fun _ _ _ h => h) (by kernel_rfl) hClosed (Or.inl ⟨by rfl, ?_⟩) hHeld (fun hClosed => ?_)
  rotate_left
  · intro wv hSw; have hz := HZ.out.later hSw; obtain ⟨lz, cz, fz⟩ := hz.facts; obtain ⟨e0, e1, e2, e3, e4, e5⟩ := (HR.out.later hSw).cells0; have hX := (HO.out.later hSw).rd.text (P := Try.prog) 27 5 9 Try.underlying27 Try.underlying5 Try.underlying9 (fun _ => Or.inr ⟨_, _, rfl⟩) c1; rw [HN.out] at hX; go_simp; all_goals (with_reducible rfl)
  (try simp only [List.getElem_toArray, List.getElem_cons_succ, List.getElem_cons_zero, put_at, List.set])
  refine wpAnyL_one (i := 12) rfl (by kernel_rfl) (by kernel_rfl) hClosed (fun KK hK => ?_)
  go_simp
  refine (record_as r E n HE.out HN.out _ hs).mono ?_
  rintro e w5 ⟨g5, c5, rfl, ho5, hb5⟩
  go_wp2_with fail
  refine hK.out _ _ ?_ (fun hClosed hHeld => ?_)
  · exact hHeld.trans (hb5.mono hHeld.size)
  clear hK KK
  (first | simp only [List.getElem_toArray, List.getElem_cons_succ, List.getElem_cons_zero, put_at, List.set] | (try simp only [put_at, List.set]))
  refine wpAnyL_one (i := 13) rfl (by kernel_rfl) (by kernel_rfl) hClosed (fun KK hK => ?_)
  have hY := ho5.rd.text (P := Try.prog) 27 5 9 Try.underlying27 Try.underlying5 Try.underlying9 (fun _ => Or.inr ⟨_, _, rfl⟩) c5
  rw [HN.out] at hY
  go_simp
  refine hK.out _ _ ?_ (fun hClosed hHeld => ?_)
  · exact hHeld
  clear hK KK
  (first | simp only [List.getElem_toArray, List.getElem_cons_succ, List.getElem_cons_zero, put_at, List.set] | (try simp only [put_at, List.set]))
  clear hY
  refine wpAnyL_take (i := 14) (v := ?_) rfl (by kernel_rfl) (by kernel_rfl) (by kernel_rfl) (by kernel_rfl) (fun _ _ _ h => h) (by kernel_rfl) hClosed (Or.inl ⟨by rfl, ?_⟩) hHeld (fun hClosed => ?_)
  rotate_left
  · intro wv hSw; go_simp; all_goals (with_reducible rfl)
  (try simp only [List.getElem_toArray, List.getElem_cons_succ, List.getElem_cons_zero, put_at, List.set])
  refine wpAnyL_take (i := 15) (v := ?_) rfl (by kernel_rfl) (by kernel_rfl) (by kernel_rfl) (by kernel_rfl) (fun _ _ _ h => h) (by kernel_rfl) hClosed (Or.inl ⟨by rfl, ?_⟩) hHeld (fun hClosed => ?_)
  rotate_left
  · intro wv hSw; go_simp; all_goals (with_reducible rfl)
  (try simp only [List.getElem_toArray, List.getElem_cons_succ, List.getElem_cons_zero, put_at, List.set])
  refine wpAnyL_take (i := 16) (v := ?_) rfl (by kernel_rfl) (by kernel_rfl) (by kernel_rfl) (by kernel_rfl) (fun _ _ _ h => h) (by kernel_rfl) hClosed (Or.inl ⟨by rfl, ?_⟩) hHeld (fun hClosed => ?_)
  rotate_left
  · intro wv hSw; go_simp; all_goals (with_reducible rfl)
  (try simp only [List.getElem_toArray, List.getElem_cons_succ, List.getElem_cons_zero, put_at, List.set])
  refine wpAnyL_take (i := 17) (v := ?_) rfl (by kernel_rfl) (by kernel_rfl) (by kernel_rfl) (by kernel_rfl) (fun _ _ _ h => h) (by kernel_rfl) hClosed (Or.inl ⟨by rfl, ?_⟩) hHeld (fun hClosed => ?_)
  rotate_left
  · intro wv hSw; go_simp; all_goals (with_reducible rfl)
  (try simp only [List.getElem_toArray, List.getElem_cons_succ, List.getElem_cons_zero, put_at, List.set])
  refine wpAnyL_take (i := 18) (v := ?_) rfl (by kernel_rfl) (by kernel_rfl) (by kernel_rfl) (by kernel_rfl) (fun _ _ _ h => h) (by kernel_rfl) hClosed (Or.inl ⟨by rfl, ?_⟩) hHeld (fun hClosed => ?_)
  rotate_left
  · intro wv hSw; go_simp; all_goals (with_reducible rfl)
  (try simp only [List.getElem_toArray, List.getElem_cons_succ, List.getElem_cons_zero, put_at, List.set])
  refine wpAnyL_take (i := 19) (v := ?_) rfl (by kernel_rfl) (by kernel_rfl) (by kernel_rfl) (by kernel_rfl) (fun _ _ _ h => h) (by kernel_rfl) hClosed (Or.inl ⟨by rfl, ?_⟩) hHeld (fun hClosed => ?_)
  rotate_left
  · intro wv hSw; go_simp; all_goals (with_reducible rfl)
  (try simp only [List.getElem_toArray, List.getElem_cons_succ, List.getElem_cons_zero, put_at, List.set])
  refine wpAnyL_take (i := 20) (v := ?_) rfl (by kernel_rfl) (by kernel_rfl) (by kernel_rfl) (by kernel_rfl) (fun _ _ _ h => h) (by kernel_rfl) hClosed (Or.inl ⟨by rfl, ?_⟩) hHeld (fun hClosed => ?_)
  rotate_left
  · intro wv hSw; go_simp; all_goals (with_reducible rfl)
  (try simp only [List.getElem_toArray, List.getElem_cons_succ, List.getElem_cons_zero, put_at, List.set])
  refine wpAnyL_take (i := 21) (v := ?_) rfl (by kernel_rfl) (by kernel_rfl) (by kernel_rfl) (by kernel_rfl) (fun _ _ _ h => h) (by kernel_rfl) hClosed (Or.inl ⟨by rfl, ?_⟩) hHeld (fun hClosed => ?_)
  rotate_left
  · intro wv hSw; go_simp; all_goals (with_reducible rfl)
  (try simp only [List.getElem_toArray, List.getElem_cons_succ, List.getElem_cons_zero, put_at, List.set])
  refine wpAnyL_take (i := 22) (v := ?_) rfl (by kernel_rfl) (by kernel_rfl) (by kernel_rfl) (by kernel_rfl) (fun _ _ _ h => h) (by kernel_rfl) hClosed (Or.inl ⟨by rfl, ?_⟩) hHeld (fun hClosed => ?_)
  rotate_left
  · intro wv hSw; go_simp; all_goals (with_reducible rfl)
  (try simp only [List.getElem_toArray, List.getElem_cons_succ, List.getElem_cons_zero, put_at, List.set])
  refine wpAnyL_take (i := 23) (v := ?_) rfl (by kernel_rfl) (by kernel_rfl) (by kernel_rfl) (by kernel_rfl) (fun _ _ _ h => h) (by kernel_rfl) hClosed (Or.inl ⟨by rfl, ?_⟩) hHeld (fun hClosed => ?_)
  rotate_left
  · intro wv hSw; go_simp; all_goals (with_reducible rfl)
  (try simp only [List.getElem_toArray, List.getElem_cons_succ, List.getElem_cons_zero, put_at, List.set])
  refine wpAnyL_take (i := 24) (v := ?_) rfl (by kernel_rfl) (by kernel_rfl) (by kernel_rfl) (by kernel_rfl) (fun _ _ _ h => h) (by kernel_rfl) hClosed (Or.inl ⟨by rfl, ?_⟩) hHeld (fun hClosed => ?_)
  rotate_left
  · intro wv hSw; have hz := HZ.out.later hSw; obtain ⟨lz, cz, fz⟩ := hz.facts; obtain ⟨e0, e1, e2, e3, e4, e5⟩ := (HR.out.later hSw).cells0; have hX := (HO.out.later hSw).rd.text (P := Try.prog) 27 5 9 Try.underlying27 Try.underlying5 Try.underlying9 (fun _ => Or.inr ⟨_, _, rfl⟩) c1; rw [HN.out] at hX; go_simp; all_goals (with_reducible rfl)
  (try simp only [List.getElem_toArray, List.getElem_cons_succ, List.getElem_cons_zero, put_at, List.set])
  refine wpAnyL_take (i := 25) (v := ?_) rfl (by kernel_rfl) (by kernel_rfl) (by kernel_rfl) (by kernel_rfl) (fun _ _ _ h => h) (by kernel_rfl) hClosed (Or.inl ⟨by rfl, ?_⟩) hHeld (fun hClosed => ?_)
  rotate_left
  · intro wv hSw; have hz := HZ.out.later hSw; obtain ⟨lz, cz, fz⟩ := hz.facts; obtain ⟨e0, e1, e2, e3, e4, e5⟩ := (HR.out.later hSw).cells0; have hX := (HO.out.later hSw).rd.text (P := Try.prog) 27 5 9 Try.underlying27 Try.underlying5 Try.underlying9 (fun _ => Or.inr ⟨_, _, rfl⟩) c1; rw [HN.out] at hX; go_simp; all_goals (with_reducible rfl)
  (try simp only [List.getElem_toArray, List.getElem_cons_succ, List.getElem_cons_zero, put_at, List.set])
  refine wpAnyL_take (i := 26) (v := ?_) rfl (by kernel_rfl) (by kernel_rfl) (by kernel_rfl) (by kernel_rfl) (fun _ _ _ h => h) (by kernel_rfl) hClosed (Or.inl ⟨by rfl, ?_⟩) hHeld (fun hClosed => ?_)
  rotate_left
  · intro wv hSw; go_simp; all_goals (with_reducible rfl)
  (try simp only [List.getElem_toArray, List.getElem_cons_succ, List.getElem_cons_zero, put_at, List.set])
  refine wpAnyL_take (i := 27) (v := ?_) rfl (by kernel_rfl) (by kernel_rfl) (by kernel_rfl) (by kernel_rfl) (fun _ _ _ h => h) (by kernel_rfl) hClosed (Or.inl ⟨by rfl, ?_⟩) hHeld (fun hClosed => ?_)
  rotate_left
  · intro wv hSw; go_simp; all_goals (with_reducible rfl)
  (try simp only [List.getElem_toArray, List.getElem_cons_succ, List.getElem_cons_zero, put_at, List.set])
  refine wpAnyL_take (i := 28) (v := ?_) rfl (by kernel_rfl) (by kernel_rfl) (by kernel_rfl) (by kernel_rfl) (fun _ _ _ h => h) (by kernel_rfl) hClosed (Or.inl ⟨by rfl, ?_⟩) hHeld (fun hClosed => ?_)
  rotate_left
  · intro wv hSw; go_simp; all_goals (with_reducible rfl)
  (try simp only [List.getElem_toArray, List.getElem_cons_succ, List.getElem_cons_zero, put_at, List.set])
  refine wpAnyL_take (i := 29) (v := ?_) rfl (by kernel_rfl) (by kernel_rfl) (by kernel_rfl) (by kernel_rfl) (fun _ _ _ h => h) (by kernel_rfl) hClosed (Or.inl ⟨by rfl, ?_⟩) hHeld (fun hClosed => ?_)
  rotate_left
  · intro wv hSw; go_simp; all_goals (with_reducible rfl)
  (try simp only [List.getElem_toArray, List.getElem_cons_succ, List.getElem_cons_zero, put_at, List.set])
  refine wpAnyL_take (i := 30) (v := ?_) rfl (by kernel_rfl) (by kernel_rfl) (by kernel_rfl) (by kernel_rfl) (fun _ _ _ h => h) (by kernel_rfl) hClosed (Or.inl ⟨by rfl, ?_⟩) hHeld (fun hClosed => ?_)
  rotate_left
  · intro wv hSw; go_simp; all_goals (with_reducible rfl)
  (try simp only [List.getElem_toArray, List.getElem_cons_succ, List.getElem_cons_zero, put_at, List.set])
  refine wpAnyL_take (i := 31) (v := ?_) rfl (by kernel_rfl) (by kernel_rfl) (by kernel_rfl) (by kernel_rfl) (fun _ _ _ h => h) (by kernel_rfl) hClosed (Or.inl ⟨by rfl, ?_⟩) hHeld (fun hClosed => ?_)
  rotate_left
  · intro wv hSw; go_simp; all_goals (with_reducible rfl)
  (try simp only [List.getElem_toArray, List.getElem_cons_succ, List.getElem_cons_zero, put_at, List.set])
  refine wpAnyL_take (i := 32) (v := ?_) rfl (by kernel_rfl) (by kernel_rfl) (by kernel_rfl) (by kernel_rfl) (fun _ _ _ h => h) (by kernel_rfl) hClosed (Or.inl ⟨by rfl, ?_⟩) hHeld (fun hClosed => ?_)
  rotate_left
  · intro wv hSw; go_simp; all_goals (with_reducible rfl)
  (try simp only [List.getElem_toArray, List.getElem_cons_succ, List.getElem_cons_zero, put_at, List.set])
  refine wpAnyL_take (i := 33) (v := ?_) rfl (by kernel_rfl) (by kernel_rfl) (by kernel_rfl) (by kernel_rfl) (fun _ _ _ h => h) (by kernel_rfl) hClosed (Or.inl ⟨by rfl, ?_⟩) hHeld (fun hClosed => ?_)
  rotate_left
  · intro wv hSw; go_simp; all_goals (with_reducible rfl)
  (try simp only [List.getElem_toArray, List.getElem_cons_succ, List.getElem_cons_zero, put_at, List.set])
  refine wpAnyL_last rfl (by kernel_rfl) (by kernel_rfl) (fun KK hK => ?_)
  go_simp
  refine hK.out _ _ ?_
  (try simp only [put_at, List.set])
  go_wp2_with fail
  go_ret
  exact ⟨rfl, HB.out.trans (hHeld.mono HB.out.size)⟩

theorem frameEncodes_walk (r : Rc) (w : World) (hok : RecOk r) :
    Calls Try.prog 3 #[.agg #[.int .i64 r.kind, .int .i64 r.id, .string r.host, .string r.path, .int .i64 r.prio, .int .i64 r.till]] w fun e w' => e = .returned (.bool true) ∧ Below w.heap.size w w' := by
  by_cases h : soundR r
  · exact frameEncodes_yes r w hok h
  · exact frameEncodes_no r w hok h
end Go.Proofs.Ytndgpdpabjaedaa
