/- Package frame: the document's bytes of a record. -/
import Derived.Test.YtndgpdpabjaedaaFrEnc
import Derived.Test.YtndgpdpabjaedaaForget
namespace Go.Proofs.Ytndgpdpabjaedaa
open Go.RowKit
set_option linter.unusedSimpArgs false

theorem big_as (n : Int) (size : Nat) (ys : List Int) (hy : bigI n size = ys) (w : World) (h0 : 0 < size) (hs : size ≤ 8) :
    Calls Try.prog 19 #[.int .i64 n, .int .i64 size] w fun e w' => ∃ g cap', e = .returned (.slice (some ⟨g, 0, none⟩) ys.length cap') ∧ OwnB w' w.heap.size (some ⟨g, 0, none⟩) cap' ys ∧ Below w.heap.size w w' := by
  subst hy
  refine (big_at n size w hs).mono ?_
  rintro e w' ⟨a', cap', rfl, ho, hb⟩
  obtain ⟨_, h, _⟩ | ⟨g, rfl, _⟩ := ho.form
  · have := congrArg List.length h
    simp at this
    omega
  · exact ⟨g, cap', rfl, ho, hb⟩
theorem rsum_as (l : List Int) (n : Nat) (v : BitVec 32) (a : Option Addr) (cap : Nat) (w : World) (hr : RdB w a l) (hn : l.length = n) (hb : Byts l) (hl : n < 1000000) (hv : sumC l = v) :
    Calls Try.prog 15 #[.slice a n cap] w fun e w' => e = .returned (.int .u32 v.toNat) ∧ w = w' := by
  subst hn
  subst hv
  exact rsum_at l a cap w hr hb hl

set_option maxHeartbeats 2000000 in
theorem record_at (r : Rc) (w : World) (h : soundR r) :
    Calls Try.prog 13 #[.int .i64 r.kind, .agg (reqL r).toArray] w fun e w' => ∃ a' cap', e = .returned (.slice a' (encR r).length cap') ∧ OwnB w' w.heap.size a' cap' (encR r) ∧ Below w.heap.size w w' := by
  show Calls Try.prog 13 #[.int .i64 r.kind, .agg #[.int .i64 r.id, .string r.host, .string r.path, .int .i64 r.prio, .int .i64 r.till]] w _
  obtain ⟨s1, s2, s3, s4, s5, s6, s7, s8⟩ := id h
  have hk : r.kind % 256 = r.kind := by omega
  have hpr : r.prio % 256 = r.prio := by omega
  have hkw : IntKind.u8.wrap r.kind = r.kind := by rw [IntKind.wrap_u8]; omega
  have hpw : IntKind.u8.wrap r.prio = r.prio := by rw [IntKind.wrap_u8]; omega
  have hby := contR_byts h
  obtain ⟨x2, hx2⟩ : ∃ x, [r.kind, r.prio] ++ bigI r.id 8 = x := ⟨_, rfl⟩
  obtain ⟨x3, hx3⟩ : ∃ x, x2 ++ bigI r.till 8 = x := ⟨_, rfl⟩
  obtain ⟨x4, hx4⟩ : ∃ x, x3 ++ bigI r.host.size 2 = x := ⟨_, rfl⟩
  obtain ⟨x5, hx5⟩ : ∃ x, x4 ++ btL r.host = x := ⟨_, rfl⟩
  obtain ⟨x6, hx6⟩ : ∃ x, x5 ++ btL r.path = x := ⟨_, rfl⟩
  have hc : contR r = x6 := by
    rw [← hx6, ← hx5, ← hx4, ← hx3, ← hx2]
    simp [contR]
  rw [hc] at hby
  have l2 : x2.length = 10 := by rw [← hx2]; simp
  have l3 : x3.length = 18 := by rw [← hx3, List.length_append, l2]; simp
  have l4 : x4.length = 20 := by rw [← hx4, List.length_append, l3]; simp
  have l5 : x5.length = 20 + r.host.size := by rw [← hx5, List.length_append, l4]; simp
  have l6 : x6.length = 20 + r.host.size + r.path.size := by rw [← hx6, List.length_append, l5]; simp
  obtain ⟨y1, hy1⟩ : ∃ y, bigI x6.length 2 = y := ⟨_, rfl⟩
  obtain ⟨y2, hy2⟩ : ∃ y, y1 ++ bigI (sumC x6).toNat 4 = y := ⟨_, rfl⟩
  have m1 : y1.length = 2 := by rw [← hy1]; simp
  have m2 : y2.length = 6 := by rw [← hy2, List.length_append, m1]; simp
  have he : encR r = y2 ++ x6 := by
    unfold encR recB
    rw [hc, ← hy2, ← hy1, List.append_assoc]
  obtain ⟨sm, hsm⟩ : ∃ s, sumC x6 = s := ⟨_, rfl⟩
  rw [hsm] at hy2
  have b2 : x2.length ≤ 2000 := by omega
  have b3 : x3.length ≤ 2000 := by omega
  have b4 : x4.length ≤ 2000 := by omega
  have b5 : x5.length ≤ 2000 := by omega
  have b6 : x6.length ≤ 2000 := by omega
  have b6' : 20 ≤ x6.length := by omega
  have n1 : y1.length ≤ 10 := by omega
  have n2 : y2.length ≤ 10 := by omega
  obtain ⟨p2, hp2⟩ : ∃ p, bigI r.id 8 = p := ⟨_, rfl⟩
  obtain ⟨p3, hp3⟩ : ∃ p, bigI r.till 8 = p := ⟨_, rfl⟩
  obtain ⟨p4, hp4⟩ : ∃ p, bigI r.host.size 2 = p := ⟨_, rfl⟩
  obtain ⟨p5, hp5⟩ : ∃ p, bigI sm.toNat 4 = p := ⟨_, rfl⟩
  have t2 : p2.length = 8 := by rw [← hp2]; simp
  have t3 : p3.length = 8 := by rw [← hp3]; simp
  have t4 : p4.length = 2 := by rw [← hp4]; simp
  have t5 : p5.length = 4 := by rw [← hp5]; simp
  have u2 : p2.length ≤ 8 := by omega
  have u3 : p3.length ≤ 8 := by omega
  have u4 : p4.length ≤ 8 := by omega
  have u5 : p5.length ≤ 8 := by omega
  rw [hp2] at hx2
  rw [hp3] at hx3
  rw [hp4] at hx4
  rw [hp5] at hy2
  have HP2 := Lib.hid hp2
  have HP3 := Lib.hid hp3
  have HP4 := Lib.hid hp4
  have HP5 := Lib.hid hp5
  clear hp2 hp3 hp4 hp5 t2 t3 t4 t5
  have HX2 := Lib.hid hx2
  have HX3 := Lib.hid hx3
  have HX4 := Lib.hid hx4
  have HX5 := Lib.hid hx5
  have HX6 := Lib.hid hx6
  have HY1 := Lib.hid hy1
  have HY2 := Lib.hid hy2
  have HSM := Lib.hid hsm
  have HE := Lib.hid he
  have HBY := Lib.hid hby
  have HLN : Hid ((y2 ++ x6).length = y2.length + x6.length) := Lib.hid (by simp)
  clear hx2 hx3 hx4 hx5 hx6 hy1 hy2 hsm he hc hby l2 l3 l4 l5 l6 m1 m2
  go_enter Try.func13, Try.ntmps13
  go_upto_region 0 with fail
  go_cut [3, 4] (fun v3 v4 wx => v3 = .pointer (some ⟨w.heap.size, 0, none⟩) ∧ v4 = .slice none 0 0 ∧ Hid (Box wx w.heap.size #[.int .i64 r.id, .string r.host, .string r.path, .int .i64 r.prio, .int .i64 r.till] 23) ∧ Hid (Below w.heap.size w wx))
  case first =>
    go_wp2_with fail
    go_meet
    exact ⟨rfl, rfl, Lib.hid (Box.new _ _ _), Lib.hid ((Below.refl _ _).alloc (Nat.le_refl _) _)⟩
  case rest =>
  obtain ⟨rfl, rfl, HZ, HB⟩ := hcut
  go_wp2_with fail
  go_cut [5] (fun v5 wx => ∃ a c, v5 = .slice a x2.length c ∧ Hid (OwnB wx (w.heap.size + 1) a c x2) ∧ Hid (Box wx w.heap.size #[.int .i64 r.id, .string r.host, .string r.path, .int .i64 r.prio, .int .i64 r.till] 23) ∧ Hid (Below w.heap.size w wx))
  case first =>
    refine wp_region_last 10 (fun w' => Box w' w.heap.size #[.int .i64 r.id, .string r.host, .string r.path, .int .i64 r.prio, .int .i64 r.till] 23 ∧ Below w.heap.size w w') (by kernel_rfl) (⟨HZ.out.drew, HB.out.drew⟩) (fun hHeld hClosed => ?_)
    refine wpAnyL_take (i := 0) (v := ?_) rfl (by kernel_rfl) (by kernel_rfl) (by kernel_rfl) (by kernel_rfl) (fun _ _ _ h => h) (by kernel_rfl) hClosed (Or.inl ⟨by rfl, ?_⟩) hHeld (fun hClosed => ?_)
    rotate_left
    · intro wv hSw; go_simp; all_goals (with_reducible rfl)
    (try simp only [List.getElem_toArray, List.getElem_cons_zero, put_at, List.set])
    refine wpAnyL_take (i := 1) (v := ?_) rfl (by kernel_rfl) (by kernel_rfl) (by kernel_rfl) (by kernel_rfl) (fun _ _ _ h => h) (by kernel_rfl) hClosed (Or.inl ⟨by rfl, ?_⟩) hHeld (fun hClosed => ?_)
    rotate_left
    · intro wv hSw; obtain ⟨hz, _⟩ := hSw; obtain ⟨lz, cz, fz⟩ := hz.facts; go_simp; all_goals (with_reducible rfl)
    (try simp only [List.getElem_toArray, List.getElem_cons_succ, List.getElem_cons_zero, put_at, List.set])
    refine wpAnyL_take (i := 2) (v := ?_) rfl (by kernel_rfl) (by kernel_rfl) (by kernel_rfl) (by kernel_rfl) (fun _ _ _ h => h) (by kernel_rfl) hClosed (Or.inl ⟨by rfl, ?_⟩) hHeld (fun hClosed => ?_)
    rotate_left
    · intro wv hSw; go_simp; all_goals (with_reducible rfl)
    (try simp only [List.getElem_toArray, List.getElem_cons_succ, List.getElem_cons_zero, put_at, List.set])
    refine wpAnyL_take (i := 3) (v := ?_) rfl (by kernel_rfl) (by kernel_rfl) (by kernel_rfl) (by kernel_rfl) (fun _ _ _ h => h) (by kernel_rfl) hClosed (Or.inl ⟨by rfl, ?_⟩) hHeld (fun hClosed => ?_)
    rotate_left
    · intro wv hSw; obtain ⟨hz, _⟩ := hSw; obtain ⟨lz, cz, fz⟩ := hz.facts; go_simp; all_goals (with_reducible rfl)
    (try simp only [List.getElem_toArray, List.getElem_cons_succ, List.getElem_cons_zero, put_at, List.set])
    refine wpAnyL_take (i := 4) (v := ?_) rfl (by kernel_rfl) (by kernel_rfl) (by kernel_rfl) (by kernel_rfl) (fun _ _ _ h => h) (by kernel_rfl) hClosed (Or.inl ⟨by rfl, ?_⟩) hHeld (fun hClosed => ?_)
    rotate_left
    · intro wv hSw; obtain ⟨hz, _⟩ := hSw; obtain ⟨lz, cz, fz⟩ := hz.facts; go_simp; all_goals (with_reducible rfl)
    (try simp only [List.getElem_toArray, List.getElem_cons_succ, List.getElem_cons_zero, put_at, List.set])
    refine wpAnyL_take (i := 6) (v := ?_) rfl (by kernel_rfl) (by kernel_rfl) (by kernel_rfl) (by kernel_rfl) (fun _ _ _ h => h) (by kernel_rfl) hClosed (Or.inl ⟨by rfl, ?_⟩) hHeld (fun hClosed => ?_)
    rotate_left
    · intro wv hSw; go_simp; all_goals (with_reducible rfl)
    (try simp only [List.getElem_toArray, List.getElem_cons_succ, List.getElem_cons_zero, put_at, List.set])
    refine wpAnyL_take (i := 7) (v := ?_) rfl (by kernel_rfl) (by kernel_rfl) (by kernel_rfl) (by kernel_rfl) (fun _ _ _ h => h) (by kernel_rfl) hClosed (Or.inl ⟨by rfl, ?_⟩) hHeld (fun hClosed => ?_)
    rotate_left
    · intro wv hSw; obtain ⟨hz, _⟩ := hSw; obtain ⟨lz, cz, fz⟩ := hz.facts; go_simp; all_goals (with_reducible rfl)
    (try simp only [List.getElem_toArray, List.getElem_cons_succ, List.getElem_cons_zero, put_at, List.set])
    refine wpAnyL_two (i := 5) (j := 8) rfl rfl (by kernel_rfl) (by kernel_rfl) (by kernel_rfl) hClosed (fun KK hK => ?_) (fun KK hK => ?_)
    · have hlz := hHeld.1.lt
      go_simp
      refine hK.out _ _ ?_ (fun hClosed hHeld => ?_)
      · exact ⟨hHeld.1.alloc _, hHeld.2.alloc hHeld.2.size _⟩
      clear hK KK
      (first | simp only [List.getElem_toArray, List.getElem_cons_succ, List.getElem_cons_zero, put_at, List.set] | (try simp only [put_at, List.set]))
      refine last_forget (fun w' => (Box w' w.heap.size #[.int .i64 r.id, .string r.host, .string r.path, .int .i64 r.prio, .int .i64 r.till] 23 ∧ Below w.heap.size w w') ∧ OwnB w' (w.heap.size + 1) (some ⟨wc.heap.size, 0, none⟩) 2 [r.kind, r.prio]) ⟨hHeld, (OwnB.lit (w := wc) [r.kind, r.prio] hlz (by simp)).drew⟩ ?_
      clear hHeld hlz
      rintro w5 ⟨hHeld, hL⟩
      refine wpAnyL_one (i := 8) rfl (by kernel_rfl) (by kernel_rfl) hClosed (fun KK hK => ?_)
      go_simp
      refine (big_as r.id 8 p2 HP2.out _ (by decide) (by decide)).mono ?_
      rintro e w8 ⟨g8, c8, rfl, ho8, hb8⟩
      go_wp2_with fail
      refine hK.out _ _ ?_ (fun hClosed hHeld => ?_)
      · exact ⟨hHeld.1.later hb8, hHeld.2.trans (hb8.mono hHeld.2.size)⟩
      clear hK KK
      (first | simp only [List.getElem_toArray, List.getElem_cons_succ, List.getElem_cons_zero, put_at, List.set] | (try simp only [put_at, List.set]))
      have hL8 := hL.later hb8
      refine wpAnyL_one (i := 9) rfl (by kernel_rfl) (by kernel_rfl) hClosed (fun KK hK => ?_)
      refine step_app rfl _ _ rfl (w.heap.size + 1) (some ⟨wc.heap.size, 0, none⟩) 2 [r.kind, r.prio] rfl hL8 g8 0 c8 p2 rfl ho8.rd (by simp; omega) hHeld.1.lt ?_
      rw [HX2.out]
      intro a9 c9 w9 ho9 hb9
      refine hK.out _ _ ?_ (fun hClosed hHeld => ?_)
      · exact ⟨hHeld.1.below hb9 (by omega), hHeld.2.trans (hb9.mono (by omega))⟩
      clear hK KK
      (first | simp only [List.getElem_toArray, List.getElem_cons_succ, List.getElem_cons_zero, put_at, List.set] | (try simp only [put_at, List.set]))
      refine wpAnyL_last rfl (by kernel_rfl) (by kernel_rfl) (fun KK hK => ?_)
      go_simp
      refine hK.out _ _ ?_
      (try simp only [put_at, List.set])
      go_wp2_with fail
      go_meet
      exact ⟨a9, c9, rfl, Lib.hid ho9, Lib.hid hHeld.1, Lib.hid hHeld.2⟩
    · go_simp
      refine (big_as r.id 8 p2 HP2.out _ (by decide) (by decide)).mono ?_
      rintro e w8 ⟨g8, c8, rfl, ho8, hb8⟩
      go_wp2_with fail
      refine hK.out _ _ ?_ (fun hClosed hHeld => ?_)
      · exact ⟨hHeld.1.later hb8, hHeld.2.trans (hb8.mono hHeld.2.size)⟩
      clear hK KK
      (first | simp only [List.getElem_toArray, List.getElem_cons_succ, List.getElem_cons_zero, put_at, List.set] | (try simp only [put_at, List.set]))
      refine wpAnyL_one (i := 5) rfl (by kernel_rfl) (by kernel_rfl) hClosed (fun KK hK => ?_)
      have hlz := hHeld.1.lt
      go_simp
      refine hK.out _ _ ?_ (fun hClosed hHeld => ?_)
      · exact ⟨hHeld.1.alloc _, hHeld.2.alloc hHeld.2.size _⟩
      clear hK KK
      (first | simp only [List.getElem_toArray, List.getElem_cons_succ, List.getElem_cons_zero, put_at, List.set] | (try simp only [put_at, List.set]))
      refine last_forget (fun w' => (Box w' w.heap.size #[.int .i64 r.id, .string r.host, .string r.path, .int .i64 r.prio, .int .i64 r.till] 23 ∧ Below w.heap.size w w') ∧ OwnB w' (w.heap.size + 1) (some ⟨w8.heap.size, 0, none⟩) 2 [r.kind, r.prio] ∧ RdB w' (some ⟨g8, 0, none⟩) p2) ⟨hHeld, OwnB.lit (w := w8) [r.kind, r.prio] hlz (by simp), ho8.rd.alloc _⟩ ?_
      clear hHeld hlz
      rintro w5 ⟨hHeld, hL8, hR8⟩
      refine wpAnyL_one (i := 9) rfl (by kernel_rfl) (by kernel_rfl) hClosed (fun KK hK => ?_)
      refine step_app rfl _ _ rfl (w.heap.size + 1) (some ⟨w8.heap.size, 0, none⟩) 2 [r.kind, r.prio] rfl hL8 g8 0 c8 p2 rfl hR8 (by simp; omega) hHeld.1.lt ?_
      rw [HX2.out]
      intro a9 c9 w9 ho9 hb9
      refine hK.out _ _ ?_ (fun hClosed hHeld => ?_)
      · exact ⟨hHeld.1.below hb9 (by omega), hHeld.2.trans (hb9.mono (by omega))⟩
      clear hK KK
      (first | simp only [List.getElem_toArray, List.getElem_cons_succ, List.getElem_cons_zero, put_at, List.set] | (try simp only [put_at, List.set]))
      refine wpAnyL_last rfl (by kernel_rfl) (by kernel_rfl) (fun KK hK => ?_)
      go_simp
      refine hK.out _ _ ?_
      (try simp only [put_at, List.set])
      go_wp2_with fail
      go_meet
      exact ⟨a9, c9, rfl, Lib.hid ho9, Lib.hid hHeld.1, Lib.hid hHeld.2⟩
  case rest =>
  clear HZ HB
  obtain ⟨a2, c2, rfl, HO, HZ, HB⟩ := hcut
  go_wp2_with fail
  go_cut [5] (fun v5 wx => ∃ a c, v5 = .slice a x4.length c ∧ Hid (OwnB wx (w.heap.size + 1) a c x4) ∧ Hid (Box wx w.heap.size #[.int .i64 r.id, .string r.host, .string r.path, .int .i64 r.prio, .int .i64 r.till] 23) ∧ Hid (Below w.heap.size w wx))
  case first =>
    refine wp_region_last 10 (fun w' => Box w' w.heap.size #[.int .i64 r.id, .string r.host, .string r.path, .int .i64 r.prio, .int .i64 r.till] 23 ∧ Below w.heap.size w w') (by kernel_rfl) (⟨HZ.out.drew, HB.out.drew⟩) (fun hHeld hClosed => ?_)
    refine wpAnyL_take (i := 0) (v := ?_) rfl (by kernel_rfl) (by kernel_rfl) (by kernel_rfl) (by kernel_rfl) (fun _ _ _ h => h) (by kernel_rfl) hClosed (Or.inl ⟨by rfl, ?_⟩) hHeld (fun hClosed => ?_)
    rotate_left
    · intro wv hSw; go_simp; all_goals (with_reducible rfl)
    (try simp only [List.getElem_toArray, List.getElem_cons_zero, put_at, List.set])
    refine wpAnyL_take (i := 1) (v := ?_) rfl (by kernel_rfl) (by kernel_rfl) (by kernel_rfl) (by kernel_rfl) (fun _ _ _ h => h) (by kernel_rfl) hClosed (Or.inl ⟨by rfl, ?_⟩) hHeld (fun hClosed => ?_)
    rotate_left
    · intro wv hSw; go_simp; all_goals (with_reducible rfl)
    (try simp only [List.getElem_toArray, List.getElem_cons_succ, List.getElem_cons_zero, put_at, List.set])
    refine wpAnyL_take (i := 2) (v := ?_) rfl (by kernel_rfl) (by kernel_rfl) (by kernel_rfl) (by kernel_rfl) (fun _ _ _ h => h) (by kernel_rfl) hClosed (Or.inl ⟨by rfl, ?_⟩) hHeld (fun hClosed => ?_)
    rotate_left
    · intro wv hSw; obtain ⟨hz, _⟩ := hSw; obtain ⟨lz, cz, fz⟩ := hz.facts; go_simp; all_goals (with_reducible rfl)
    (try simp only [List.getElem_toArray, List.getElem_cons_succ, List.getElem_cons_zero, put_at, List.set])
    refine wpAnyL_take (i := 5) (v := ?_) rfl (by kernel_rfl) (by kernel_rfl) (by kernel_rfl) (by kernel_rfl) (fun _ _ _ h => h) (by kernel_rfl) hClosed (Or.inl ⟨by rfl, ?_⟩) hHeld (fun hClosed => ?_)
    rotate_left
    · intro wv hSw; go_simp; all_goals (with_reducible rfl)
    (try simp only [List.getElem_toArray, List.getElem_cons_succ, List.getElem_cons_zero, put_at, List.set])
    refine wpAnyL_take (i := 6) (v := ?_) rfl (by kernel_rfl) (by kernel_rfl) (by kernel_rfl) (by kernel_rfl) (fun _ _ _ h => h) (by kernel_rfl) hClosed (Or.inl ⟨by rfl, ?_⟩) hHeld (fun hClosed => ?_)
    rotate_left
    · intro wv hSw; obtain ⟨hz, _⟩ := hSw; obtain ⟨lz, cz, fz⟩ := hz.facts; go_simp; all_goals (with_reducible rfl)
    (try simp only [List.getElem_toArray, List.getElem_cons_succ, List.getElem_cons_zero, put_at, List.set])
    refine wpAnyL_take (i := 7) (v := ?_) rfl (by kernel_rfl) (by kernel_rfl) (by kernel_rfl) (by kernel_rfl) (fun _ _ _ h => h) (by kernel_rfl) hClosed (Or.inl ⟨by rfl, ?_⟩) hHeld (fun hClosed => ?_)
    rotate_left
    · intro wv hSw; go_simp; all_goals (with_reducible rfl)
    (try simp only [List.getElem_toArray, List.getElem_cons_succ, List.getElem_cons_zero, put_at, List.set])
    refine wpAnyL_one (i := 3) rfl (by kernel_rfl) (by kernel_rfl) hClosed (fun KK hK => ?_)
    go_simp
    refine (big_as r.till 8 p3 HP3.out _ (by decide) (by decide)).mono ?_
    rintro e w3 ⟨g3, c3, rfl, ho3, hb3⟩
    go_wp2_with fail
    refine hK.out _ _ ?_ (fun hClosed hHeld => ?_)
    · exact ⟨hHeld.1.later hb3, hHeld.2.trans (hb3.mono hHeld.2.size)⟩
    clear hK KK
    (first | simp only [List.getElem_toArray, List.getElem_cons_succ, List.getElem_cons_zero, put_at, List.set] | (try simp only [put_at, List.set]))
    have hw3 := HO.out.drew.later hb3
    refine wpAnyL_one (i := 4) rfl (by kernel_rfl) (by kernel_rfl) hClosed (fun KK hK => ?_)
    refine step_app rfl _ _ rfl (w.heap.size + 1) a2 c2 x2 rfl hw3 g3 0 c3 p3 rfl ho3.rd (by omega) hHeld.1.lt ?_
    rw [HX3.out]
    intro a4 c4 w4 ho4 hb4
    refine hK.out _ _ ?_ (fun hClosed hHeld => ?_)
    · exact ⟨hHeld.1.below hb4 (by omega), hHeld.2.trans (hb4.mono (by omega))⟩
    clear hK KK
    (first | simp only [List.getElem_toArray, List.getElem_cons_succ, List.getElem_cons_zero, put_at, List.set] | (try simp only [put_at, List.set]))
    refine wpAnyL_one (i := 8) rfl (by kernel_rfl) (by kernel_rfl) hClosed (fun KK hK => ?_)
    go_simp
    refine (big_as r.host.size 2 p4 HP4.out _ (by decide) (by decide)).mono ?_
    rintro e w8 ⟨g8, c8, rfl, ho8, hb8⟩
    go_wp2_with fail
    refine hK.out _ _ ?_ (fun hClosed hHeld => ?_)
    · exact ⟨hHeld.1.later hb8, hHeld.2.trans (hb8.mono hHeld.2.size)⟩
    clear hK KK
    (first | simp only [List.getElem_toArray, List.getElem_cons_succ, List.getElem_cons_zero, put_at, List.set] | (try simp only [put_at, List.set]))
    have hw8 := ho4.later hb8
    refine wpAnyL_one (i := 9) rfl (by kernel_rfl) (by kernel_rfl) hClosed (fun KK hK => ?_)
    refine step_app rfl _ _ rfl (w.heap.size + 1) a4 c4 x3 rfl hw8 g8 0 c8 p4 rfl ho8.rd (by omega) hHeld.1.lt ?_
    rw [HX4.out]
    intro a9 c9 w9 ho9 hb9
    refine hK.out _ _ ?_ (fun hClosed hHeld => ?_)
    · exact ⟨hHeld.1.below hb9 (by omega), hHeld.2.trans (hb9.mono (by omega))⟩
    clear hK KK
    (first | simp only [List.getElem_toArray, List.getElem_cons_succ, List.getElem_cons_zero, put_at, List.set] | (try simp only [put_at, List.set]))
    refine wpAnyL_last rfl (by kernel_rfl) (by kernel_rfl) (fun KK hK => ?_)
    go_simp
    refine hK.out _ _ ?_
    (try simp only [put_at, List.set])
    go_wp2_with fail
    go_meet
    exact ⟨a9, c9, rfl, Lib.hid ho9, Lib.hid hHeld.1, Lib.hid hHeld.2⟩
  case rest =>
  clear HZ HB HO
  obtain ⟨a4, c4, rfl, HO, HZ, HB⟩ := hcut
  go_wp2_with fail
  go_cut [5] (fun v5 wx => ∃ a c, v5 = .slice a x6.length c ∧ Hid (OwnB wx (w.heap.size + 1) a c x6) ∧ Hid (Below w.heap.size w wx) ∧ w.heap.size < wx.heap.size)
  case first =>
    refine wp_region_last 7 (fun w' => Box w' w.heap.size #[.int .i64 r.id, .string r.host, .string r.path, .int .i64 r.prio, .int .i64 r.till] 23 ∧ Below w.heap.size w w') (by kernel_rfl) (⟨HZ.out.drew, HB.out.drew⟩) (fun hHeld hClosed => ?_)
    refine wpAnyL_take (i := 0) (v := ?_) rfl (by kernel_rfl) (by kernel_rfl) (by kernel_rfl) (by kernel_rfl) (fun _ _ _ h => h) (by kernel_rfl) hClosed (Or.inl ⟨by rfl, ?_⟩) hHeld (fun hClosed => ?_)
    rotate_left
    · intro wv hSw; go_simp; all_goals (with_reducible rfl)
    (try simp only [List.getElem_toArray, List.getElem_cons_zero, put_at, List.set])
    refine wpAnyL_take (i := 1) (v := ?_) rfl (by kernel_rfl) (by kernel_rfl) (by kernel_rfl) (by kernel_rfl) (fun _ _ _ h => h) (by kernel_rfl) hClosed (Or.inl ⟨by rfl, ?_⟩) hHeld (fun hClosed => ?_)
    rotate_left
    · intro wv hSw; go_simp; all_goals (with_reducible rfl)
    (try simp only [List.getElem_toArray, List.getElem_cons_succ, List.getElem_cons_zero, put_at, List.set])
    refine wpAnyL_take (i := 2) (v := ?_) rfl (by kernel_rfl) (by kernel_rfl) (by kernel_rfl) (by kernel_rfl) (fun _ _ _ h => h) (by kernel_rfl) hClosed (Or.inl ⟨by rfl, ?_⟩) hHeld (fun hClosed => ?_)
    rotate_left
    · intro wv hSw; obtain ⟨hz, _⟩ := hSw; obtain ⟨lz, cz, fz⟩ := hz.facts; go_simp; all_goals (with_reducible rfl)
    (try simp only [List.getElem_toArray, List.getElem_cons_succ, List.getElem_cons_zero, put_at, List.set])
    refine wpAnyL_take (i := 4) (v := ?_) rfl (by kernel_rfl) (by kernel_rfl) (by kernel_rfl) (by kernel_rfl) (fun _ _ _ h => h) (by kernel_rfl) hClosed (Or.inl ⟨by rfl, ?_⟩) hHeld (fun hClosed => ?_)
    rotate_left
    · intro wv hSw; go_simp; all_goals (with_reducible rfl)
    (try simp only [List.getElem_toArray, List.getElem_cons_succ, List.getElem_cons_zero, put_at, List.set])
    refine wpAnyL_take (i := 5) (v := ?_) rfl (by kernel_rfl) (by kernel_rfl) (by kernel_rfl) (by kernel_rfl) (fun _ _ _ h => h) (by kernel_rfl) hClosed (Or.inl ⟨by rfl, ?_⟩) hHeld (fun hClosed => ?_)
    rotate_left
    · intro wv hSw; obtain ⟨hz, _⟩ := hSw; obtain ⟨lz, cz, fz⟩ := hz.facts; go_simp; all_goals (with_reducible rfl)
    (try simp only [List.getElem_toArray, List.getElem_cons_succ, List.getElem_cons_zero, put_at, List.set])
    refine wpAnyL_one (i := 3) rfl (by kernel_rfl) (by kernel_rfl) hClosed (fun KK hK => ?_)
    refine step_apps rfl _ _ rfl (w.heap.size + 1) a4 c4 x4 rfl HO.out.drew r.host rfl (by omega) hHeld.1.lt ?_
    rw [HX5.out]
    intro a5 c5 w5 ho5 hb5
    refine hK.out _ _ ?_ (fun hClosed hHeld => ?_)
    · exact ⟨hHeld.1.below hb5 (by omega), hHeld.2.trans (hb5.mono (by omega))⟩
    clear hK KK
    (first | simp only [List.getElem_toArray, List.getElem_cons_succ, List.getElem_cons_zero, put_at, List.set] | (try simp only [put_at, List.set]))
    refine wpAnyL_one (i := 6) rfl (by kernel_rfl) (by kernel_rfl) hClosed (fun KK hK => ?_)
    refine step_apps rfl _ _ rfl (w.heap.size + 1) a5 c5 x5 rfl ho5 r.path rfl (by omega) hHeld.1.lt ?_
    rw [HX6.out]
    intro a9 c9 w9 ho9 hb9
    refine hK.out _ _ ?_ (fun hClosed hHeld => ?_)
    · exact ⟨hHeld.1.below hb9 (by omega), hHeld.2.trans (hb9.mono (by omega))⟩
    clear hK KK
    (first | simp only [List.getElem_toArray, List.getElem_cons_succ, List.getElem_cons_zero, put_at, List.set] | (try simp only [put_at, List.set]))
    refine wpAnyL_last rfl (by kernel_rfl) (by kernel_rfl) (fun KK hK => ?_)
    go_simp
    refine hK.out _ _ ?_
    (try simp only [put_at, List.set])
    go_wp2_with fail
    go_meet
    exact ⟨a9, c9, rfl, Lib.hid ho9, Lib.hid hHeld.2, hHeld.1.lt⟩
  case rest =>
  clear HZ HB HO
  obtain ⟨a6, c6, rfl, HO, HB, hlz⟩ := hcut
  go_wp2_with fail
  refine (big_as x6.length 2 y1 HY1.out _ (by decide) (by decide)).mono ?_
  rintro e w7 ⟨g7, c7, rfl, ho7, hb7⟩
  have q7 := HO.out.later hb7
  have B7 := HB.out.trans (hb7.mono HB.out.size)
  go_wp2_with fail
  refine (rsum_as x6 x6.length sm _ _ _ q7.rd rfl HBY.out (by omega) HSM.out).mono ?_
  rintro e w' ⟨rfl, rfl⟩
  go_wp2_with fail
  refine (big_as sm.toNat 4 p5 HP5.out _ (by decide) (by decide)).mono ?_
  rintro e w8 ⟨g8, c8, rfl, ho8, hb8⟩
  have q8 := q7.later hb8
  have o8 := ho7.later hb8
  have B8 := B7.trans (hb8.mono B7.size)
  have hs8 := hb8.size
  have hs7 := hb7.size
  obtain ⟨_, h0, _⟩ | ⟨g6, rfl, _, hg6⟩ := HO.out.form
  · have h1 := congrArg List.length h0
    simp only [List.length_nil] at h1
    omega
  clear q7 q8
  go_wp2_with (first
    | (at_builtin; refine wpList_app rfl _ _ rfl wc.heap.size (some ⟨g7, 0, none⟩) c7 y1 rfl o8 g8 0 c8 p5 rfl ho8.rd (by omega) (by omega) ?_; rw [HY2.out]; intro a9 c9 w9 ho9 hb9; have q9 := HO.out.later ((hb7.trans (hb8.mono hs7)).trans hb9); have B9 := B8.trans (hb9.mono (by omega)); have hs9 := hb9.size)
    | (at_builtin; refine wpList_app rfl _ _ rfl wc.heap.size a9 c9 y2 rfl ho9 g6 0 c6 x6 rfl q9.rd (by omega) (by omega) ?_; rw [← HE.out]; intro a10 c10 w10 ho10 hb10; have B10 := B9.trans (hb10.mono (by omega))))
  exact bodyPost_ret (by simp [results, Try.results13, go_sem]) rfl ⟨a10, c10, rfl, ho10.mono (by omega), B10⟩
end Go.Proofs.Ytndgpdpabjaedaa
