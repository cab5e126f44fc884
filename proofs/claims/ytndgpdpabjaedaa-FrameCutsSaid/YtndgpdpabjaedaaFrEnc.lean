/- Package frame: the bytes of a record. -/
import Derived.Test.YtndgpdpabjaedaaFrScan
namespace Go.Proofs.Ytndgpdpabjaedaa
open Go.RowKit
set_option linter.unusedSimpArgs false

theorem appNum_as (B : Nat) (n : Int) (size : Nat) (xs ys : List Int) (hy : xs ++ bigI n size = ys) (a : Option Addr) (len cap : Nat) (w : World) (hlen : xs.length = len) (hs : size ≤ 8) (hown : OwnB w B a cap xs) (hB : B ≤ w.heap.size) (hl : len < 100000) :
    Calls Try.prog 17 #[.slice a len cap, .int .i64 n, .int .i64 size] w fun e w' => ∃ a' cap', e = .returned (.slice a' ys.length cap') ∧ OwnB w' B a' cap' ys ∧ Below B w w' := by
  subst hy
  subst hlen
  exact appNum_at B n size xs a cap w hs hown hB hl

set_option maxHeartbeats 1000000 in
theorem enc_no (r : Rc) (w : World) (h : ¬ soundR r) :
    Calls Try.prog 10 #[.agg (recL r).toArray] w fun e w' => e = .returned (.tuple #[.slice none 0 0, .int .i64 2]) ∧ Below w.heap.size w w' := by
  show Calls Try.prog 10 #[.agg #[.int .i64 r.kind, .int .i64 r.id, .string r.host, .string r.path, .int .i64 r.prio, .int .i64 r.till]] w _
  go_enter Try.func10, Try.ntmps10
  go_wp2_with fail
  refine (sound_no r _ h).mono ?_
  rintro e w1 ⟨rfl, hb1⟩
  go_wp2_with fail
  exact bodyPost_ret (v := .tuple #[.slice none 0 0, .int .i64 2]) (by simp [results, Try.results10, go_sem]) rfl ⟨rfl, ((Below.refl _ _).alloc (Nat.le_refl _) _).trans (hb1.mono (by simp))⟩

set_option maxHeartbeats 2000000 in
theorem enc_yes (r : Rc) (w : World) (h : soundR r) :
    Calls Try.prog 10 #[.agg (recL r).toArray] w fun e w' => ∃ a' cap', e = .returned (.tuple #[.slice a' (encR r).length cap', .int .i64 0]) ∧ OwnB w' w.heap.size a' cap' (encR r) ∧ Below w.heap.size w w' := by
  show Calls Try.prog 10 #[.agg #[.int .i64 r.kind, .int .i64 r.id, .string r.host, .string r.path, .int .i64 r.prio, .int .i64 r.till]] w _
  obtain ⟨s1, s2, s3, s4, s5, s6, s7, s8⟩ := id h
  have hk : r.kind % 256 = r.kind := by omega
  have hpr : r.prio % 256 = r.prio := by omega
  have hby := contR_byts h
  obtain ⟨x2, hx2⟩ : ∃ x, [r.kind, r.prio] ++ bigI r.id 8 = x := ⟨_, rfl⟩
  obtain ⟨x3, hx3⟩ : ∃ x, x2 ++ bigI r.till 8 = x := ⟨_, rfl⟩
  obtain ⟨x4, hx4⟩ : ∃ x, x3 ++ bigI r.host.size 2 = x := ⟨_, rfl⟩
  obtain ⟨x5, hx5⟩ : ∃ x, x4 ++ btL r.host = x := ⟨_, rfl⟩
  obtain ⟨x6, hx6⟩ : ∃ x, x5 ++ btL r.path = x := ⟨_, rfl⟩
  have hc : contR r = x6 := by
    rw [← hx6, ← hx5, ← hx4, ← hx3, ← hx2]
    simp [contR]
  rw [hc] at hby
  have l2 : x2.length = 10 := by rw [← hx2]; simp
  have l3 : x3.length = 18 := by rw [← hx3, List.length_append, l2]; simp
  have l4 : x4.length = 20 := by rw [← hx4, List.length_append, l3]; simp
  have l5 : x5.length = 20 + r.host.size := by rw [← hx5, List.length_append, l4]; simp
  have l6 : x6.length = 20 + r.host.size + r.path.size := by rw [← hx6, List.length_append, l5]; simp
  obtain ⟨y1, hy1⟩ : ∃ y, [] ++ bigI x6.length 2 = y := ⟨_, rfl⟩
  obtain ⟨y2, hy2⟩ : ∃ y, y1 ++ bigI (sumC x6).toNat 4 = y := ⟨_, rfl⟩
  have m1 : y1.length = 2 := by rw [← hy1]; simp
  have m2 : y2.length = 6 := by rw [← hy2, List.length_append, m1]; simp
  have he : encR r = y2 ++ x6 := by
    unfold encR recB
    rw [hc, ← hy2, ← hy1]
    simp
  obtain ⟨sm, hsm⟩ : ∃ s, sumC x6 = s := ⟨_, rfl⟩
  rw [hsm] at hy2
  have b2 : x2.length ≤ 2000 := by omega
  have b3 : x3.length ≤ 2000 := by omega
  have b4 : x4.length ≤ 2000 := by omega
  have b5 : x5.length ≤ 2000 := by omega
  have b6 : x6.length ≤ 2000 := by omega
  have b6' : 20 ≤ x6.length := by omega
  have n1 : y1.length ≤ 10 := by omega
  have n2 : y2.length ≤ 10 := by omega
  have HX2 := Lib.hid hx2
  have HX3 := Lib.hid hx3
  have HX4 := Lib.hid hx4
  have HX5 := Lib.hid hx5
  have HX6 := Lib.hid hx6
  have HY1 := Lib.hid hy1
  have HY2 := Lib.hid hy2
  have HSM := Lib.hid hsm
  have HE := Lib.hid he
  have HBY := Lib.hid hby
  have HLN : Hid ((y2 ++ x6).length = y2.length + x6.length) := Lib.hid (by simp)
  clear hx2 hx3 hx4 hx5 hx6 hy1 hy2 hsm he hc hby l2 l3 l4 l5 l6 m1 m2
  go_enter Try.func10, Try.ntmps10
  go_wp2_with fail
  refine (sound_yes r _ h).mono ?_
  rintro e w1 ⟨rfl, hb1⟩
  have z1 := (Box.new w #[.int .i64 r.kind, .int .i64 r.id, .string r.host, .string r.path, .int .i64 r.prio, .int .i64 r.till] 25).later hb1
  have B1 : Below w.heap.size w w1 := ((Below.refl _ _).alloc (Nat.le_refl _) _).trans (hb1.mono (by simp))
  clear hb1
  obtain ⟨lx, cx, fx⟩ := z1.facts
  have B1s : w.heap.size + 1 ≤ w1.heap.size := lx
  go_wp2_with fail
  refine (appNum_as (w.heap.size + 1) r.id 8 [r.kind, r.prio] x2 HX2.out _ 2 _ _ rfl (by decide) (OwnB.lit (w := w1) [r.kind, r.prio] B1s (by simp)) (by simp; omega) (by decide)).mono ?_
  rintro e w2 ⟨a2, c2, rfl, ho2, hb2⟩
  have z2 := (z1.alloc (.cells ([r.kind, r.prio].map (Value.int .u8)).toArray 5)).below hb2 (by omega)
  have B2 := (B1.alloc (by omega) (.cells ([r.kind, r.prio].map (Value.int .u8)).toArray 5)).trans (hb2.mono (by omega))
  clear lx cx fx
  obtain ⟨lx, cx, fx⟩ := z2.facts
  have B2s : w.heap.size + 1 ≤ w2.heap.size := lx
  go_wp2_with fail
  refine (appNum_as (w.heap.size + 1) r.till 8 x2 x3 HX3.out _ _ _ _ rfl (by decide) ho2 B2s (by omega)).mono ?_
  rintro e w3 ⟨a3, c3, rfl, ho3, hb3⟩
  have z3 := z2.below hb3 (by omega)
  have B3 := B2.trans (hb3.mono (by omega))
  clear lx cx fx
  obtain ⟨lx, cx, fx⟩ := z3.facts
  have B3s : w.heap.size + 1 ≤ w3.heap.size := lx
  go_wp2_with fail
  refine (appNum_as (w.heap.size + 1) r.host.size 2 x3 x4 HX4.out _ _ _ _ rfl (by decide) ho3 B3s (by omega)).mono ?_
  rintro e w4 ⟨a4, c4, rfl, ho4, hb4⟩
  have z4 := z3.below hb4 (by omega)
  have B4 := B3.trans (hb4.mono (by omega))
  clear lx cx fx
  obtain ⟨lx, cx, fx⟩ := z4.facts
  have B4s : w.heap.size + 1 ≤ w4.heap.size := lx
  go_wp2_with (first
    | (at_builtin; refine wpList_apps rfl _ _ rfl (w.heap.size + 1) a4 c4 x4 rfl ho4 r.host rfl (by omega) B4s ?_; rw [HX5.out]; intro a5 c5 w5 ho5 hb5; have z5 := z4.below hb5 (by omega); have B5 := B4.trans (hb5.mono (by omega)); clear lx cx fx; obtain ⟨lx, cx, fx⟩ := z5.facts; have B5s : w.heap.size + 1 ≤ w5.heap.size := lx)
    | (at_builtin; refine wpList_apps rfl _ _ rfl (w.heap.size + 1) a5 c5 x5 rfl ho5 r.path rfl (by omega) B5s ?_; rw [HX6.out]; intro a6 c6 w6 ho6 hb6; have z6 := z5.below hb6 (by omega); have B6 := B5.trans (hb6.mono (by omega)); clear lx cx fx; obtain ⟨lx, cx, fx⟩ := z6.facts; have B6s : w.heap.size + 1 ≤ w6.heap.size := lx))
  refine (appNum_as w6.heap.size x6.length 2 [] y1 HY1.out _ 0 _ _ rfl (by decide) (OwnB.nil _ _) (Nat.le_refl _) (by decide)).mono ?_
  rintro e w7 ⟨a7, c7, rfl, ho7, hb7⟩
  have q7 := ho6.later hb7
  have B7 := B6.trans (hb7.mono (by omega))
  have B7s := hb7.size
  go_wp2_with fail
  refine (sum_as x6 x6.length sm _ _ _ q7.rd rfl HBY.out (by omega) HSM.out).mono ?_
  rintro e w' ⟨rfl, rfl⟩
  go_wp2_with fail
  refine (appNum_as w6.heap.size sm.toNat 4 y1 y2 HY2.out _ _ _ _ rfl (by decide) ho7 B7s (by omega)).mono ?_
  rintro e w8 ⟨a8, c8, rfl, ho8, hb8⟩
  have q8 : OwnB w8 (w.heap.size + 1) a6 c6 x6 := ho6.later (hb7.trans hb8)
  have B8 := B7.trans (hb8.mono (by omega))
  have B8s := Nat.le_trans B7s hb8.size
  obtain ⟨_, h0, _⟩ | ⟨g6, rfl, _⟩ := q8.form
  · have h1 := congrArg List.length h0
    simp only [List.length_nil] at h1
    omega
  have HQ := Lib.hid q8
  clear q8 q7 ho7 ho6 ho5 ho4 ho3 ho2
  go_wp2_with (at_builtin; refine wpList_app rfl _ _ rfl w6.heap.size a8 c8 y2 rfl ho8 g6 0 c6 x6 rfl HQ.out.rd (by omega) B8s ?_; rw [← HE.out]; intro a9 c9 w9 ho9 hb9)
  have B9 := B8.trans (hb9.mono (by omega))
  exact bodyPost_ret (v := .tuple #[.slice a9 (encR r).length c9, .int .i64 0]) (by simp [results, Try.results10, go_sem]) rfl ⟨a9, c9, rfl, ho9.mono (by omega), B9⟩
end Go.Proofs.Ytndgpdpabjaedaa
