/- The document's own Read. -/
import Derived.Test.YtodlecjbpmggiaaGreatDoorRbRpk
import Derived.Test.YtodlecjbpmggiaaGreatDoorLnRps
import Derived.Test.YtodlecjbpmggiaaGreatDoorLnRgr
namespace Go.Proofs.YtodlecjbpmggiaaGreatDoor
open Go Go.RowKit
set_option linter.unusedVariables false
set_option linter.unusedSimpArgs false
set_option maxRecDepth 10000

set_option maxHeartbeats 4000000 in
theorem rread_at (s : Int) (body agent : ByteArray) (hs : body.size ≤ 100000) (ha : agent.size ≤ 1000000000000000) (w : World) :
    Calls Tryz.prog 9 #[.int .i64 s, .string body, .string agent] w (RoP w (readL s (btL body) (btL agent))) := by
  obtain ⟨L, hL⟩ : ∃ L, linesL (btL body) = L := ⟨_, rfl⟩
  have hok : LnOk L := by rw [← hL]; exact rb_lines_ok (btL_byts _)
  have hlen : L.length ≤ 5000 := by rw [← hL]; exact rb_lines_len _
  have LP := Lib.hid (fun W => rparse_lines body hs L hL W)
  have GP : Hid (∀ W a cap n, L.length = n → Own W w.heap.size 62 2 a L.length cap (lnC L) → Calls Tryz.prog 19 #[.slice a n cap] W (GrP 61 L W)) := Lib.hid (fun W a cap n hn ho => rgroups_at L n hn (by omega) a cap hok W (rdLn_own ho rfl))
  have PK : Hid (∀ W B a cap (GA : List (Gp × GpA)) n, GA.length = n → GA.map (·.1) = grL L → GsM 61 B W a cap GA → B ≤ W.heap.size → Calls Tryz.prog 18 #[.slice a n cap, .string agent] W (RoP W (pickL (grL L) (tokL (btL agent))))) := Lib.hid (fun W B a cap GA n hn he hG hB => by
    obtain ⟨k1, k2, k3⟩ := grL_ok L hok
    have h1 : GA.length = (grL L).length := by rw [← he, List.length_map]
    have := rpick_at GA n hn (by omega) (by rw [he]; omega) (fun x hx z hz => k1 x.1 (by rw [← he]; exact List.mem_map_of_mem hx) z hz) a cap B W hG hB agent ha
    rw [he] at this
    exact this)
  have RE : Hid (readL s (btL body) (btL agent) = if 200 ≤ s ∧ s < 300 then pickL (grL L) (tokL (btL agent)) else if 400 ≤ s ∧ s < 500 ∧ s ≠ 429 then ⟨true, false, [], 0⟩ else ⟨false, true, [], 0⟩) := Lib.hid (by rw [← hL]; rfl)
  obtain ⟨ro, hro⟩ : ∃ ro, readL s (btL body) (btL agent) = ro := ⟨_, rfl⟩
  rw [hro] at RE ⊢
  have RB := Lib.hid (Box.new w #[.bool false, .bool false, .slice none 0 0, .int .i64 0] 26)
  have B0 := Lib.hid ((Below.refl w.heap.size w).alloc (Nat.le_refl _) (.cells #[.bool false, .bool false, .slice none 0 0, .int .i64 0] 26))
  clear hro hok hL
  go_enter Tryz.func9, Tryz.ntmps9
  go_upto_region 1 with fail
  obtain ⟨w0, hw0⟩ : ∃ W, w.alloc (.cells #[.bool false, .bool false, .slice none 0 0, .int .i64 0] 26) = W := ⟨_, rfl⟩
  rw [hw0] at RB B0
  rw [hw0]
  clear hw0
  by_cases h1 : 200 ≤ s ∧ s < 300
  · have HP : Hid (ro = pickL (grL L) (tokL (btL agent))) := Lib.hid (by rw [RE.out, if_pos h1])
    have d1 : decide (200 ≤ s) = true := decide_eq_true h1.1
    have d2 : decide (s < 300) = true := decide_eq_true h1.2
    clear h1 RE
    go_wp2_with fail
    refine (LP.out _).mono ?_
    rintro e w1 ⟨a1, c1, rfl, o1, hb1⟩
    have R1 := Lib.hid (RB.out.later hb1)
    have B1 := Lib.hid (B0.out.trans (hb1.mono B0.out.size))
    have O1 := Lib.hid (o1.mono B0.out.size)
    obtain ⟨n, hn⟩ : ∃ n, L.length = n := ⟨_, rfl⟩
    have G1 := Lib.hid (GP.out w1 a1 c1 n hn O1.out)
    rw [hn]
    clear o1 hb1 RB B0 LP
    go_wp2_with fail
    refine G1.out.mono ?_
    rintro e w2 ⟨a2, c2, GA, rfl, g2, e2, hb2⟩
    have R2 := Lib.hid (R1.out.later hb2)
    have B2 := Lib.hid (B1.out.trans (hb2.mono B1.out.size))
    have P2 := PK.out w2 _ a2 c2 GA GA.length rfl e2 g2 hb2.size
    rw [← HP.out] at P2
    have P2 := Lib.hid P2
    have FN := Lib.hid (rb_fin ro w w2 R2.out B2.out)
    obtain ⟨m, hm⟩ : ∃ m, GA.length = m := ⟨_, rfl⟩
    rw [hm] at P2 ⊢
    clear g2 e2 hb2 R1 B1 O1 G1
    go_wp2_with fail
    refine P2.out.mono ?_
    rintro e w5 ⟨a5, c5, rfl, r5, l5, l6, k5, hb5⟩
    obtain ⟨s0, s1, s2, s3, t0, t1, t2, t3, lS, FIN⟩ := FN.out a5 c5 w5 r5 l5 l6 k5 hb5
    clear r5 k5 hb5 FN P2 R2
    go_wp2
    exact bodyPost_ret (v := .agg #[.bool ro.all, .bool ro.none_, .slice a5 ro.ru.length c5, .int .i64 ro.de]) (by simp [results, Tryz.results9, go_sem, s0, s1, s2, s3]) rfl (FIN.out _ _ _ _ _ _ _ _ rfl rfl rfl rfl)
  · have HP : Hid (ro = if 400 ≤ s ∧ s < 500 ∧ s ≠ 429 then ⟨true, false, [], 0⟩ else ⟨false, true, [], 0⟩) := Lib.hid (by rw [RE.out, if_neg h1])
    clear RE
    by_cases a1 : s < 200
    · have d1 : decide (200 ≤ s) = false := decide_eq_false (by omega)
      have d3 : decide (400 ≤ s) = false := decide_eq_false (by omega)
      obtain rfl : ro = ⟨false, true, [], 0⟩ := by rw [HP.out]; first | rw [if_pos (by omega)] | rw [if_neg (by omega)]
      obtain ⟨s0, s1, s2, s3, t0, t1, t2, t3, lS, FIN⟩ := rb_fin ⟨false, true, [], 0⟩ w w0 RB.out B0.out none 0 w0 (RdC.nil _ _) (Nat.le_refl _) (by omega) (fun g hg => by cases hg) (Below.refl _ _)
      clear RB B0 HP LP GP PK
      go_wp2
      exact bodyPost_ret (v := .agg #[.bool false, .bool true, .slice none 0 0, .int .i64 0]) (by simp [results, Tryz.results9, go_sem, s0, s1, s2, s3]) rfl (FIN.out _ _ _ _ _ _ _ _ rfl rfl rfl rfl)
    have d1 : decide (200 ≤ s) = true := decide_eq_true (by omega)
    have d2 : decide (s < 300) = false := decide_eq_false (by omega)
    by_cases a2 : s < 400
    · have d3 : decide (400 ≤ s) = false := decide_eq_false (by omega)
      obtain rfl : ro = ⟨false, true, [], 0⟩ := by rw [HP.out]; first | rw [if_pos (by omega)] | rw [if_neg (by omega)]
      obtain ⟨s0, s1, s2, s3, t0, t1, t2, t3, lS, FIN⟩ := rb_fin ⟨false, true, [], 0⟩ w w0 RB.out B0.out none 0 w0 (RdC.nil _ _) (Nat.le_refl _) (by omega) (fun g hg => by cases hg) (Below.refl _ _)
      clear RB B0 HP LP GP PK
      go_wp2
      exact bodyPost_ret (v := .agg #[.bool false, .bool true, .slice none 0 0, .int .i64 0]) (by simp [results, Tryz.results9, go_sem, s0, s1, s2, s3]) rfl (FIN.out _ _ _ _ _ _ _ _ rfl rfl rfl rfl)
    have d3 : decide (400 ≤ s) = true := decide_eq_true (by omega)
    by_cases a3 : s < 500
    · have d4 : decide (s < 500) = true := decide_eq_true a3
      by_cases a4 : s = 429
      · have d5 : (s != 429) = false := by simp; exact a4
        obtain rfl : ro = ⟨false, true, [], 0⟩ := by rw [HP.out]; first | rw [if_pos (by omega)] | rw [if_neg (by omega)]
        obtain ⟨s0, s1, s2, s3, t0, t1, t2, t3, lS, FIN⟩ := rb_fin ⟨false, true, [], 0⟩ w w0 RB.out B0.out none 0 w0 (RdC.nil _ _) (Nat.le_refl _) (by omega) (fun g hg => by cases hg) (Below.refl _ _)
        clear RB B0 HP LP GP PK
        go_wp2
        exact bodyPost_ret (v := .agg #[.bool false, .bool true, .slice none 0 0, .int .i64 0]) (by simp [results, Tryz.results9, go_sem, s0, s1, s2, s3]) rfl (FIN.out _ _ _ _ _ _ _ _ rfl rfl rfl rfl)
      · have d5 : (s != 429) = true := by simp; exact a4
        obtain rfl : ro = ⟨true, false, [], 0⟩ := by rw [HP.out]; first | rw [if_pos (by omega)] | rw [if_neg (by omega)]
        obtain ⟨s0, s1, s2, s3, t0, t1, t2, t3, lS, FIN⟩ := rb_fin ⟨true, false, [], 0⟩ w w0 RB.out B0.out none 0 w0 (RdC.nil _ _) (Nat.le_refl _) (by omega) (fun g hg => by cases hg) (Below.refl _ _)
        clear RB B0 HP LP GP PK
        go_wp2
        exact bodyPost_ret (v := .agg #[.bool true, .bool false, .slice none 0 0, .int .i64 0]) (by simp [results, Tryz.results9, go_sem, s0, s1, s2, s3]) rfl (FIN.out _ _ _ _ _ _ _ _ rfl rfl rfl rfl)
    · have d4 : decide (s < 500) = false := decide_eq_false a3
      obtain rfl : ro = ⟨false, true, [], 0⟩ := by rw [HP.out]; first | rw [if_pos (by omega)] | rw [if_neg (by omega)]
      obtain ⟨s0, s1, s2, s3, t0, t1, t2, t3, lS, FIN⟩ := rb_fin ⟨false, true, [], 0⟩ w w0 RB.out B0.out none 0 w0 (RdC.nil _ _) (Nat.le_refl _) (by omega) (fun g hg => by cases hg) (Below.refl _ _)
      clear RB B0 HP LP GP PK
      go_wp2
      exact bodyPost_ret (v := .agg #[.bool false, .bool true, .slice none 0 0, .int .i64 0]) (by simp [results, Tryz.results9, go_sem, s0, s1, s2, s3]) rfl (FIN.out _ _ _ _ _ _ _ _ rfl rfl rfl rfl)
end Go.Proofs.YtodlecjbpmggiaaGreatDoor
