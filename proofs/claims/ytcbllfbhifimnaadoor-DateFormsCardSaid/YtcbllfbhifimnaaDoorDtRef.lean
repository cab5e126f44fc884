/- The document's own moments: names, day, clock, seconds. -/
import Derived.Test.YtcbllfbhifimnaaDoorDtRpad
namespace Go.Proofs.YtcbllfbhifimnaaDoor
open Go.RowKit
set_option linter.unusedVariables false
set_option linter.unusedSimpArgs false
set_option maxRecDepth 10000

def monR : Array Value := #[.string ⟨#[]⟩, .string ⟨#[74, 97, 110]⟩, .string ⟨#[70, 101, 98]⟩, .string ⟨#[77, 97, 114]⟩, .string ⟨#[65, 112, 114]⟩, .string ⟨#[77, 97, 121]⟩, .string ⟨#[74, 117, 110]⟩, .string ⟨#[74, 117, 108]⟩, .string ⟨#[65, 117, 103]⟩, .string ⟨#[83, 101, 112]⟩, .string ⟨#[79, 99, 116]⟩, .string ⟨#[78, 111, 118]⟩, .string ⟨#[68, 101, 99]⟩]
def rM (m : Mo) : Array Value := #[.int .i64 m.y, .int .i64 m.mo, .int .i64 m.d, .int .i64 m.h, .int .i64 m.mi, .int .i64 m.s]
/-- A list of texts, newly made. -/
def ListP (cs : Array Value) (w : World) (e : Ending) (w' : World) : Prop := ∃ b, e = .returned (.slice (some ⟨b, 0, none⟩) cs.size cs.size) ∧ Box w' b cs 9 ∧ Below w.heap.size w w'
theorem rmonths_at (w : World) : Calls Tryd.prog 25 #[] w (ListP monR w) := by
  go_enter Tryd.func25, Tryd.ntmps25
  go_wp2
  go_ret
  exact ⟨w.heap.size, rfl, Box.new w _ _, (Below.refl _ _).alloc (Nat.le_refl _) _⟩
theorem rdays_list (w : World) : Calls Tryd.prog 45 #[] w (ListP dayV w) := by
  go_enter Tryd.func45, Tryd.ntmps45
  go_wp2
  go_ret
  exact ⟨w.heap.size, rfl, Box.new w _ _, (Below.refl _ _).alloc (Nat.le_refl _) _⟩
set_option maxHeartbeats 2000000 in
theorem rday_at (y mo d : Int) (h mi s : Int) (K : Nat) (x : ByteArray) (hv : Valid y mo d) (hK : (num y mo d + 3) % 7 = (K : Int)) (hx : dayV[K]? = some (.string x)) (w : World) :
    Calls Tryd.prog 23 #[.agg #[.int .i64 y, .int .i64 mo, .int .i64 d, .int .i64 h, .int .i64 mi, .int .i64 s]] w fun e w' => e = .returned (.string x) ∧ Below w.heap.size w w' := by
  have hr := num_range y mo d hv
  have K7 : K < 7 := by omega
  obtain ⟨n, hn⟩ : ∃ n, num y mo d = n := ⟨_, rfl⟩
  have D : Hid (∀ W : World, Calls Tryd.prog 34 #[.int .i64 y, .int .i64 mo, .int .i64 d] W fun e w' => e = .returned (.tuple #[.int .i64 n, .bool true]) ∧ Below W.heap.size W w') := Lib.hid (fun W => by have := rdays_yes y mo d hv W; rw [hn] at this; exact this)
  rw [hn] at hK hr
  obtain ⟨n0, n1⟩ := hr
  obtain ⟨r, hr⟩ : ∃ r, (n + 3).tmod 7 = r := ⟨_, rfl⟩
  have hrr : (r < 0 → r + 7 = (K : Int)) ∧ (¬ r < 0 → r = (K : Int)) ∧ -7 < r ∧ r < 7 := by
    by_cases h0 : 0 ≤ n + 3
    · rw [Int.tmod_eq_emod_of_nonneg h0] at hr
      omega
    · obtain ⟨m, hm⟩ : ∃ m, n + 3 = -m := ⟨-(n + 3), by omega⟩
      rw [hm, Int.neg_tmod, Int.tmod_eq_emod_of_nonneg (by omega)] at hr
      omega
  have HX := Lib.hid hx
  obtain ⟨h1, h2, h3, h4⟩ := hrr
  have r2 : (K : Int) < 7 := by omega
  clear hv hn hK hx
  go_enter Tryd.func23, Tryd.ntmps23
  go_wp2_with fail
  refine (D.out _).mono ?_
  rintro e w1 ⟨rfl, hb1⟩
  have B1 := Lib.hid (((Below.refl w.heap.size w).alloc (Nat.le_refl _) _).trans (hb1.mono (by simp)))
  clear hb1
  by_cases h0 : r < 0
  · have d1 : decide (r < 0) = true := decide_eq_true h0
    have e1 := h1 h0
    clear h1 h2
    go_wp2_with fail
    refine (rdays_list _).mono ?_
    rintro e w2 ⟨b, rfl, hb, B⟩
    have kc : w2.cell? ⟨b, K, none⟩ = some (.string x) := by rw [hb.cell, HX.out]
    have hsz : dayV.size = 7 := rfl
    have BB := Lib.hid (B1.out.trans (B.mono B1.out.size))
    clear hb B
    rw [hsz]
    go_wp2
    go_ret
    exact ⟨rfl, BB.out⟩
  · have d1 : decide (r < 0) = false := decide_eq_false h0
    have e1 := h2 (by omega)
    clear h1 h2
    go_wp2_with fail
    refine (rdays_list _).mono ?_
    rintro e w2 ⟨b, rfl, hb, B⟩
    have kc : w2.cell? ⟨b, K, none⟩ = some (.string x) := by rw [hb.cell, HX.out]
    have hsz : dayV.size = 7 := rfl
    have BB := Lib.hid (B1.out.trans (B.mono B1.out.size))
    clear hb B
    rw [hsz]
    go_wp2
    go_ret
    exact ⟨rfl, BB.out⟩
theorem rpad_as (k : Nat) (v : Int) (t : ByteArray) (ht : strL (padN k v.toNat) = t) (hk : k ≤ 10) (h0 : 0 ≤ v) (h1 : v ≤ 9223372036854775807) (w : World) :
    Calls Tryd.prog 24 #[.int .i64 v, .int .i64 (k : Int)] w fun e w' => e = .returned (.string t) ∧ Below w.heap.size w w' := by
  have := rpad_at k v.toNat t ht hk (by omega) w
  rw [Int.toNat_of_nonneg h0] at this
  exact this
theorem rpad2_as (v : Int) (t : ByteArray) (ht : strL (padN 2 v.toNat) = t) (h0 : 0 ≤ v) (h1 : v ≤ 9223372036854775807) (w : World) :
    Calls Tryd.prog 24 #[.int .i64 v, .int .i64 2] w fun e w' => e = .returned (.string t) ∧ Below w.heap.size w w' := rpad_as 2 v t ht (by decide) h0 h1 w
theorem rpad4_as (v : Int) (t : ByteArray) (ht : strL (padN 4 v.toNat) = t) (h0 : 0 ≤ v) (h1 : v ≤ 9223372036854775807) (w : World) :
    Calls Tryd.prog 24 #[.int .i64 v, .int .i64 4] w fun e w' => e = .returned (.string t) ∧ Below w.heap.size w w' := rpad_as 4 v t ht (by decide) h0 h1 w
set_option maxHeartbeats 4000000 in
theorem rclock_at (wd y mo d h mi s : Int) (t : ByteArray) (hc : ClkOk ⟨wd, y, mo, d, h, mi, s⟩) (ht : strL (clkL ⟨wd, y, mo, d, h, mi, s⟩) = t) (w : World) :
    Calls Tryd.prog 26 #[.agg #[.int .i64 y, .int .i64 mo, .int .i64 d, .int .i64 h, .int .i64 mi, .int .i64 s]] w fun e w' => e = .returned (.string t) ∧ Below w.heap.size w w' := by
  obtain ⟨b1, b2, b3⟩ := hc
  dsimp only at b1 b2 b3
  obtain ⟨ph, hph⟩ : ∃ t, strL (padN 2 h.toNat) = t := ⟨_, rfl⟩
  obtain ⟨pm, hpm⟩ : ∃ t, strL (padN 2 mi.toNat) = t := ⟨_, rfl⟩
  obtain ⟨ps, hps⟩ : ∃ t, strL (padN 2 s.toNat) = t := ⟨_, rfl⟩
  have zph := pad_size 2 _ ph hph
  have zpm := pad_size 2 _ pm hpm
  have zps := pad_size 2 _ ps hps
  have PH := Lib.hid (fun W => rpad2_as h ph hph (by omega) (by omega) W)
  have PM := Lib.hid (fun W => rpad2_as mi pm hpm (by omega) (by omega) W)
  have PS := Lib.hid (fun W => rpad2_as s ps hps (by omega) (by omega) W)
  obtain ⟨c1, hc1⟩ : ∃ c, ph ++ (⟨#[58]⟩ : ByteArray) = c := ⟨_, rfl⟩
  obtain ⟨c2, hc2⟩ : ∃ c, c1 ++ pm = c := ⟨_, rfl⟩
  obtain ⟨c3, hc3⟩ : ∃ c, c2 ++ (⟨#[58]⟩ : ByteArray) = c := ⟨_, rfl⟩
  have hck : c3 ++ ps = t := by
    rw [← ht, ← strL_btL (c3 ++ ps)]
    congr 1
    unfold clkL
    dsimp only
    rw [← hc3, ← hc2, ← hc1, ← hph, ← hpm, ← hps]
    simp only [btD_app, btD_pad]
    rfl
  have s1 : (⟨#[58]⟩ : ByteArray).size = 1 := rfl
  have z1 : c1.size = 3 := by rw [← hc1, ByteArray.size_append]; omega
  have z2 : c2.size = 5 := by rw [← hc2, ByteArray.size_append]; omega
  have z3 : c3.size = 6 := by rw [← hc3, ByteArray.size_append]; omega
  have A1 : ∀ wx : World, (Op.stringOp .add ph ⟨#[58]⟩).run Tryd.prog wx = .ok (.string c1) wx := fun wx => by rw [run_string_add_sum wx _ _ (by omega), hc1]
  have A2 : ∀ wx : World, (Op.stringOp .add c1 pm).run Tryd.prog wx = .ok (.string c2) wx := fun wx => by rw [run_string_add_sum wx _ _ (by omega), hc2]
  have A3 : ∀ wx : World, (Op.stringOp .add c2 ⟨#[58]⟩).run Tryd.prog wx = .ok (.string c3) wx := fun wx => by rw [run_string_add_sum wx _ _ (by omega), hc3]
  have A4 : ∀ wx : World, (Op.stringOp .add c3 ps).run Tryd.prog wx = .ok (.string t) wx := fun wx => by rw [run_string_add_sum wx _ _ (by omega), hck]
  clear s1 z1 z2 z3 zph zpm zps hc1 hc2 hc3 hck hph hpm hps ht b1 b2 b3
  obtain ⟨g, hg⟩ : ∃ g, w.heap.size = g := ⟨_, rfl⟩
  go_enter Tryd.func26, Tryd.ntmps26
  go_wp2
  refine code_forget (fun wx => Hid (Box wx g #[.int .i64 y, .int .i64 mo, .int .i64 d, .int .i64 h, .int .i64 mi, .int .i64 s] 24) ∧ Hid (Below w.heap.size w wx)) ⟨Lib.hid (dBox_new hg.symm), Lib.hid ((Below.refl _ _).alloc (Nat.le_refl _) _)⟩ ?_
  rintro w1 ⟨X1, B1⟩
  refine wp_region_last 13 (fun w' => Box w' g #[.int .i64 y, .int .i64 mo, .int .i64 d, .int .i64 h, .int .i64 mi, .int .i64 s] 24 ∧ Below w.heap.size w w') (by kernel_rfl) (⟨X1.out.drew, B1.out.drew⟩) (fun hHeld hClosed => ?_)
  refine wpAnyL_take (i := 0) (v := ?_) rfl (by kernel_rfl) (by kernel_rfl) (by kernel_rfl) (by kernel_rfl) (fun _ _ _ h => h) (by kernel_rfl) hClosed (Or.inl ⟨by rfl, ?_⟩) hHeld (fun hClosed => ?_)
  rotate_left
  · intro wv hSw; go_simp; all_goals (with_reducible rfl)
  (try simp only [List.getElem_toArray, List.getElem_cons_zero, put_at, List.set])
  refine wpAnyL_take (i := 1) (v := ?_) rfl (by kernel_rfl) (by kernel_rfl) (by kernel_rfl) (by kernel_rfl) (fun _ _ _ h => h) (by kernel_rfl) hClosed (Or.inl ⟨by rfl, ?_⟩) hHeld (fun hClosed => ?_)
  rotate_left
  · intro wv hSw; have c3 := hSw.1.cell 3; have c4 := hSw.1.cell 4; have c5 := hSw.1.cell 5; have cl := hSw.1.lt; simp only [List.getElem?_toArray, List.getElem?_cons_zero, List.getElem?_cons_succ] at c3 c4 c5; go_simp; all_goals (with_reducible rfl)
  (try simp only [List.getElem_toArray, List.getElem_cons_succ, List.getElem_cons_zero, put_at, List.set])
  refine wpAnyL_take (i := 4) (v := ?_) rfl (by kernel_rfl) (by kernel_rfl) (by kernel_rfl) (by kernel_rfl) (fun _ _ _ h => h) (by kernel_rfl) hClosed (Or.inl ⟨by rfl, ?_⟩) hHeld (fun hClosed => ?_)
  rotate_left
  · intro wv hSw; go_simp; all_goals (with_reducible rfl)
  (try simp only [List.getElem_toArray, List.getElem_cons_succ, List.getElem_cons_zero, put_at, List.set])
  refine wpAnyL_take (i := 5) (v := ?_) rfl (by kernel_rfl) (by kernel_rfl) (by kernel_rfl) (by kernel_rfl) (fun _ _ _ h => h) (by kernel_rfl) hClosed (Or.inl ⟨by rfl, ?_⟩) hHeld (fun hClosed => ?_)
  rotate_left
  · intro wv hSw; have c3 := hSw.1.cell 3; have c4 := hSw.1.cell 4; have c5 := hSw.1.cell 5; have cl := hSw.1.lt; simp only [List.getElem?_toArray, List.getElem?_cons_zero, List.getElem?_cons_succ] at c3 c4 c5; go_simp; all_goals (with_reducible rfl)
  (try simp only [List.getElem_toArray, List.getElem_cons_succ, List.getElem_cons_zero, put_at, List.set])
  refine wpAnyL_take (i := 9) (v := ?_) rfl (by kernel_rfl) (by kernel_rfl) (by kernel_rfl) (by kernel_rfl) (fun _ _ _ h => h) (by kernel_rfl) hClosed (Or.inl ⟨by rfl, ?_⟩) hHeld (fun hClosed => ?_)
  rotate_left
  · intro wv hSw; go_simp; all_goals (with_reducible rfl)
  (try simp only [List.getElem_toArray, List.getElem_cons_succ, List.getElem_cons_zero, put_at, List.set])
  refine wpAnyL_take (i := 10) (v := ?_) rfl (by kernel_rfl) (by kernel_rfl) (by kernel_rfl) (by kernel_rfl) (fun _ _ _ h => h) (by kernel_rfl) hClosed (Or.inl ⟨by rfl, ?_⟩) hHeld (fun hClosed => ?_)
  rotate_left
  · intro wv hSw; have c3 := hSw.1.cell 3; have c4 := hSw.1.cell 4; have c5 := hSw.1.cell 5; have cl := hSw.1.lt; simp only [List.getElem?_toArray, List.getElem?_cons_zero, List.getElem?_cons_succ] at c3 c4 c5; go_simp; all_goals (with_reducible rfl)
  (try simp only [List.getElem_toArray, List.getElem_cons_succ, List.getElem_cons_zero, put_at, List.set])
  refine wpAnyL_one (i := 2) rfl (by kernel_rfl) (by kernel_rfl) hClosed (fun KK hK => ?_)
  go_simp
  refine (PH.out _).mono ?_
  rintro e wq ⟨rfl, hbq⟩
  go_wp2_with fail
  refine hK.out _ _ ?_ (fun hClosed hHeld => ?_)
  · exact ⟨hHeld.1.later hbq, hHeld.2.trans (hbq.mono hHeld.2.size)⟩
  clear hK KK
  (first | simp only [List.getElem_toArray, List.getElem_cons_succ, List.getElem_cons_zero, put_at, List.set] | (try simp only [put_at, List.set]))
  refine wpAnyL_take (i := 3) (v := ?_) rfl (by kernel_rfl) (by kernel_rfl) (by kernel_rfl) (by kernel_rfl) (fun _ _ _ h => h) (by kernel_rfl) hClosed (Or.inl ⟨by rfl, ?_⟩) hHeld (fun hClosed => ?_)
  rotate_left
  · intro wv hSw; go_simp; all_goals (with_reducible rfl)
  (try simp only [List.getElem_toArray, List.getElem_cons_succ, List.getElem_cons_zero, put_at, List.set])
  refine wpAnyL_one (i := 6) rfl (by kernel_rfl) (by kernel_rfl) hClosed (fun KK hK => ?_)
  go_simp
  refine (PM.out _).mono ?_
  rintro e wq ⟨rfl, hbq⟩
  go_wp2_with fail
  refine hK.out _ _ ?_ (fun hClosed hHeld => ?_)
  · exact ⟨hHeld.1.later hbq, hHeld.2.trans (hbq.mono hHeld.2.size)⟩
  clear hK KK
  (first | simp only [List.getElem_toArray, List.getElem_cons_succ, List.getElem_cons_zero, put_at, List.set] | (try simp only [put_at, List.set]))
  refine wpAnyL_take (i := 7) (v := ?_) rfl (by kernel_rfl) (by kernel_rfl) (by kernel_rfl) (by kernel_rfl) (fun _ _ _ h => h) (by kernel_rfl) hClosed (Or.inl ⟨by rfl, ?_⟩) hHeld (fun hClosed => ?_)
  rotate_left
  · intro wv hSw; go_simp; all_goals (with_reducible rfl)
  (try simp only [List.getElem_toArray, List.getElem_cons_succ, List.getElem_cons_zero, put_at, List.set])
  refine wpAnyL_take (i := 8) (v := ?_) rfl (by kernel_rfl) (by kernel_rfl) (by kernel_rfl) (by kernel_rfl) (fun _ _ _ h => h) (by kernel_rfl) hClosed (Or.inl ⟨by rfl, ?_⟩) hHeld (fun hClosed => ?_)
  rotate_left
  · intro wv hSw; go_simp; all_goals (with_reducible rfl)
  (try simp only [List.getElem_toArray, List.getElem_cons_succ, List.getElem_cons_zero, put_at, List.set])
  refine wpAnyL_one (i := 11) rfl (by kernel_rfl) (by kernel_rfl) hClosed (fun KK hK => ?_)
  go_simp
  refine (PS.out _).mono ?_
  rintro e wq ⟨rfl, hbq⟩
  go_wp2_with fail
  refine hK.out _ _ ?_ (fun hClosed hHeld => ?_)
  · exact ⟨hHeld.1.later hbq, hHeld.2.trans (hbq.mono hHeld.2.size)⟩
  clear hK KK
  (first | simp only [List.getElem_toArray, List.getElem_cons_succ, List.getElem_cons_zero, put_at, List.set] | (try simp only [put_at, List.set]))
  refine wpAnyL_take (i := 12) (v := ?_) rfl (by kernel_rfl) (by kernel_rfl) (by kernel_rfl) (by kernel_rfl) (fun _ _ _ h => h) (by kernel_rfl) hClosed (Or.inl ⟨by rfl, ?_⟩) hHeld (fun hClosed => ?_)
  rotate_left
  · intro wv hSw; go_simp; all_goals (with_reducible rfl)
  (try simp only [List.getElem_toArray, List.getElem_cons_succ, List.getElem_cons_zero, put_at, List.set])
  refine wpAnyL_last rfl (by kernel_rfl) (by kernel_rfl) (fun KK hK => ?_)
  go_simp
  refine hK.out _ _ ?_
  (try simp only [put_at, List.set])
  go_wp2
  go_ret
  exact ⟨rfl, hHeld.2⟩
end Go.Proofs.YtcbllfbhifimnaaDoor
