/- The second and the third form: how they are read. No program here. -/
import Derived.Test.YtodibjpojfipoaaGreatDoorDtAwk
import Derived.Test.YtodibjpojfipoaaGreatDoorRowB
/- The document's own numbers of so many digits. -/
namespace Go.Proofs.YtodibjpojfipoaaGreatDoor
open Go.RowKit
set_option linter.unusedVariables false
set_option linter.unusedSimpArgs false
set_option maxRecDepth 10000

theorem strD_app (a b : List Int) : strL (a ++ b) = strL a ++ strL b := by
  apply ByteArray.ext
  simp [strL, ByteArray.data_append]
theorem padN_cons : ∀ (k n : Nat), padN (k + 1) n = ((48 + n / 10 ^ k % 10 : Nat) : Int) :: padN k n
  | 0, n => by unfold padN padN; simp
  | k + 1, n => by
    have e : padN (k + 1 + 1) n = padN (k + 1) (n / 10) ++ [((48 + n % 10 : Nat) : Int)] := rfl
    have e2 : padN (k + 1) n = padN k (n / 10) ++ [((48 + n % 10 : Nat) : Int)] := rfl
    rw [e, padN_cons k (n / 10), e2, List.cons_append, Nat.div_div_eq_div_mul, Nat.pow_succ, Nat.mul_comm (10 ^ k)]
set_option maxHeartbeats 2000000 in
theorem rpad_at (K N : Nat) (t : ByteArray) (ht : strL (padN K N) = t) (hK : K ≤ 10) (hN : N ≤ 9223372036854775807) (w : World) :
    Calls Tryz.prog 86 #[.int .i64 (N : Int), .int .i64 (K : Int)] w fun e w' => e = .returned (.string t) ∧ Below w.heap.size w w' := by
  have HT := Lib.hid ht
  clear ht
  go_enter Tryz.func86, Tryz.ntmps86
  go_wp2_with fail
  go_loopw [0, 5, 6] (fun n o i wr => ∃ (j k : Nat) (out : ByteArray), n = .int .i64 (k : Int) ∧ o = .string out ∧ i = .int .i64 (j : Int) ∧ j ≤ K ∧ k ≤ 9223372036854775807 ∧ out.size ≤ 10 ∧ Hid (k = N / 10 ^ j) ∧ Hid (out = strL (padN j N)) ∧ Hid (Below w.heap.size w wr)) (fun _ _ i _ => K - (intOf i).toNat)
  case atStart => exact ⟨0, N, _, rfl, rfl, rfl, by omega, hN, by decide, Lib.hid (by simp), Lib.hid rfl, Lib.hid (Below.refl _ _)⟩
  case round =>
    obtain ⟨j, k, os, rfl, rfl, rfl, hj, hk, hzs, HKD, HO, BR⟩ := hrel
    by_cases hlt : j < K
    · have d1 : decide ((j : Int) < (K : Int)) = true := decide_eq_true (by omega)
      have d2 : decide (j < K) = true := decide_eq_true hlt
      obtain ⟨u, hu⟩ : ∃ u : Int, (k : Int) % 10 = u := ⟨_, rfl⟩
      have u0 : 0 ≤ u := by omega
      have u1 : u < 10 := by omega
      have w1 : IntKind.i64.wrap (48 + u) = 48 + u := IntWalk.i64_in _ (by omega)
      have w2 : IntKind.u8.wrap (48 + u) = 48 + u := by rw [IntKind.wrap_u8]; omega
      have hcv := ((RdB.new wr [48 + u] 5 (0, 0)).drew).text (P := Tryz.prog) 78 5 9 Tryz.underlying78 Tryz.underlying5 Tryz.underlying9 (fun _ => Or.inr ⟨_, _, rfl⟩) 1
      have hcv2 := (RdB.new wr [48 + u] 5 (0, 0)).text (P := Tryz.prog) 78 5 9 Tryz.underlying78 Tryz.underlying5 Tryz.underlying9 (fun _ => Or.inr ⟨_, _, rfl⟩) 1
      simp only [List.map_cons, List.map_nil, List.length_cons, List.length_nil, Nat.zero_add] at hcv hcv2
      obtain ⟨pc, hpc⟩ : ∃ x, strL [48 + u] = x := ⟨_, rfl⟩
      obtain ⟨ns, hns⟩ : ∃ x, pc ++ os = x := ⟨_, rfl⟩
      have hzp : pc.size = 1 := by rw [← hpc, strL_size]; rfl
      have HNS : Hid (ns = strL (padN (j + 1) N)) := Lib.hid (by
        rw [← hns, HO.out, ← hpc, ← strD_app, padN_cons, ← HKD.out]
        have : ((48 + k % 10 : Nat) : Int) = 48 + u := by omega
        rw [this]
        rfl)
      have hzn : Hid (ns.size ≤ 10) := Lib.hid (by rw [HNS.out, strL_size, padN_len]; omega)
      have hadd : ∀ wx : World, (Op.stringOp .add pc os).run Tryz.prog wx = .ok (.string ns) wx := fun wx => by
        rw [run_string_add_sum wx pc os (by omega), hns]
      rw [hpc] at hcv hcv2
      have HQ : Hid ((k : Int) / 10 = ((k / 10 : Nat) : Int)) := Lib.hid (by omega)
      have HQ2 : Hid (k / 10 = N / 10 ^ (j + 1)) := Lib.hid (by rw [HKD.out, Nat.div_div_eq_div_mul, Nat.pow_succ])
      clear hpc hns hzp
      go_wp2
      go_roundw
      case rel => exact ⟨j + 1, k / 10, ns, by rw [← HQ.out], rfl, by simp, by omega, by omega, hzn.out, HQ2, HNS, Lib.hid (BR.out.alloc BR.out.size _)⟩
      case measure => simp [intOf]; omega
    · have d1 : decide ((j : Int) < (K : Int)) = false := decide_eq_false (by omega)
      have d2 : decide (j < K) = false := decide_eq_false hlt
      have HE : Hid (os = t) := Lib.hid (by rw [HO.out, ← HT.out, show j = K from by omega])
      go_wp2
      go_ret
      rw [HE.out]
      exact ⟨rfl, BR.out⟩
end Go.Proofs.YtodibjpojfipoaaGreatDoor
/- The document's own moments: names, day, clock, seconds. -/
namespace Go.Proofs.YtodibjpojfipoaaGreatDoor
open Go.RowKit
set_option linter.unusedVariables false
set_option linter.unusedSimpArgs false
set_option maxRecDepth 10000

def monR : Array Value := #[.string ⟨#[]⟩, .string ⟨#[74, 97, 110]⟩, .string ⟨#[70, 101, 98]⟩, .string ⟨#[77, 97, 114]⟩, .string ⟨#[65, 112, 114]⟩, .string ⟨#[77, 97, 121]⟩, .string ⟨#[74, 117, 110]⟩, .string ⟨#[74, 117, 108]⟩, .string ⟨#[65, 117, 103]⟩, .string ⟨#[83, 101, 112]⟩, .string ⟨#[79, 99, 116]⟩, .string ⟨#[78, 111, 118]⟩, .string ⟨#[68, 101, 99]⟩]
def rM (m : Mo) : Array Value := #[.int .i64 m.y, .int .i64 m.mo, .int .i64 m.d, .int .i64 m.h, .int .i64 m.mi, .int .i64 m.s]
/-- A list of texts, newly made. -/
def ListP (cs : Array Value) (w : World) (e : Ending) (w' : World) : Prop := ∃ b, e = .returned (.slice (some ⟨b, 0, none⟩) cs.size cs.size) ∧ Box w' b cs 9 ∧ Below w.heap.size w w'
theorem rmonths_at (w : World) : Calls Tryz.prog 83 #[] w (ListP monR w) := by
  go_enter Tryz.func83, Tryz.ntmps83
  go_wp2
  go_ret
  exact ⟨w.heap.size, rfl, Box.new w _ _, (Below.refl _ _).alloc (Nat.le_refl _) _⟩
theorem rdays_list (w : World) : Calls Tryz.prog 111 #[] w (ListP dayV w) := by
  go_enter Tryz.func111, Tryz.ntmps111
  go_wp2
  go_ret
  exact ⟨w.heap.size, rfl, Box.new w _ _, (Below.refl _ _).alloc (Nat.le_refl _) _⟩
set_option maxHeartbeats 2000000 in
theorem rday_at (y mo d : Int) (h mi s : Int) (K : Nat) (x : ByteArray) (hv : Valid y mo d) (hK : (num y mo d + 3) % 7 = (K : Int)) (hx : dayV[K]? = some (.string x)) (w : World) :
    Calls Tryz.prog 85 #[.agg #[.int .i64 y, .int .i64 mo, .int .i64 d, .int .i64 h, .int .i64 mi, .int .i64 s]] w fun e w' => e = .returned (.string x) ∧ Below w.heap.size w w' := by
  have hr := num_range y mo d hv
  have K7 : K < 7 := by omega
  obtain ⟨n, hn⟩ : ∃ n, num y mo d = n := ⟨_, rfl⟩
  have D : Hid (∀ W : World, Calls Tryz.prog 84 #[.int .i64 y, .int .i64 mo, .int .i64 d] W fun e w' => e = .returned (.tuple #[.int .i64 n, .bool true]) ∧ Below W.heap.size W w') := Lib.hid (fun W => by have := rdays_yes y mo d hv W; rw [hn] at this; exact this)
  rw [hn] at hK hr
  obtain ⟨n0, n1⟩ := hr
  obtain ⟨r, hr⟩ : ∃ r, (n + 3).tmod 7 = r := ⟨_, rfl⟩
  have hrr : (r < 0 → r + 7 = (K : Int)) ∧ (¬ r < 0 → r = (K : Int)) ∧ -7 < r ∧ r < 7 := by
    by_cases h0 : 0 ≤ n + 3
    · rw [Int.tmod_eq_emod_of_nonneg h0] at hr
      omega
    · obtain ⟨m, hm⟩ : ∃ m, n + 3 = -m := ⟨-(n + 3), by omega⟩
      rw [hm, Int.neg_tmod, Int.tmod_eq_emod_of_nonneg (by omega)] at hr
      omega
  have HX := Lib.hid hx
  obtain ⟨h1, h2, h3, h4⟩ := hrr
  have r2 : (K : Int) < 7 := by omega
  clear hv hn hK hx
  go_enter Tryz.func85, Tryz.ntmps85
  go_wp2_with fail
  refine (D.out _).mono ?_
  rintro e w1 ⟨rfl, hb1⟩
  have B1 := Lib.hid (((Below.refl w.heap.size w).alloc (Nat.le_refl _) _).trans (hb1.mono (by simp)))
  clear hb1
  by_cases h0 : r < 0
  · have d1 : decide (r < 0) = true := decide_eq_true h0
    have e1 := h1 h0
    clear h1 h2
    go_wp2_with fail
    refine (rdays_list _).mono ?_
    rintro e w2 ⟨b, rfl, hb, B⟩
    have kc : w2.cell? ⟨b, K, none⟩ = some (.string x) := by rw [hb.cell, HX.out]
    have hsz : dayV.size = 7 := rfl
    have BB := Lib.hid (B1.out.trans (B.mono B1.out.size))
    clear hb B
    rw [hsz]
    go_wp2
    go_ret
    exact ⟨rfl, BB.out⟩
  · have d1 : decide (r < 0) = false := decide_eq_false h0
    have e1 := h2 (by omega)
    clear h1 h2
    go_wp2_with fail
    refine (rdays_list _).mono ?_
    rintro e w2 ⟨b, rfl, hb, B⟩
    have kc : w2.cell? ⟨b, K, none⟩ = some (.string x) := by rw [hb.cell, HX.out]
    have hsz : dayV.size = 7 := rfl
    have BB := Lib.hid (B1.out.trans (B.mono B1.out.size))
    clear hb B
    rw [hsz]
    go_wp2
    go_ret
    exact ⟨rfl, BB.out⟩
theorem rpad_as (k : Nat) (v : Int) (t : ByteArray) (ht : strL (padN k v.toNat) = t) (hk : k ≤ 10) (h0 : 0 ≤ v) (h1 : v ≤ 9223372036854775807) (w : World) :
    Calls Tryz.prog 86 #[.int .i64 v, .int .i64 (k : Int)] w fun e w' => e = .returned (.string t) ∧ Below w.heap.size w w' := by
  have := rpad_at k v.toNat t ht hk (by omega) w
  rw [Int.toNat_of_nonneg h0] at this
  exact this
theorem rpad2_as (v : Int) (t : ByteArray) (ht : strL (padN 2 v.toNat) = t) (h0 : 0 ≤ v) (h1 : v ≤ 9223372036854775807) (w : World) :
    Calls Tryz.prog 86 #[.int .i64 v, .int .i64 2] w fun e w' => e = .returned (.string t) ∧ Below w.heap.size w w' := rpad_as 2 v t ht (by decide) h0 h1 w
theorem rpad4_as (v : Int) (t : ByteArray) (ht : strL (padN 4 v.toNat) = t) (h0 : 0 ≤ v) (h1 : v ≤ 9223372036854775807) (w : World) :
    Calls Tryz.prog 86 #[.int .i64 v, .int .i64 4] w fun e w' => e = .returned (.string t) ∧ Below w.heap.size w w' := rpad_as 4 v t ht (by decide) h0 h1 w
set_option maxHeartbeats 4000000 in
theorem rclock_at (wd y mo d h mi s : Int) (t : ByteArray) (hc : ClkOk ⟨wd, y, mo, d, h, mi, s⟩) (ht : strL (clkL ⟨wd, y, mo, d, h, mi, s⟩) = t) (w : World) :
    Calls Tryz.prog 87 #[.agg #[.int .i64 y, .int .i64 mo, .int .i64 d, .int .i64 h, .int .i64 mi, .int .i64 s]] w fun e w' => e = .returned (.string t) ∧ Below w.heap.size w w' := by
  obtain ⟨b1, b2, b3⟩ := hc
  dsimp only at b1 b2 b3
  obtain ⟨ph, hph⟩ : ∃ t, strL (padN 2 h.toNat) = t := ⟨_, rfl⟩
  obtain ⟨pm, hpm⟩ : ∃ t, strL (padN 2 mi.toNat) = t := ⟨_, rfl⟩
  obtain ⟨ps, hps⟩ : ∃ t, strL (padN 2 s.toNat) = t := ⟨_, rfl⟩
  have zph := pad_size 2 _ ph hph
  have zpm := pad_size 2 _ pm hpm
  have zps := pad_size 2 _ ps hps
  have PH := Lib.hid (fun W => rpad2_as h ph hph (by omega) (by omega) W)
  have PM := Lib.hid (fun W => rpad2_as mi pm hpm (by omega) (by omega) W)
  have PS := Lib.hid (fun W => rpad2_as s ps hps (by omega) (by omega) W)
  obtain ⟨c1, hc1⟩ : ∃ c, ph ++ (⟨#[58]⟩ : ByteArray) = c := ⟨_, rfl⟩
  obtain ⟨c2, hc2⟩ : ∃ c, c1 ++ pm = c := ⟨_, rfl⟩
  obtain ⟨c3, hc3⟩ : ∃ c, c2 ++ (⟨#[58]⟩ : ByteArray) = c := ⟨_, rfl⟩
  have hck : c3 ++ ps = t := by
    rw [← ht, ← strL_btL (c3 ++ ps)]
    congr 1
    unfold clkL
    dsimp only
    rw [← hc3, ← hc2, ← hc1, ← hph, ← hpm, ← hps]
    simp only [btD_app, btD_pad]
    rfl
  have s1 : (⟨#[58]⟩ : ByteArray).size = 1 := rfl
  have z1 : c1.size = 3 := by rw [← hc1, ByteArray.size_append]; omega
  have z2 : c2.size = 5 := by rw [← hc2, ByteArray.size_append]; omega
  have z3 : c3.size = 6 := by rw [← hc3, ByteArray.size_append]; omega
  have A1 : ∀ wx : World, (Op.stringOp .add ph ⟨#[58]⟩).run Tryz.prog wx = .ok (.string c1) wx := fun wx => by rw [run_string_add_sum wx _ _ (by omega), hc1]
  have A2 : ∀ wx : World, (Op.stringOp .add c1 pm).run Tryz.prog wx = .ok (.string c2) wx := fun wx => by rw [run_string_add_sum wx _ _ (by omega), hc2]
  have A3 : ∀ wx : World, (Op.stringOp .add c2 ⟨#[58]⟩).run Tryz.prog wx = .ok (.string c3) wx := fun wx => by rw [run_string_add_sum wx _ _ (by omega), hc3]
  have A4 : ∀ wx : World, (Op.stringOp .add c3 ps).run Tryz.prog wx = .ok (.string t) wx := fun wx => by rw [run_string_add_sum wx _ _ (by omega), hck]
  clear s1 z1 z2 z3 zph zpm zps hc1 hc2 hc3 hck hph hpm hps ht b1 b2 b3
  obtain ⟨g, hg⟩ : ∃ g, w.heap.size = g := ⟨_, rfl⟩
  go_enter Tryz.func87, Tryz.ntmps87
  go_wp2
  refine code_forget (fun wx => Hid (Box wx g #[.int .i64 y, .int .i64 mo, .int .i64 d, .int .i64 h, .int .i64 mi, .int .i64 s] 60) ∧ Hid (Below w.heap.size w wx)) ⟨Lib.hid (dBox_new hg.symm), Lib.hid ((Below.refl _ _).alloc (Nat.le_refl _) _)⟩ ?_
  rintro w1 ⟨X1, B1⟩
  refine wp_region_last 13 (fun w' => Box w' g #[.int .i64 y, .int .i64 mo, .int .i64 d, .int .i64 h, .int .i64 mi, .int .i64 s] 60 ∧ Below w.heap.size w w') (by kernel_rfl) (⟨X1.out.drew, B1.out.drew⟩) (fun hHeld hClosed => ?_)
  refine wpAnyL_take (i := 0) (v := ?_) rfl (by kernel_rfl) (by kernel_rfl) (by kernel_rfl) (by kernel_rfl) (fun _ _ _ h => h) (by kernel_rfl) hClosed (Or.inl ⟨by rfl, ?_⟩) hHeld (fun hClosed => ?_)
  rotate_left
  · intro wv hSw; go_simp; all_goals (with_reducible rfl)
  (try simp only [List.getElem_toArray, List.getElem_cons_zero, put_at, List.set])
  refine wpAnyL_take (i := 1) (v := ?_) rfl (by kernel_rfl) (by kernel_rfl) (by kernel_rfl) (by kernel_rfl) (fun _ _ _ h => h) (by kernel_rfl) hClosed (Or.inl ⟨by rfl, ?_⟩) hHeld (fun hClosed => ?_)
  rotate_left
  · intro wv hSw; have c3 := hSw.1.cell 3; have c4 := hSw.1.cell 4; have c5 := hSw.1.cell 5; have cl := hSw.1.lt; simp only [List.getElem?_toArray, List.getElem?_cons_zero, List.getElem?_cons_succ] at c3 c4 c5; go_simp; all_goals (with_reducible rfl)
  (try simp only [List.getElem_toArray, List.getElem_cons_succ, List.getElem_cons_zero, put_at, List.set])
  refine wpAnyL_take (i := 4) (v := ?_) rfl (by kernel_rfl) (by kernel_rfl) (by kernel_rfl) (by kernel_rfl) (fun _ _ _ h => h) (by kernel_rfl) hClosed (Or.inl ⟨by rfl, ?_⟩) hHeld (fun hClosed => ?_)
  rotate_left
  · intro wv hSw; go_simp; all_goals (with_reducible rfl)
  (try simp only [List.getElem_toArray, List.getElem_cons_succ, List.getElem_cons_zero, put_at, List.set])
  refine wpAnyL_take (i := 5) (v := ?_) rfl (by kernel_rfl) (by kernel_rfl) (by kernel_rfl) (by kernel_rfl) (fun _ _ _ h => h) (by kernel_rfl) hClosed (Or.inl ⟨by rfl, ?_⟩) hHeld (fun hClosed => ?_)
  rotate_left
  · intro wv hSw; have c3 := hSw.1.cell 3; have c4 := hSw.1.cell 4; have c5 := hSw.1.cell 5; have cl := hSw.1.lt; simp only [List.getElem?_toArray, List.getElem?_cons_zero, List.getElem?_cons_succ] at c3 c4 c5; go_simp; all_goals (with_reducible rfl)
  (try simp only [List.getElem_toArray, List.getElem_cons_succ, List.getElem_cons_zero, put_at, List.set])
  refine wpAnyL_take (i := 9) (v := ?_) rfl (by kernel_rfl) (by kernel_rfl) (by kernel_rfl) (by kernel_rfl) (fun _ _ _ h => h) (by kernel_rfl) hClosed (Or.inl ⟨by rfl, ?_⟩) hHeld (fun hClosed => ?_)
  rotate_left
  · intro wv hSw; go_simp; all_goals (with_reducible rfl)
  (try simp only [List.getElem_toArray, List.getElem_cons_succ, List.getElem_cons_zero, put_at, List.set])
  refine wpAnyL_take (i := 10) (v := ?_) rfl (by kernel_rfl) (by kernel_rfl) (by kernel_rfl) (by kernel_rfl) (fun _ _ _ h => h) (by kernel_rfl) hClosed (Or.inl ⟨by rfl, ?_⟩) hHeld (fun hClosed => ?_)
  rotate_left
  · intro wv hSw; have c3 := hSw.1.cell 3; have c4 := hSw.1.cell 4; have c5 := hSw.1.cell 5; have cl := hSw.1.lt; simp only [List.getElem?_toArray, List.getElem?_cons_zero, List.getElem?_cons_succ] at c3 c4 c5; go_simp; all_goals (with_reducible rfl)
  (try simp only [List.getElem_toArray, List.getElem_cons_succ, List.getElem_cons_zero, put_at, List.set])
  refine wpAnyL_one (i := 2) rfl (by kernel_rfl) (by kernel_rfl) hClosed (fun KK hK => ?_)
  go_simp
  refine (PH.out _).mono ?_
  rintro e wq ⟨rfl, hbq⟩
  go_wp2_with fail
  refine hK.out _ _ ?_ (fun hClosed hHeld => ?_)
  · exact ⟨hHeld.1.later hbq, hHeld.2.trans (hbq.mono hHeld.2.size)⟩
  clear hK KK
  (first | simp only [List.getElem_toArray, List.getElem_cons_succ, List.getElem_cons_zero, put_at, List.set] | (try simp only [put_at, List.set]))
  refine wpAnyL_take (i := 3) (v := ?_) rfl (by kernel_rfl) (by kernel_rfl) (by kernel_rfl) (by kernel_rfl) (fun _ _ _ h => h) (by kernel_rfl) hClosed (Or.inl ⟨by rfl, ?_⟩) hHeld (fun hClosed => ?_)
  rotate_left
  · intro wv hSw; go_simp; all_goals (with_reducible rfl)
  (try simp only [List.getElem_toArray, List.getElem_cons_succ, List.getElem_cons_zero, put_at, List.set])
  refine wpAnyL_one (i := 6) rfl (by kernel_rfl) (by kernel_rfl) hClosed (fun KK hK => ?_)
  go_simp
  refine (PM.out _).mono ?_
  rintro e wq ⟨rfl, hbq⟩
  go_wp2_with fail
  refine hK.out _ _ ?_ (fun hClosed hHeld => ?_)
  · exact ⟨hHeld.1.later hbq, hHeld.2.trans (hbq.mono hHeld.2.size)⟩
  clear hK KK
  (first | simp only [List.getElem_toArray, List.getElem_cons_succ, List.getElem_cons_zero, put_at, List.set] | (try simp only [put_at, List.set]))
  refine wpAnyL_take (i := 7) (v := ?_) rfl (by kernel_rfl) (by kernel_rfl) (by kernel_rfl) (by kernel_rfl) (fun _ _ _ h => h) (by kernel_rfl) hClosed (Or.inl ⟨by rfl, ?_⟩) hHeld (fun hClosed => ?_)
  rotate_left
  · intro wv hSw; go_simp; all_goals (with_reducible rfl)
  (try simp only [List.getElem_toArray, List.getElem_cons_succ, List.getElem_cons_zero, put_at, List.set])
  refine wpAnyL_take (i := 8) (v := ?_) rfl (by kernel_rfl) (by kernel_rfl) (by kernel_rfl) (by kernel_rfl) (fun _ _ _ h => h) (by kernel_rfl) hClosed (Or.inl ⟨by rfl, ?_⟩) hHeld (fun hClosed => ?_)
  rotate_left
  · intro wv hSw; go_simp; all_goals (with_reducible rfl)
  (try simp only [List.getElem_toArray, List.getElem_cons_succ, List.getElem_cons_zero, put_at, List.set])
  refine wpAnyL_one (i := 11) rfl (by kernel_rfl) (by kernel_rfl) hClosed (fun KK hK => ?_)
  go_simp
  refine (PS.out _).mono ?_
  rintro e wq ⟨rfl, hbq⟩
  go_wp2_with fail
  refine hK.out _ _ ?_ (fun hClosed hHeld => ?_)
  · exact ⟨hHeld.1.later hbq, hHeld.2.trans (hbq.mono hHeld.2.size)⟩
  clear hK KK
  (first | simp only [List.getElem_toArray, List.getElem_cons_succ, List.getElem_cons_zero, put_at, List.set] | (try simp only [put_at, List.set]))
  refine wpAnyL_take (i := 12) (v := ?_) rfl (by kernel_rfl) (by kernel_rfl) (by kernel_rfl) (by kernel_rfl) (fun _ _ _ h => h) (by kernel_rfl) hClosed (Or.inl ⟨by rfl, ?_⟩) hHeld (fun hClosed => ?_)
  rotate_left
  · intro wv hSw; go_simp; all_goals (with_reducible rfl)
  (try simp only [List.getElem_toArray, List.getElem_cons_succ, List.getElem_cons_zero, put_at, List.set])
  refine wpAnyL_last rfl (by kernel_rfl) (by kernel_rfl) (fun KK hK => ?_)
  go_simp
  refine hK.out _ _ ?_
  (try simp only [put_at, List.set])
  go_wp2
  go_ret
  exact ⟨rfl, hHeld.2⟩
end Go.Proofs.YtodibjpojfipoaaGreatDoor
/- The document's first form. -/
namespace Go.Proofs.YtodibjpojfipoaaGreatDoor
open Go.RowKit
set_option linter.unusedVariables false
set_option linter.unusedSimpArgs false
set_option maxRecDepth 10000

theorem monR_get (J : Nat) (h0 : 1 ≤ J) (h : J < 13) : ∃ x : ByteArray, monR[J]? = some (.string x) ∧ monN.getD (J - 1) [] = btL x ∧ x.size = 3 := by
  have hk : J = 1 ∨ J = 2 ∨ J = 3 ∨ J = 4 ∨ J = 5 ∨ J = 6 ∨ J = 7 ∨ J = 8 ∨ J = 9 ∨ J = 10 ∨ J = 11 ∨ J = 12 := by omega
  rcases hk with rfl | rfl | rfl | rfl | rfl | rfl | rfl | rfl | rfl | rfl | rfl | rfl <;> exact ⟨_, rfl, rfl, rfl⟩
theorem clk_size (m : Mo) (t : ByteArray) (ht : strL (clkL m) = t) : t.size = 8 := by
  rw [← ht, strL_size]
  unfold clkL
  simp only [List.length_append, padN_len, List.length_cons, List.length_nil]
theorem clk_byts (m : Mo) : Byts (clkL m) := by
  have e3 : Byts [58] := by unfold Byts; decide
  unfold clkL
  exact ((((padN_byts 2 _).append e3).append (padN_byts 2 _)).append e3).append (padN_byts 2 _)
set_option maxHeartbeats 4000000 in
theorem rfirst_at (wd y mo d h mi s : Int) (t : ByteArray) (hv : Valid y mo d) (hc : ClkOk ⟨wd, y, mo, d, h, mi, s⟩) (hw : (num y mo d + 3) % 7 = wd) (ht : strL (firstL ⟨wd, y, mo, d, h, mi, s⟩) = t) (w : World) :
    Calls Tryz.prog 51 #[.agg #[.int .i64 y, .int .i64 mo, .int .i64 d, .int .i64 h, .int .i64 mi, .int .i64 s]] w fun e w' => e = .returned (.string t) ∧ Below w.heap.size w w' := by
  obtain ⟨K, hK⟩ : ∃ K : Nat, (num y mo d + 3) % 7 = (K : Int) := ⟨((num y mo d + 3) % 7).toNat, by omega⟩
  have hK7 : K < 7 := by omega
  obtain ⟨x, g1, g2, g3, g4⟩ := day_get K hK7
  obtain ⟨nm, hnm⟩ : ∃ nm, x.extract 0 3 = nm := ⟨_, rfl⟩
  have zn : nm.size = 3 := by rw [← hnm]; simp; omega
  have hv2 := hv
  obtain ⟨v1, v2, v3, v4, v5, v6⟩ := hv2
  have b4 := lenI_bd y mo
  obtain ⟨J, hJ⟩ : ∃ J : Nat, mo = (J : Int) := ⟨mo.toNat, by omega⟩
  obtain ⟨mn, hmn, g5, zm⟩ := monR_get J (by omega) (by omega)
  obtain ⟨ck, hck⟩ : ∃ t, strL (clkL ⟨wd, y, mo, d, h, mi, s⟩) = t := ⟨_, rfl⟩
  obtain ⟨pd, hpd⟩ : ∃ t, strL (padN 2 d.toNat) = t := ⟨_, rfl⟩
  obtain ⟨py, hpy⟩ : ∃ t, strL (padN 4 y.toNat) = t := ⟨_, rfl⟩
  have zpd := pad_size 2 _ pd hpd
  have zpy := pad_size 4 _ py hpy
  have zck := clk_size _ ck hck
  have DY := Lib.hid (fun W => rday_at y mo d h mi s K x hv hK g1 W)
  have PD := Lib.hid (fun W => rpad2_as d pd hpd (by omega) (by omega) W)
  have PY := Lib.hid (fun W => rpad4_as y py hpy (by omega) (by omega) W)
  have CK := Lib.hid (fun W => rclock_at wd y mo d h mi s ck hc hck W)
  obtain ⟨s1, hs1⟩ : ∃ c, nm ++ (⟨#[44, 32]⟩ : ByteArray) = c := ⟨_, rfl⟩
  obtain ⟨s2, hs2⟩ : ∃ c, s1 ++ pd = c := ⟨_, rfl⟩
  obtain ⟨s3, hs3⟩ : ∃ c, s2 ++ (⟨#[32]⟩ : ByteArray) = c := ⟨_, rfl⟩
  obtain ⟨s4, hs4⟩ : ∃ c, s3 ++ mn = c := ⟨_, rfl⟩
  obtain ⟨s5, hs5⟩ : ∃ c, s4 ++ (⟨#[32]⟩ : ByteArray) = c := ⟨_, rfl⟩
  obtain ⟨s6, hs6⟩ : ∃ c, s5 ++ py = c := ⟨_, rfl⟩
  obtain ⟨s7, hs7⟩ : ∃ c, s6 ++ (⟨#[32]⟩ : ByteArray) = c := ⟨_, rfl⟩
  obtain ⟨s8, hs8⟩ : ∃ c, s7 ++ ck = c := ⟨_, rfl⟩
  have ht2 : s8 ++ (⟨#[32, 71, 77, 84]⟩ : ByteArray) = t := by
    rw [← ht, ← strL_btL (s8 ++ _)]
    congr 1
    unfold firstL
    dsimp only
    have eD : dayH.getD wd.toNat [] = btL nm := by
      rw [← hw, hK, Int.toNat_natCast, ← hnm]
      have := congrArg List.head? g3
      rw [List.head?_drop] at this
      rw [List.getD_eq_getElem?_getD, this]
      rfl
    have eM : monN.getD (mo - 1).toNat [] = btL mn := by rw [show (mo - 1).toNat = J - 1 from by omega, g5]
    have eC : btL ck = clkL ⟨wd, y, mo, d, h, mi, s⟩ := by rw [← hck, btL_strL (clk_byts _)]
    rw [eD, eM, ← eC, ← hs8, ← hs7, ← hs6, ← hs5, ← hs4, ← hs3, ← hs2, ← hs1, ← hpd, ← hpy]
    simp only [btD_app, btD_pad]
    rfl
  have zz_s1 : (⟨#[44, 32]⟩ : ByteArray).size = 2 := rfl
  have z_s1 : s1.size ≤ 5 := by rw [← hs1, ByteArray.size_append]; omega
  have A_s1 : ∀ wx : World, (Op.stringOp .add nm ⟨#[44, 32]⟩).run Tryz.prog wx = .ok (.string s1) wx := fun wx => by rw [run_string_add_sum wx _ _ (by omega), hs1]
  have z_s2 : s2.size ≤ 7 := by rw [← hs2, ByteArray.size_append]; omega
  have A_s2 : ∀ wx : World, (Op.stringOp .add s1 pd).run Tryz.prog wx = .ok (.string s2) wx := fun wx => by rw [run_string_add_sum wx _ _ (by omega), hs2]
  have zz_s3 : (⟨#[32]⟩ : ByteArray).size = 1 := rfl
  have z_s3 : s3.size ≤ 8 := by rw [← hs3, ByteArray.size_append]; omega
  have A_s3 : ∀ wx : World, (Op.stringOp .add s2 ⟨#[32]⟩).run Tryz.prog wx = .ok (.string s3) wx := fun wx => by rw [run_string_add_sum wx _ _ (by omega), hs3]
  have z_s4 : s4.size ≤ 11 := by rw [← hs4, ByteArray.size_append]; omega
  have A_s4 : ∀ wx : World, (Op.stringOp .add s3 mn).run Tryz.prog wx = .ok (.string s4) wx := fun wx => by rw [run_string_add_sum wx _ _ (by omega), hs4]
  have zz_s5 : (⟨#[32]⟩ : ByteArray).size = 1 := rfl
  have z_s5 : s5.size ≤ 12 := by rw [← hs5, ByteArray.size_append]; omega
  have A_s5 : ∀ wx : World, (Op.stringOp .add s4 ⟨#[32]⟩).run Tryz.prog wx = .ok (.string s5) wx := fun wx => by rw [run_string_add_sum wx _ _ (by omega), hs5]
  have z_s6 : s6.size ≤ 16 := by rw [← hs6, ByteArray.size_append]; omega
  have A_s6 : ∀ wx : World, (Op.stringOp .add s5 py).run Tryz.prog wx = .ok (.string s6) wx := fun wx => by rw [run_string_add_sum wx _ _ (by omega), hs6]
  have zz_s7 : (⟨#[32]⟩ : ByteArray).size = 1 := rfl
  have z_s7 : s7.size ≤ 17 := by rw [← hs7, ByteArray.size_append]; omega
  have A_s7 : ∀ wx : World, (Op.stringOp .add s6 ⟨#[32]⟩).run Tryz.prog wx = .ok (.string s7) wx := fun wx => by rw [run_string_add_sum wx _ _ (by omega), hs7]
  have z_s8 : s8.size ≤ 25 := by rw [← hs8, ByteArray.size_append]; omega
  have A_s8 : ∀ wx : World, (Op.stringOp .add s7 ck).run Tryz.prog wx = .ok (.string s8) wx := fun wx => by rw [run_string_add_sum wx _ _ (by omega), hs8]
  have zz_t : (⟨#[32, 71, 77, 84]⟩ : ByteArray).size = 4 := rfl
  have z_t : t.size ≤ 29 := by rw [← ht2, ByteArray.size_append]; omega
  have A_t : ∀ wx : World, (Op.stringOp .add s8 ⟨#[32, 71, 77, 84]⟩).run Tryz.prog wx = .ok (.string t) wx := fun wx => by rw [run_string_add_sum wx _ _ (by omega), ht2]
  clear zz_s1 zz_s3 zz_s5 zz_s7 zz_t z_s1 z_s2 z_s3 z_s4 z_s5 z_s6 z_s7 z_s8 z_t
  have G2 : Hid (monR[J]? = some (.string mn)) := Lib.hid hmn
  have HS1 : 3 ≤ x.size := g4
  have HS2 : (3 : Int) ≤ (x.size : Int) := by omega
  have m0 : 0 ≤ mo := by omega
  have m1 : mo < 13 := by omega
  have hmj : mo.toNat = J := by omega
  clear hv hc hw ht hK g1 g2 g3 g4 g5 hmn zm zn hck hpd hpy zpd zpy zck hs1 hs2 hs3 hs4 hs5 hs6 hs7 hs8 ht2 v1 v2 v3 v4 v5 v6 b4 hJ hK7
  obtain ⟨g, hg⟩ : ∃ g, w.heap.size = g := ⟨_, rfl⟩
  go_enter Tryz.func51, Tryz.ntmps51
  go_wp2
  refine code_forget (fun wx => Hid (Box wx g #[.int .i64 y, .int .i64 mo, .int .i64 d, .int .i64 h, .int .i64 mi, .int .i64 s] 60) ∧ Hid (Below w.heap.size w wx)) ⟨Lib.hid (dBox_new hg.symm), Lib.hid ((Below.refl _ _).alloc (Nat.le_refl _) _)⟩ ?_
  clear hg
  rintro w1 ⟨X1, B1⟩
  refine wp_region_last 25 (fun w' => Box w' g #[.int .i64 y, .int .i64 mo, .int .i64 d, .int .i64 h, .int .i64 mi, .int .i64 s] 60 ∧ Below w.heap.size w w') (by kernel_rfl) (⟨X1.out.drew, B1.out.drew⟩) (fun hHeld hClosed => ?_)
  refine wpAnyL_take (i := 0) (v := (.agg #[.int .i64 y, .int .i64 mo, .int .i64 d, .int .i64 h, .int .i64 mi, .int .i64 s])) rfl (by kernel_rfl) (by kernel_rfl) (by kernel_rfl) (by kernel_rfl) (fun _ _ _ h => h) (by kernel_rfl) hClosed (Or.inl ⟨by rfl, ?_⟩) hHeld (fun hClosed => ?_)
  · intro wv hSw; exact exec_load_box (by rfl) (by rfl) hSw.1 Tryz.underlying60 rfl (by kernel_rfl)
  (try simp only [List.getElem_toArray, List.getElem_cons_zero, put_at, List.set])
  refine wpAnyL_take (i := 4) (v := ?_) rfl (by kernel_rfl) (by kernel_rfl) (by kernel_rfl) (by kernel_rfl) (fun _ _ _ h => h) (by kernel_rfl) hClosed (Or.inl ⟨by rfl, ?_⟩) hHeld (fun hClosed => ?_)
  rotate_left
  · intro wv hSw; go_simp; all_goals (with_reducible rfl)
  (try simp only [List.getElem_toArray, List.getElem_cons_succ, List.getElem_cons_zero, put_at, List.set])
  refine wpAnyL_take (i := 5) (v := ?_) rfl (by kernel_rfl) (by kernel_rfl) (by kernel_rfl) (by kernel_rfl) (fun _ _ _ h => h) (by kernel_rfl) hClosed (Or.inl ⟨by rfl, ?_⟩) hHeld (fun hClosed => ?_)
  rotate_left
  · intro wv hSw; have c0 := hSw.1.cell 0; have c1 := hSw.1.cell 1; have c2 := hSw.1.cell 2; have cl := hSw.1.lt; simp only [List.getElem?_toArray, List.getElem?_cons_zero, List.getElem?_cons_succ] at c0 c1 c2; go_simp; all_goals (with_reducible rfl)
  (try simp only [List.getElem_toArray, List.getElem_cons_succ, List.getElem_cons_zero, put_at, List.set])
  refine wpAnyL_take (i := 10) (v := ?_) rfl (by kernel_rfl) (by kernel_rfl) (by kernel_rfl) (by kernel_rfl) (fun _ _ _ h => h) (by kernel_rfl) hClosed (Or.inl ⟨by rfl, ?_⟩) hHeld (fun hClosed => ?_)
  rotate_left
  · intro wv hSw; go_simp; all_goals (with_reducible rfl)
  (try simp only [List.getElem_toArray, List.getElem_cons_succ, List.getElem_cons_zero, put_at, List.set])
  refine wpAnyL_take (i := 11) (v := ?_) rfl (by kernel_rfl) (by kernel_rfl) (by kernel_rfl) (by kernel_rfl) (fun _ _ _ h => h) (by kernel_rfl) hClosed (Or.inl ⟨by rfl, ?_⟩) hHeld (fun hClosed => ?_)
  rotate_left
  · intro wv hSw; have c0 := hSw.1.cell 0; have c1 := hSw.1.cell 1; have c2 := hSw.1.cell 2; have cl := hSw.1.lt; simp only [List.getElem?_toArray, List.getElem?_cons_zero, List.getElem?_cons_succ] at c0 c1 c2; go_simp; all_goals (with_reducible rfl)
  (try simp only [List.getElem_toArray, List.getElem_cons_succ, List.getElem_cons_zero, put_at, List.set])
  refine wpAnyL_take (i := 16) (v := ?_) rfl (by kernel_rfl) (by kernel_rfl) (by kernel_rfl) (by kernel_rfl) (fun _ _ _ h => h) (by kernel_rfl) hClosed (Or.inl ⟨by rfl, ?_⟩) hHeld (fun hClosed => ?_)
  rotate_left
  · intro wv hSw; go_simp; all_goals (with_reducible rfl)
  (try simp only [List.getElem_toArray, List.getElem_cons_succ, List.getElem_cons_zero, put_at, List.set])
  refine wpAnyL_take (i := 17) (v := ?_) rfl (by kernel_rfl) (by kernel_rfl) (by kernel_rfl) (by kernel_rfl) (fun _ _ _ h => h) (by kernel_rfl) hClosed (Or.inl ⟨by rfl, ?_⟩) hHeld (fun hClosed => ?_)
  rotate_left
  · intro wv hSw; have c0 := hSw.1.cell 0; have c1 := hSw.1.cell 1; have c2 := hSw.1.cell 2; have cl := hSw.1.lt; simp only [List.getElem?_toArray, List.getElem?_cons_zero, List.getElem?_cons_succ] at c0 c1 c2; go_simp; all_goals (with_reducible rfl)
  (try simp only [List.getElem_toArray, List.getElem_cons_succ, List.getElem_cons_zero, put_at, List.set])
  refine wpAnyL_take (i := 21) (v := (.agg #[.int .i64 y, .int .i64 mo, .int .i64 d, .int .i64 h, .int .i64 mi, .int .i64 s])) rfl (by kernel_rfl) (by kernel_rfl) (by kernel_rfl) (by kernel_rfl) (fun _ _ _ h => h) (by kernel_rfl) hClosed (Or.inl ⟨by rfl, ?_⟩) hHeld (fun hClosed => ?_)
  · intro wv hSw; exact exec_load_box (by rfl) (by rfl) hSw.1 Tryz.underlying60 rfl (by kernel_rfl)
  (try simp only [List.getElem_toArray, List.getElem_cons_succ, List.getElem_cons_zero, put_at, List.set])
  refine wpAnyL_one (i := 1) rfl (by kernel_rfl) (by kernel_rfl) hClosed (fun KK hK => ?_)
  go_simp
  refine (DY.out _).mono ?_
  rintro e wq ⟨rfl, hbq⟩
  go_wp2_with fail
  refine hK.out _ _ ?_ (fun hClosed hHeld => ?_)
  · exact ⟨hHeld.1.later hbq, hHeld.2.trans (hbq.mono hHeld.2.size)⟩
  clear hK KK
  (first | simp only [List.getElem_toArray, List.getElem_cons_succ, List.getElem_cons_zero, put_at, List.set] | (try simp only [put_at, List.set]))
  refine wpAnyL_take (i := 2) (v := ?_) rfl (by kernel_rfl) (by kernel_rfl) (by kernel_rfl) (by kernel_rfl) (fun _ _ _ h => h) (by kernel_rfl) hClosed (Or.inl ⟨by rfl, ?_⟩) hHeld (fun hClosed => ?_)
  rotate_left
  · intro wv hSw; go_simp; all_goals (with_reducible rfl)
  (try simp only [List.getElem_toArray, List.getElem_cons_succ, List.getElem_cons_zero, put_at, List.set])
  refine wpAnyL_take (i := 3) (v := ?_) rfl (by kernel_rfl) (by kernel_rfl) (by kernel_rfl) (by kernel_rfl) (fun _ _ _ h => h) (by kernel_rfl) hClosed (Or.inl ⟨by rfl, ?_⟩) hHeld (fun hClosed => ?_)
  rotate_left
  · intro wv hSw; go_simp; all_goals (with_reducible rfl)
  (try simp only [List.getElem_toArray, List.getElem_cons_succ, List.getElem_cons_zero, put_at, List.set])
  refine wpAnyL_one (i := 6) rfl (by kernel_rfl) (by kernel_rfl) hClosed (fun KK hK => ?_)
  go_simp
  refine (PD.out _).mono ?_
  rintro e wq ⟨rfl, hbq⟩
  go_wp2_with fail
  refine hK.out _ _ ?_ (fun hClosed hHeld => ?_)
  · exact ⟨hHeld.1.later hbq, hHeld.2.trans (hbq.mono hHeld.2.size)⟩
  clear hK KK
  (first | simp only [List.getElem_toArray, List.getElem_cons_succ, List.getElem_cons_zero, put_at, List.set] | (try simp only [put_at, List.set]))
  refine wpAnyL_take (i := 7) (v := ?_) rfl (by kernel_rfl) (by kernel_rfl) (by kernel_rfl) (by kernel_rfl) (fun _ _ _ h => h) (by kernel_rfl) hClosed (Or.inl ⟨by rfl, ?_⟩) hHeld (fun hClosed => ?_)
  rotate_left
  · intro wv hSw; go_simp; all_goals (with_reducible rfl)
  (try simp only [List.getElem_toArray, List.getElem_cons_succ, List.getElem_cons_zero, put_at, List.set])
  refine wpAnyL_take (i := 8) (v := ?_) rfl (by kernel_rfl) (by kernel_rfl) (by kernel_rfl) (by kernel_rfl) (fun _ _ _ h => h) (by kernel_rfl) hClosed (Or.inl ⟨by rfl, ?_⟩) hHeld (fun hClosed => ?_)
  rotate_left
  · intro wv hSw; go_simp; all_goals (with_reducible rfl)
  (try simp only [List.getElem_toArray, List.getElem_cons_succ, List.getElem_cons_zero, put_at, List.set])
  refine wpAnyL_one (i := 9) rfl (by kernel_rfl) (by kernel_rfl) hClosed (fun KK hK => ?_)
  go_simp
  refine (rmonths_at _).mono ?_
  rintro e wq ⟨bm, rfl, hbx, hbq⟩
  rw [show monR.size = 13 from rfl]
  go_wp2_with fail
  refine hK.out _ _ ?_ (fun hClosed hHeld => ?_)
  · exact ⟨hHeld.1.later hbq, hHeld.2.trans (hbq.mono hHeld.2.size)⟩
  clear hK KK
  (first | simp only [List.getElem_toArray, List.getElem_cons_succ, List.getElem_cons_zero, put_at, List.set] | (try simp only [put_at, List.set]))
  refine wpAnyL_take (i := 12) (v := ?_) rfl (by kernel_rfl) (by kernel_rfl) (by kernel_rfl) (by kernel_rfl) (fun _ _ _ h => h) (by kernel_rfl) hClosed (Or.inl ⟨by rfl, ?_⟩) hHeld (fun hClosed => ?_)
  rotate_left
  · intro wv hSw; go_simp; all_goals (with_reducible rfl)
  (try simp only [List.getElem_toArray, List.getElem_cons_succ, List.getElem_cons_zero, put_at, List.set])
  refine wpAnyL_two (i := 13) (j := 18) rfl rfl (by kernel_rfl) (by kernel_rfl) (by kernel_rfl) hClosed (fun KK hK => ?_) (fun KK hK => ?_)
  · have cm := hbx.cell J
    rw [G2.out] at cm
    go_simp
    refine hK.out _ _ ?_ (fun hClosed hHeld => ?_)
    · exact hHeld
    clear hK KK
    (first | simp only [List.getElem_toArray, List.getElem_cons_succ, List.getElem_cons_zero, put_at, List.set] | (try simp only [put_at, List.set]))
    refine wpAnyL_take (i := 14) (v := ?_) rfl (by kernel_rfl) (by kernel_rfl) (by kernel_rfl) (by kernel_rfl) (fun _ _ _ h => h) (by kernel_rfl) hClosed (Or.inl ⟨by rfl, ?_⟩) hHeld (fun hClosed => ?_)
    rotate_left
    · intro wv hSw; go_simp; all_goals (with_reducible rfl)
    (try simp only [List.getElem_toArray, List.getElem_cons_succ, List.getElem_cons_zero, put_at, List.set])
    refine wpAnyL_take (i := 15) (v := ?_) rfl (by kernel_rfl) (by kernel_rfl) (by kernel_rfl) (by kernel_rfl) (fun _ _ _ h => h) (by kernel_rfl) hClosed (Or.inl ⟨by rfl, ?_⟩) hHeld (fun hClosed => ?_)
    rotate_left
    · intro wv hSw; go_simp; all_goals (with_reducible rfl)
    (try simp only [List.getElem_toArray, List.getElem_cons_succ, List.getElem_cons_zero, put_at, List.set])
    refine wpAnyL_one (i := 18) rfl (by kernel_rfl) (by kernel_rfl) hClosed (fun KK hK => ?_)
    go_simp
    refine (PY.out _).mono ?_
    rintro e wq ⟨rfl, hbq⟩
    go_wp2_with fail
    refine hK.out _ _ ?_ (fun hClosed hHeld => ?_)
    · exact ⟨hHeld.1.later hbq, hHeld.2.trans (hbq.mono hHeld.2.size)⟩
    clear hK KK
    (first | simp only [List.getElem_toArray, List.getElem_cons_succ, List.getElem_cons_zero, put_at, List.set] | (try simp only [put_at, List.set]))
    refine wpAnyL_take (i := 19) (v := ?_) rfl (by kernel_rfl) (by kernel_rfl) (by kernel_rfl) (by kernel_rfl) (fun _ _ _ h => h) (by kernel_rfl) hClosed (Or.inl ⟨by rfl, ?_⟩) hHeld (fun hClosed => ?_)
    rotate_left
    · intro wv hSw; go_simp; all_goals (with_reducible rfl)
    (try simp only [List.getElem_toArray, List.getElem_cons_succ, List.getElem_cons_zero, put_at, List.set])
    refine wpAnyL_take (i := 20) (v := ?_) rfl (by kernel_rfl) (by kernel_rfl) (by kernel_rfl) (by kernel_rfl) (fun _ _ _ h => h) (by kernel_rfl) hClosed (Or.inl ⟨by rfl, ?_⟩) hHeld (fun hClosed => ?_)
    rotate_left
    · intro wv hSw; go_simp; all_goals (with_reducible rfl)
    (try simp only [List.getElem_toArray, List.getElem_cons_succ, List.getElem_cons_zero, put_at, List.set])
    refine wpAnyL_one (i := 22) rfl (by kernel_rfl) (by kernel_rfl) hClosed (fun KK hK => ?_)
    go_simp
    refine (CK.out _).mono ?_
    rintro e wq ⟨rfl, hbq⟩
    go_wp2_with fail
    refine hK.out _ _ ?_ (fun hClosed hHeld => ?_)
    · exact ⟨hHeld.1.later hbq, hHeld.2.trans (hbq.mono hHeld.2.size)⟩
    clear hK KK
    (first | simp only [List.getElem_toArray, List.getElem_cons_succ, List.getElem_cons_zero, put_at, List.set] | (try simp only [put_at, List.set]))
    refine wpAnyL_take (i := 23) (v := ?_) rfl (by kernel_rfl) (by kernel_rfl) (by kernel_rfl) (by kernel_rfl) (fun _ _ _ h => h) (by kernel_rfl) hClosed (Or.inl ⟨by rfl, ?_⟩) hHeld (fun hClosed => ?_)
    rotate_left
    · intro wv hSw; go_simp; all_goals (with_reducible rfl)
    (try simp only [List.getElem_toArray, List.getElem_cons_succ, List.getElem_cons_zero, put_at, List.set])
    refine wpAnyL_take (i := 24) (v := ?_) rfl (by kernel_rfl) (by kernel_rfl) (by kernel_rfl) (by kernel_rfl) (fun _ _ _ h => h) (by kernel_rfl) hClosed (Or.inl ⟨by rfl, ?_⟩) hHeld (fun hClosed => ?_)
    rotate_left
    · intro wv hSw; go_simp; all_goals (with_reducible rfl)
    (try simp only [List.getElem_toArray, List.getElem_cons_succ, List.getElem_cons_zero, put_at, List.set])
    refine wpAnyL_last rfl (by kernel_rfl) (by kernel_rfl) (fun KK hK => ?_)
    go_simp
    refine hK.out _ _ ?_
    (try simp only [put_at, List.set])
    go_wp2
    go_ret
    exact ⟨rfl, hHeld.2⟩
  · go_simp
    refine (PY.out _).mono ?_
    rintro e wq ⟨rfl, hbq⟩
    go_wp2_with fail
    refine hK.out _ _ ?_ (fun hClosed hHeld => ?_)
    · exact ⟨hHeld.1.later hbq, hHeld.2.trans (hbq.mono hHeld.2.size)⟩
    clear hK KK
    (first | simp only [List.getElem_toArray, List.getElem_cons_succ, List.getElem_cons_zero, put_at, List.set] | (try simp only [put_at, List.set]))
    replace hbx := hbx.later hbq
    refine wpAnyL_two (i := 13) (j := 22) rfl rfl (by kernel_rfl) (by kernel_rfl) (by kernel_rfl) hClosed (fun KK hK => ?_) (fun KK hK => ?_)
    · have cm := hbx.cell J
      rw [G2.out] at cm
      go_simp
      refine hK.out _ _ ?_ (fun hClosed hHeld => ?_)
      · exact hHeld
      clear hK KK
      (first | simp only [List.getElem_toArray, List.getElem_cons_succ, List.getElem_cons_zero, put_at, List.set] | (try simp only [put_at, List.set]))
      refine wpAnyL_take (i := 14) (v := ?_) rfl (by kernel_rfl) (by kernel_rfl) (by kernel_rfl) (by kernel_rfl) (fun _ _ _ h => h) (by kernel_rfl) hClosed (Or.inl ⟨by rfl, ?_⟩) hHeld (fun hClosed => ?_)
      rotate_left
      · intro wv hSw; go_simp; all_goals (with_reducible rfl)
      (try simp only [List.getElem_toArray, List.getElem_cons_succ, List.getElem_cons_zero, put_at, List.set])
      refine wpAnyL_take (i := 15) (v := ?_) rfl (by kernel_rfl) (by kernel_rfl) (by kernel_rfl) (by kernel_rfl) (fun _ _ _ h => h) (by kernel_rfl) hClosed (Or.inl ⟨by rfl, ?_⟩) hHeld (fun hClosed => ?_)
      rotate_left
      · intro wv hSw; go_simp; all_goals (with_reducible rfl)
      (try simp only [List.getElem_toArray, List.getElem_cons_succ, List.getElem_cons_zero, put_at, List.set])
      refine wpAnyL_take (i := 19) (v := ?_) rfl (by kernel_rfl) (by kernel_rfl) (by kernel_rfl) (by kernel_rfl) (fun _ _ _ h => h) (by kernel_rfl) hClosed (Or.inl ⟨by rfl, ?_⟩) hHeld (fun hClosed => ?_)
      rotate_left
      · intro wv hSw; go_simp; all_goals (with_reducible rfl)
      (try simp only [List.getElem_toArray, List.getElem_cons_succ, List.getElem_cons_zero, put_at, List.set])
      refine wpAnyL_take (i := 20) (v := ?_) rfl (by kernel_rfl) (by kernel_rfl) (by kernel_rfl) (by kernel_rfl) (fun _ _ _ h => h) (by kernel_rfl) hClosed (Or.inl ⟨by rfl, ?_⟩) hHeld (fun hClosed => ?_)
      rotate_left
      · intro wv hSw; go_simp; all_goals (with_reducible rfl)
      (try simp only [List.getElem_toArray, List.getElem_cons_succ, List.getElem_cons_zero, put_at, List.set])
      refine wpAnyL_one (i := 22) rfl (by kernel_rfl) (by kernel_rfl) hClosed (fun KK hK => ?_)
      go_simp
      refine (CK.out _).mono ?_
      rintro e wq ⟨rfl, hbq⟩
      go_wp2_with fail
      refine hK.out _ _ ?_ (fun hClosed hHeld => ?_)
      · exact ⟨hHeld.1.later hbq, hHeld.2.trans (hbq.mono hHeld.2.size)⟩
      clear hK KK
      (first | simp only [List.getElem_toArray, List.getElem_cons_succ, List.getElem_cons_zero, put_at, List.set] | (try simp only [put_at, List.set]))
      refine wpAnyL_take (i := 23) (v := ?_) rfl (by kernel_rfl) (by kernel_rfl) (by kernel_rfl) (by kernel_rfl) (fun _ _ _ h => h) (by kernel_rfl) hClosed (Or.inl ⟨by rfl, ?_⟩) hHeld (fun hClosed => ?_)
      rotate_left
      · intro wv hSw; go_simp; all_goals (with_reducible rfl)
      (try simp only [List.getElem_toArray, List.getElem_cons_succ, List.getElem_cons_zero, put_at, List.set])
      refine wpAnyL_take (i := 24) (v := ?_) rfl (by kernel_rfl) (by kernel_rfl) (by kernel_rfl) (by kernel_rfl) (fun _ _ _ h => h) (by kernel_rfl) hClosed (Or.inl ⟨by rfl, ?_⟩) hHeld (fun hClosed => ?_)
      rotate_left
      · intro wv hSw; go_simp; all_goals (with_reducible rfl)
      (try simp only [List.getElem_toArray, List.getElem_cons_succ, List.getElem_cons_zero, put_at, List.set])
      refine wpAnyL_last rfl (by kernel_rfl) (by kernel_rfl) (fun KK hK => ?_)
      go_simp
      refine hK.out _ _ ?_
      (try simp only [put_at, List.set])
      go_wp2
      go_ret
      exact ⟨rfl, hHeld.2⟩
    · go_simp
      refine (CK.out _).mono ?_
      rintro e wq ⟨rfl, hbq⟩
      go_wp2_with fail
      refine hK.out _ _ ?_ (fun hClosed hHeld => ?_)
      · exact ⟨hHeld.1.later hbq, hHeld.2.trans (hbq.mono hHeld.2.size)⟩
      clear hK KK
      (first | simp only [List.getElem_toArray, List.getElem_cons_succ, List.getElem_cons_zero, put_at, List.set] | (try simp only [put_at, List.set]))
      replace hbx := hbx.later hbq
      refine wpAnyL_one (i := 13) rfl (by kernel_rfl) (by kernel_rfl) hClosed (fun KK hK => ?_)
      have cm := hbx.cell J
      rw [G2.out] at cm
      go_simp
      refine hK.out _ _ ?_ (fun hClosed hHeld => ?_)
      · exact hHeld
      clear hK KK
      (first | simp only [List.getElem_toArray, List.getElem_cons_succ, List.getElem_cons_zero, put_at, List.set] | (try simp only [put_at, List.set]))
      refine wpAnyL_take (i := 14) (v := ?_) rfl (by kernel_rfl) (by kernel_rfl) (by kernel_rfl) (by kernel_rfl) (fun _ _ _ h => h) (by kernel_rfl) hClosed (Or.inl ⟨by rfl, ?_⟩) hHeld (fun hClosed => ?_)
      rotate_left
      · intro wv hSw; go_simp; all_goals (with_reducible rfl)
      (try simp only [List.getElem_toArray, List.getElem_cons_succ, List.getElem_cons_zero, put_at, List.set])
      refine wpAnyL_take (i := 15) (v := ?_) rfl (by kernel_rfl) (by kernel_rfl) (by kernel_rfl) (by kernel_rfl) (fun _ _ _ h => h) (by kernel_rfl) hClosed (Or.inl ⟨by rfl, ?_⟩) hHeld (fun hClosed => ?_)
      rotate_left
      · intro wv hSw; go_simp; all_goals (with_reducible rfl)
      (try simp only [List.getElem_toArray, List.getElem_cons_succ, List.getElem_cons_zero, put_at, List.set])
      refine wpAnyL_take (i := 19) (v := ?_) rfl (by kernel_rfl) (by kernel_rfl) (by kernel_rfl) (by kernel_rfl) (fun _ _ _ h => h) (by kernel_rfl) hClosed (Or.inl ⟨by rfl, ?_⟩) hHeld (fun hClosed => ?_)
      rotate_left
      · intro wv hSw; go_simp; all_goals (with_reducible rfl)
      (try simp only [List.getElem_toArray, List.getElem_cons_succ, List.getElem_cons_zero, put_at, List.set])
      refine wpAnyL_take (i := 20) (v := ?_) rfl (by kernel_rfl) (by kernel_rfl) (by kernel_rfl) (by kernel_rfl) (fun _ _ _ h => h) (by kernel_rfl) hClosed (Or.inl ⟨by rfl, ?_⟩) hHeld (fun hClosed => ?_)
      rotate_left
      · intro wv hSw; go_simp; all_goals (with_reducible rfl)
      (try simp only [List.getElem_toArray, List.getElem_cons_succ, List.getElem_cons_zero, put_at, List.set])
      refine wpAnyL_take (i := 23) (v := ?_) rfl (by kernel_rfl) (by kernel_rfl) (by kernel_rfl) (by kernel_rfl) (fun _ _ _ h => h) (by kernel_rfl) hClosed (Or.inl ⟨by rfl, ?_⟩) hHeld (fun hClosed => ?_)
      rotate_left
      · intro wv hSw; go_simp; all_goals (with_reducible rfl)
      (try simp only [List.getElem_toArray, List.getElem_cons_succ, List.getElem_cons_zero, put_at, List.set])
      refine wpAnyL_take (i := 24) (v := ?_) rfl (by kernel_rfl) (by kernel_rfl) (by kernel_rfl) (by kernel_rfl) (fun _ _ _ h => h) (by kernel_rfl) hClosed (Or.inl ⟨by rfl, ?_⟩) hHeld (fun hClosed => ?_)
      rotate_left
      · intro wv hSw; go_simp; all_goals (with_reducible rfl)
      (try simp only [List.getElem_toArray, List.getElem_cons_succ, List.getElem_cons_zero, put_at, List.set])
      refine wpAnyL_last rfl (by kernel_rfl) (by kernel_rfl) (fun KK hK => ?_)
      go_simp
      refine hK.out _ _ ?_
      (try simp only [put_at, List.set])
      go_wp2
      go_ret
      exact ⟨rfl, hHeld.2⟩
end Go.Proofs.YtodibjpojfipoaaGreatDoor
/- The document's third form. -/
namespace Go.Proofs.YtodibjpojfipoaaGreatDoor
open Go.RowKit
set_option linter.unusedVariables false
set_option linter.unusedSimpArgs false
set_option maxRecDepth 10000

def dayL (d : Int) : List Int := if d < 10 then [32] ++ padN 1 d.toNat else padN 2 d.toNat
/-- The third form. -/
def thirdL (m : Mo) : List Int := dayH.getD m.wd.toNat [] ++ [32] ++ monN.getD (m.mo - 1).toNat [] ++ [32] ++ dayL m.d ++ [32] ++ clkL m ++ [32] ++ padN 4 m.y.toNat
theorem dayL_len (d : Int) : (dayL d).length = 2 := by
  unfold dayL
  split
  · simp [padN_len]
  · exact padN_len _ _
theorem dayL_byts (d : Int) : Byts (dayL d) := by
  unfold dayL
  have e2 : Byts [32] := by unfold Byts; decide
  split
  · exact e2.append (padN_byts 1 _)
  · exact padN_byts 2 _
theorem rpad1_as (v : Int) (t : ByteArray) (ht : strL (padN 1 v.toNat) = t) (h0 : 0 ≤ v) (h1 : v ≤ 9223372036854775807) (w : World) :
    Calls Tryz.prog 86 #[.int .i64 v, .int .i64 1] w fun e w' => e = .returned (.string t) ∧ Below w.heap.size w w' := rpad_as 1 v t ht (by decide) h0 h1 w
set_option maxHeartbeats 4000000 in
theorem rthird_at (wd y mo d h mi s : Int) (t : ByteArray) (hv : Valid y mo d) (hc : ClkOk ⟨wd, y, mo, d, h, mi, s⟩) (hw : (num y mo d + 3) % 7 = wd) (ht : strL (thirdL ⟨wd, y, mo, d, h, mi, s⟩) = t) (w : World) :
    Calls Tryz.prog 52 #[.agg #[.int .i64 y, .int .i64 mo, .int .i64 d, .int .i64 h, .int .i64 mi, .int .i64 s]] w fun e w' => e = .returned (.string t) ∧ Below w.heap.size w w' := by
  obtain ⟨K, hK⟩ : ∃ K : Nat, (num y mo d + 3) % 7 = (K : Int) := ⟨((num y mo d + 3) % 7).toNat, by omega⟩
  have hK7 : K < 7 := by omega
  obtain ⟨x, g1, g2, g3, g4⟩ := day_get K hK7
  obtain ⟨nm, hnm⟩ : ∃ nm, x.extract 0 3 = nm := ⟨_, rfl⟩
  have zn : nm.size = 3 := by rw [← hnm]; simp; omega
  have hv2 := hv
  obtain ⟨v1, v2, v3, v4, v5, v6⟩ := hv2
  have b4 := lenI_bd y mo
  obtain ⟨J, hJ⟩ : ∃ J : Nat, mo = (J : Int) := ⟨mo.toNat, by omega⟩
  obtain ⟨mn, hmn, g5, zm⟩ := monR_get J (by omega) (by omega)
  obtain ⟨ck, hck⟩ : ∃ t, strL (clkL ⟨wd, y, mo, d, h, mi, s⟩) = t := ⟨_, rfl⟩
  obtain ⟨pd, hpd⟩ : ∃ t, strL (padN 2 d.toNat) = t := ⟨_, rfl⟩
  obtain ⟨p1, hp1⟩ : ∃ t, strL (padN 1 d.toNat) = t := ⟨_, rfl⟩
  obtain ⟨dd, hdd⟩ : ∃ t, strL (dayL d) = t := ⟨_, rfl⟩
  obtain ⟨py, hpy⟩ : ∃ t, strL (padN 4 y.toNat) = t := ⟨_, rfl⟩
  have zp1 := pad_size 1 _ p1 hp1
  have zpy := pad_size 4 _ py hpy
  have zck := clk_size _ ck hck
  have zdd : dd.size = 2 := by rw [← hdd, strL_size, dayL_len]
  have H1 : d < 10 → (⟨#[32]⟩ : ByteArray) ++ p1 = dd := fun h => by
    rw [← hdd, ← hp1]
    unfold dayL
    rw [if_pos h, strD_app]
    rfl
  have H2 : ¬ d < 10 → pd = dd := fun h => by
    rw [← hdd, ← hpd]
    unfold dayL
    rw [if_neg h]
  have DY := Lib.hid (fun W => rday_at y mo d h mi s K x hv hK g1 W)
  have PD := Lib.hid (fun W => rpad2_as d pd hpd (by omega) (by omega) W)
  have P1 := Lib.hid (fun W => rpad1_as d p1 hp1 (by omega) (by omega) W)
  have PY := Lib.hid (fun W => rpad4_as y py hpy (by omega) (by omega) W)
  have CK := Lib.hid (fun W => rclock_at wd y mo d h mi s ck hc hck W)
  obtain ⟨s1, hs1⟩ : ∃ c, nm ++ (⟨#[32]⟩ : ByteArray) = c := ⟨_, rfl⟩
  obtain ⟨s2, hs2⟩ : ∃ c, s1 ++ mn = c := ⟨_, rfl⟩
  obtain ⟨s3, hs3⟩ : ∃ c, s2 ++ (⟨#[32]⟩ : ByteArray) = c := ⟨_, rfl⟩
  obtain ⟨s4, hs4⟩ : ∃ c, s3 ++ dd = c := ⟨_, rfl⟩
  obtain ⟨s5, hs5⟩ : ∃ c, s4 ++ (⟨#[32]⟩ : ByteArray) = c := ⟨_, rfl⟩
  obtain ⟨s6, hs6⟩ : ∃ c, s5 ++ ck = c := ⟨_, rfl⟩
  obtain ⟨s7, hs7⟩ : ∃ c, s6 ++ (⟨#[32]⟩ : ByteArray) = c := ⟨_, rfl⟩
  have ht2 : s7 ++ py = t := by
    rw [← ht, ← strL_btL (s7 ++ _)]
    congr 1
    unfold thirdL
    dsimp only
    have eD : dayH.getD wd.toNat [] = btL nm := by
      rw [← hw, hK, Int.toNat_natCast, ← hnm]
      have := congrArg List.head? g3
      rw [List.head?_drop] at this
      rw [List.getD_eq_getElem?_getD, this]
      rfl
    have eM : monN.getD (mo - 1).toNat [] = btL mn := by rw [show (mo - 1).toNat = J - 1 from by omega, g5]
    have eC : btL ck = clkL ⟨wd, y, mo, d, h, mi, s⟩ := by rw [← hck, btL_strL (clk_byts _)]
    have eL : btL dd = dayL d := by rw [← hdd, btL_strL (dayL_byts _)]
    rw [eD, eM, ← eC, ← eL, ← hs7, ← hs6, ← hs5, ← hs4, ← hs3, ← hs2, ← hs1, ← hpy]
    simp only [btD_app, btD_pad]
    rfl
  have zz_s1 : (⟨#[32]⟩ : ByteArray).size = 1 := rfl
  have z_s1 : s1.size ≤ 4 := by rw [← hs1, ByteArray.size_append]; omega
  have A_s1 : ∀ wx : World, (Op.stringOp .add nm ⟨#[32]⟩).run Tryz.prog wx = .ok (.string s1) wx := fun wx => by rw [run_string_add_sum wx _ _ (by omega), hs1]
  have z_s2 : s2.size ≤ 7 := by rw [← hs2, ByteArray.size_append]; omega
  have A_s2 : ∀ wx : World, (Op.stringOp .add s1 mn).run Tryz.prog wx = .ok (.string s2) wx := fun wx => by rw [run_string_add_sum wx _ _ (by omega), hs2]
  have zz_s3 : (⟨#[32]⟩ : ByteArray).size = 1 := rfl
  have z_s3 : s3.size ≤ 8 := by rw [← hs3, ByteArray.size_append]; omega
  have A_s3 : ∀ wx : World, (Op.stringOp .add s2 ⟨#[32]⟩).run Tryz.prog wx = .ok (.string s3) wx := fun wx => by rw [run_string_add_sum wx _ _ (by omega), hs3]
  have z_s4 : s4.size ≤ 10 := by rw [← hs4, ByteArray.size_append]; omega
  have A_s4 : ∀ wx : World, (Op.stringOp .add s3 dd).run Tryz.prog wx = .ok (.string s4) wx := fun wx => by rw [run_string_add_sum wx _ _ (by omega), hs4]
  have zz_s5 : (⟨#[32]⟩ : ByteArray).size = 1 := rfl
  have z_s5 : s5.size ≤ 11 := by rw [← hs5, ByteArray.size_append]; omega
  have A_s5 : ∀ wx : World, (Op.stringOp .add s4 ⟨#[32]⟩).run Tryz.prog wx = .ok (.string s5) wx := fun wx => by rw [run_string_add_sum wx _ _ (by omega), hs5]
  have z_s6 : s6.size ≤ 19 := by rw [← hs6, ByteArray.size_append]; omega
  have A_s6 : ∀ wx : World, (Op.stringOp .add s5 ck).run Tryz.prog wx = .ok (.string s6) wx := fun wx => by rw [run_string_add_sum wx _ _ (by omega), hs6]
  have zz_s7 : (⟨#[32]⟩ : ByteArray).size = 1 := rfl
  have z_s7 : s7.size ≤ 20 := by rw [← hs7, ByteArray.size_append]; omega
  have A_s7 : ∀ wx : World, (Op.stringOp .add s6 ⟨#[32]⟩).run Tryz.prog wx = .ok (.string s7) wx := fun wx => by rw [run_string_add_sum wx _ _ (by omega), hs7]
  have z_t : t.size ≤ 24 := by rw [← ht2, ByteArray.size_append]; omega
  have A_t : ∀ wx : World, (Op.stringOp .add s7 py).run Tryz.prog wx = .ok (.string t) wx := fun wx => by rw [run_string_add_sum wx _ _ (by omega), ht2]
  clear zz_s1 zz_s3 zz_s5 zz_s7 z_s1 z_s2 z_s3 z_s4 z_s5 z_s6 z_s7 z_t
  have G2 : Hid (monR[J]? = some (.string mn)) := Lib.hid hmn
  have HS1 : 3 ≤ x.size := g4
  have HS2 : (3 : Int) ≤ (x.size : Int) := by omega
  have m0 : 0 ≤ mo := by omega
  have m1 : mo < 13 := by omega
  have hmj : mo.toNat = J := by omega
  have zz : (⟨#[32]⟩ : ByteArray).size = 1 := rfl
  have zpp : p1.size ≤ 1 := by omega
  clear hv hc hw ht hK g1 g2 g3 g4 g5 hmn zm zn hck hpd hp1 hdd hpy zp1 zpy zck zdd hs1 hs2 hs3 hs4 hs5 hs6 hs7 ht2 v1 v2 v3 v4 v5 v6 b4 hJ hK7
  obtain ⟨g, hg⟩ : ∃ g, w.heap.size = g := ⟨_, rfl⟩
  go_enter Tryz.func52, Tryz.ntmps52
  go_wp2_with fail
  refine calls_forget (fun wx => Hid (Box wx g #[.int .i64 y, .int .i64 mo, .int .i64 d, .int .i64 h, .int .i64 mi, .int .i64 s] 60) ∧ Hid (Below w.heap.size w wx)) ⟨Lib.hid (dBox_new hg.symm), Lib.hid ((Below.refl _ _).alloc (Nat.le_refl _) _)⟩ ?_
  clear hg
  rintro w1 ⟨X1, B1⟩
  refine (PD.out _).mono ?_
  rintro e w2 ⟨rfl, hb⟩
  have X2 := Lib.hid (X1.out.later hb)
  have B2 := Lib.hid (B1.out.trans (hb.mono B1.out.size))
  have k2 := X2.out.cell 2
  have gl := X2.out.lt
  simp only [List.getElem?_toArray, List.getElem?_cons_zero, List.getElem?_cons_succ] at k2
  clear hb X1 B1
  go_upto_if 9 with fail
  go_cut [3] (fun v wx => v = .string dd ∧ Hid (Box wx g #[.int .i64 y, .int .i64 mo, .int .i64 d, .int .i64 h, .int .i64 mi, .int .i64 s] 60) ∧ Hid (Below w.heap.size w wx))
  case first =>
    by_cases h10 : d < 10
    · have d1 : decide (d < 10) = true := decide_eq_true h10
      have hsum := H1 h10
      have A : ∀ wx : World, (Op.stringOp .add ⟨#[32]⟩ p1).run Tryz.prog wx = .ok (.string dd) wx := fun wx => by rw [run_string_add_sum wx _ _ (by omega), hsum]
      clear H1 H2 hsum
      go_wp2_with fail
      refine (P1.out _).mono ?_
      rintro e w3 ⟨rfl, hb⟩
      have X3 := Lib.hid (X2.out.later hb)
      have B3 := Lib.hid (B2.out.trans (hb.mono B2.out.size))
      clear hb
      go_wp2
      go_meet
      exact ⟨rfl, X3, B3⟩
    · have d1 : decide (d < 10) = false := decide_eq_false h10
      have hpd2 := H2 (by omega)
      clear H1 H2
      subst hpd2
      go_wp2
      go_meet
      exact ⟨rfl, X2, B2⟩
  case rest =>
    obtain ⟨rfl, X3, B3⟩ := hcut
    clear k2 gl H1 H2 X2 B2 PD P1
    go_wp2
    refine wp_region_last 22 (fun w' => Box w' g #[.int .i64 y, .int .i64 mo, .int .i64 d, .int .i64 h, .int .i64 mi, .int .i64 s] 60 ∧ Below w.heap.size w w') (by kernel_rfl) (⟨X3.out.drew, B3.out.drew⟩) (fun hHeld hClosed => ?_)
    refine wpAnyL_take (i := 0) (v := (.agg #[.int .i64 y, .int .i64 mo, .int .i64 d, .int .i64 h, .int .i64 mi, .int .i64 s])) rfl (by kernel_rfl) (by kernel_rfl) (by kernel_rfl) (by kernel_rfl) (fun _ _ _ h => h) (by kernel_rfl) hClosed (Or.inl ⟨by rfl, ?_⟩) hHeld (fun hClosed => ?_)
    · intro wv hSw; exact exec_load_box (by rfl) (by rfl) hSw.1 Tryz.underlying60 rfl (by kernel_rfl)
    (try simp only [List.getElem_toArray, List.getElem_cons_zero, put_at, List.set])
    refine wpAnyL_take (i := 5) (v := ?_) rfl (by kernel_rfl) (by kernel_rfl) (by kernel_rfl) (by kernel_rfl) (fun _ _ _ h => h) (by kernel_rfl) hClosed (Or.inl ⟨by rfl, ?_⟩) hHeld (fun hClosed => ?_)
    rotate_left
    · intro wv hSw; go_simp; all_goals (with_reducible rfl)
    (try simp only [List.getElem_toArray, List.getElem_cons_succ, List.getElem_cons_zero, put_at, List.set])
    refine wpAnyL_take (i := 6) (v := ?_) rfl (by kernel_rfl) (by kernel_rfl) (by kernel_rfl) (by kernel_rfl) (fun _ _ _ h => h) (by kernel_rfl) hClosed (Or.inl ⟨by rfl, ?_⟩) hHeld (fun hClosed => ?_)
    rotate_left
    · intro wv hSw; have c0 := hSw.1.cell 0; have c1 := hSw.1.cell 1; have c2 := hSw.1.cell 2; have cl := hSw.1.lt; simp only [List.getElem?_toArray, List.getElem?_cons_zero, List.getElem?_cons_succ] at c0 c1 c2; go_simp; all_goals (with_reducible rfl)
    (try simp only [List.getElem_toArray, List.getElem_cons_succ, List.getElem_cons_zero, put_at, List.set])
    refine wpAnyL_take (i := 11) (v := ?_) rfl (by kernel_rfl) (by kernel_rfl) (by kernel_rfl) (by kernel_rfl) (fun _ _ _ h => h) (by kernel_rfl) hClosed (Or.inl ⟨by rfl, ?_⟩) hHeld (fun hClosed => ?_)
    rotate_left
    · intro wv hSw; go_simp; all_goals (with_reducible rfl)
    (try simp only [List.getElem_toArray, List.getElem_cons_succ, List.getElem_cons_zero, put_at, List.set])
    refine wpAnyL_take (i := 14) (v := (.agg #[.int .i64 y, .int .i64 mo, .int .i64 d, .int .i64 h, .int .i64 mi, .int .i64 s])) rfl (by kernel_rfl) (by kernel_rfl) (by kernel_rfl) (by kernel_rfl) (fun _ _ _ h => h) (by kernel_rfl) hClosed (Or.inl ⟨by rfl, ?_⟩) hHeld (fun hClosed => ?_)
    · intro wv hSw; exact exec_load_box (by rfl) (by rfl) hSw.1 Tryz.underlying60 rfl (by kernel_rfl)
    (try simp only [List.getElem_toArray, List.getElem_cons_succ, List.getElem_cons_zero, put_at, List.set])
    refine wpAnyL_take (i := 18) (v := ?_) rfl (by kernel_rfl) (by kernel_rfl) (by kernel_rfl) (by kernel_rfl) (fun _ _ _ h => h) (by kernel_rfl) hClosed (Or.inl ⟨by rfl, ?_⟩) hHeld (fun hClosed => ?_)
    rotate_left
    · intro wv hSw; go_simp; all_goals (with_reducible rfl)
    (try simp only [List.getElem_toArray, List.getElem_cons_succ, List.getElem_cons_zero, put_at, List.set])
    refine wpAnyL_take (i := 19) (v := ?_) rfl (by kernel_rfl) (by kernel_rfl) (by kernel_rfl) (by kernel_rfl) (fun _ _ _ h => h) (by kernel_rfl) hClosed (Or.inl ⟨by rfl, ?_⟩) hHeld (fun hClosed => ?_)
    rotate_left
    · intro wv hSw; have c0 := hSw.1.cell 0; have c1 := hSw.1.cell 1; have c2 := hSw.1.cell 2; have cl := hSw.1.lt; simp only [List.getElem?_toArray, List.getElem?_cons_zero, List.getElem?_cons_succ] at c0 c1 c2; go_simp; all_goals (with_reducible rfl)
    (try simp only [List.getElem_toArray, List.getElem_cons_succ, List.getElem_cons_zero, put_at, List.set])
    refine wpAnyL_one (i := 1) rfl (by kernel_rfl) (by kernel_rfl) hClosed (fun KK hK => ?_)
    go_simp
    refine (DY.out _).mono ?_
    rintro e wq ⟨rfl, hbq⟩
    go_wp2_with fail
    refine hK.out _ _ ?_ (fun hClosed hHeld => ?_)
    · exact ⟨hHeld.1.later hbq, hHeld.2.trans (hbq.mono hHeld.2.size)⟩
    clear hK KK
    (first | simp only [List.getElem_toArray, List.getElem_cons_succ, List.getElem_cons_zero, put_at, List.set] | (try simp only [put_at, List.set]))
    refine wpAnyL_take (i := 2) (v := ?_) rfl (by kernel_rfl) (by kernel_rfl) (by kernel_rfl) (by kernel_rfl) (fun _ _ _ h => h) (by kernel_rfl) hClosed (Or.inl ⟨by rfl, ?_⟩) hHeld (fun hClosed => ?_)
    rotate_left
    · intro wv hSw; go_simp; all_goals (with_reducible rfl)
    (try simp only [List.getElem_toArray, List.getElem_cons_succ, List.getElem_cons_zero, put_at, List.set])
    refine wpAnyL_take (i := 3) (v := ?_) rfl (by kernel_rfl) (by kernel_rfl) (by kernel_rfl) (by kernel_rfl) (fun _ _ _ h => h) (by kernel_rfl) hClosed (Or.inl ⟨by rfl, ?_⟩) hHeld (fun hClosed => ?_)
    rotate_left
    · intro wv hSw; go_simp; all_goals (with_reducible rfl)
    (try simp only [List.getElem_toArray, List.getElem_cons_succ, List.getElem_cons_zero, put_at, List.set])
    refine wpAnyL_one (i := 4) rfl (by kernel_rfl) (by kernel_rfl) hClosed (fun KK hK => ?_)
    go_simp
    refine (rmonths_at _).mono ?_
    rintro e wq ⟨bm, rfl, hbx, hbq⟩
    rw [show monR.size = 13 from rfl]
    go_wp2_with fail
    refine hK.out _ _ ?_ (fun hClosed hHeld => ?_)
    · exact ⟨hHeld.1.later hbq, hHeld.2.trans (hbq.mono hHeld.2.size)⟩
    clear hK KK
    (first | simp only [List.getElem_toArray, List.getElem_cons_succ, List.getElem_cons_zero, put_at, List.set] | (try simp only [put_at, List.set]))
    refine wpAnyL_take (i := 7) (v := ?_) rfl (by kernel_rfl) (by kernel_rfl) (by kernel_rfl) (by kernel_rfl) (fun _ _ _ h => h) (by kernel_rfl) hClosed (Or.inl ⟨by rfl, ?_⟩) hHeld (fun hClosed => ?_)
    rotate_left
    · intro wv hSw; go_simp; all_goals (with_reducible rfl)
    (try simp only [List.getElem_toArray, List.getElem_cons_succ, List.getElem_cons_zero, put_at, List.set])
    refine wpAnyL_two (i := 8) (j := 15) rfl rfl (by kernel_rfl) (by kernel_rfl) (by kernel_rfl) hClosed (fun KK hK => ?_) (fun KK hK => ?_)
    · have cm := hbx.cell J
      rw [G2.out] at cm
      go_simp
      refine hK.out _ _ ?_ (fun hClosed hHeld => ?_)
      · exact hHeld
      clear hK KK
      (first | simp only [List.getElem_toArray, List.getElem_cons_succ, List.getElem_cons_zero, put_at, List.set] | (try simp only [put_at, List.set]))
      refine wpAnyL_take (i := 9) (v := ?_) rfl (by kernel_rfl) (by kernel_rfl) (by kernel_rfl) (by kernel_rfl) (fun _ _ _ h => h) (by kernel_rfl) hClosed (Or.inl ⟨by rfl, ?_⟩) hHeld (fun hClosed => ?_)
      rotate_left
      · intro wv hSw; go_simp; all_goals (with_reducible rfl)
      (try simp only [List.getElem_toArray, List.getElem_cons_succ, List.getElem_cons_zero, put_at, List.set])
      refine wpAnyL_take (i := 10) (v := ?_) rfl (by kernel_rfl) (by kernel_rfl) (by kernel_rfl) (by kernel_rfl) (fun _ _ _ h => h) (by kernel_rfl) hClosed (Or.inl ⟨by rfl, ?_⟩) hHeld (fun hClosed => ?_)
      rotate_left
      · intro wv hSw; go_simp; all_goals (with_reducible rfl)
      (try simp only [List.getElem_toArray, List.getElem_cons_succ, List.getElem_cons_zero, put_at, List.set])
      refine wpAnyL_take (i := 12) (v := ?_) rfl (by kernel_rfl) (by kernel_rfl) (by kernel_rfl) (by kernel_rfl) (fun _ _ _ h => h) (by kernel_rfl) hClosed (Or.inl ⟨by rfl, ?_⟩) hHeld (fun hClosed => ?_)
      rotate_left
      · intro wv hSw; go_simp; all_goals (with_reducible rfl)
      (try simp only [List.getElem_toArray, List.getElem_cons_succ, List.getElem_cons_zero, put_at, List.set])
      refine wpAnyL_take (i := 13) (v := ?_) rfl (by kernel_rfl) (by kernel_rfl) (by kernel_rfl) (by kernel_rfl) (fun _ _ _ h => h) (by kernel_rfl) hClosed (Or.inl ⟨by rfl, ?_⟩) hHeld (fun hClosed => ?_)
      rotate_left
      · intro wv hSw; go_simp; all_goals (with_reducible rfl)
      (try simp only [List.getElem_toArray, List.getElem_cons_succ, List.getElem_cons_zero, put_at, List.set])
      refine wpAnyL_one (i := 15) rfl (by kernel_rfl) (by kernel_rfl) hClosed (fun KK hK => ?_)
      go_simp
      refine (CK.out _).mono ?_
      rintro e wq ⟨rfl, hbq⟩
      go_wp2_with fail
      refine hK.out _ _ ?_ (fun hClosed hHeld => ?_)
      · exact ⟨hHeld.1.later hbq, hHeld.2.trans (hbq.mono hHeld.2.size)⟩
      clear hK KK
      (first | simp only [List.getElem_toArray, List.getElem_cons_succ, List.getElem_cons_zero, put_at, List.set] | (try simp only [put_at, List.set]))
      refine wpAnyL_take (i := 16) (v := ?_) rfl (by kernel_rfl) (by kernel_rfl) (by kernel_rfl) (by kernel_rfl) (fun _ _ _ h => h) (by kernel_rfl) hClosed (Or.inl ⟨by rfl, ?_⟩) hHeld (fun hClosed => ?_)
      rotate_left
      · intro wv hSw; go_simp; all_goals (with_reducible rfl)
      (try simp only [List.getElem_toArray, List.getElem_cons_succ, List.getElem_cons_zero, put_at, List.set])
      refine wpAnyL_take (i := 17) (v := ?_) rfl (by kernel_rfl) (by kernel_rfl) (by kernel_rfl) (by kernel_rfl) (fun _ _ _ h => h) (by kernel_rfl) hClosed (Or.inl ⟨by rfl, ?_⟩) hHeld (fun hClosed => ?_)
      rotate_left
      · intro wv hSw; go_simp; all_goals (with_reducible rfl)
      (try simp only [List.getElem_toArray, List.getElem_cons_succ, List.getElem_cons_zero, put_at, List.set])
      refine wpAnyL_one (i := 20) rfl (by kernel_rfl) (by kernel_rfl) hClosed (fun KK hK => ?_)
      go_simp
      refine (PY.out _).mono ?_
      rintro e wq ⟨rfl, hbq⟩
      go_wp2_with fail
      refine hK.out _ _ ?_ (fun hClosed hHeld => ?_)
      · exact ⟨hHeld.1.later hbq, hHeld.2.trans (hbq.mono hHeld.2.size)⟩
      clear hK KK
      (first | simp only [List.getElem_toArray, List.getElem_cons_succ, List.getElem_cons_zero, put_at, List.set] | (try simp only [put_at, List.set]))
      refine wpAnyL_take (i := 21) (v := ?_) rfl (by kernel_rfl) (by kernel_rfl) (by kernel_rfl) (by kernel_rfl) (fun _ _ _ h => h) (by kernel_rfl) hClosed (Or.inl ⟨by rfl, ?_⟩) hHeld (fun hClosed => ?_)
      rotate_left
      · intro wv hSw; go_simp; all_goals (with_reducible rfl)
      (try simp only [List.getElem_toArray, List.getElem_cons_succ, List.getElem_cons_zero, put_at, List.set])
      refine wpAnyL_last rfl (by kernel_rfl) (by kernel_rfl) (fun KK hK => ?_)
      go_simp
      refine hK.out _ _ ?_
      (try simp only [put_at, List.set])
      go_wp2
      go_ret
      exact ⟨rfl, hHeld.2⟩
    · go_simp
      refine (CK.out _).mono ?_
      rintro e wq ⟨rfl, hbq⟩
      go_wp2_with fail
      refine hK.out _ _ ?_ (fun hClosed hHeld => ?_)
      · exact ⟨hHeld.1.later hbq, hHeld.2.trans (hbq.mono hHeld.2.size)⟩
      clear hK KK
      (first | simp only [List.getElem_toArray, List.getElem_cons_succ, List.getElem_cons_zero, put_at, List.set] | (try simp only [put_at, List.set]))
      replace hbx := hbx.later hbq
      refine wpAnyL_two (i := 8) (j := 20) rfl rfl (by kernel_rfl) (by kernel_rfl) (by kernel_rfl) hClosed (fun KK hK => ?_) (fun KK hK => ?_)
      · have cm := hbx.cell J
        rw [G2.out] at cm
        go_simp
        refine hK.out _ _ ?_ (fun hClosed hHeld => ?_)
        · exact hHeld
        clear hK KK
        (first | simp only [List.getElem_toArray, List.getElem_cons_succ, List.getElem_cons_zero, put_at, List.set] | (try simp only [put_at, List.set]))
        refine wpAnyL_take (i := 9) (v := ?_) rfl (by kernel_rfl) (by kernel_rfl) (by kernel_rfl) (by kernel_rfl) (fun _ _ _ h => h) (by kernel_rfl) hClosed (Or.inl ⟨by rfl, ?_⟩) hHeld (fun hClosed => ?_)
        rotate_left
        · intro wv hSw; go_simp; all_goals (with_reducible rfl)
        (try simp only [List.getElem_toArray, List.getElem_cons_succ, List.getElem_cons_zero, put_at, List.set])
        refine wpAnyL_take (i := 10) (v := ?_) rfl (by kernel_rfl) (by kernel_rfl) (by kernel_rfl) (by kernel_rfl) (fun _ _ _ h => h) (by kernel_rfl) hClosed (Or.inl ⟨by rfl, ?_⟩) hHeld (fun hClosed => ?_)
        rotate_left
        · intro wv hSw; go_simp; all_goals (with_reducible rfl)
        (try simp only [List.getElem_toArray, List.getElem_cons_succ, List.getElem_cons_zero, put_at, List.set])
        refine wpAnyL_take (i := 12) (v := ?_) rfl (by kernel_rfl) (by kernel_rfl) (by kernel_rfl) (by kernel_rfl) (fun _ _ _ h => h) (by kernel_rfl) hClosed (Or.inl ⟨by rfl, ?_⟩) hHeld (fun hClosed => ?_)
        rotate_left
        · intro wv hSw; go_simp; all_goals (with_reducible rfl)
        (try simp only [List.getElem_toArray, List.getElem_cons_succ, List.getElem_cons_zero, put_at, List.set])
        refine wpAnyL_take (i := 13) (v := ?_) rfl (by kernel_rfl) (by kernel_rfl) (by kernel_rfl) (by kernel_rfl) (fun _ _ _ h => h) (by kernel_rfl) hClosed (Or.inl ⟨by rfl, ?_⟩) hHeld (fun hClosed => ?_)
        rotate_left
        · intro wv hSw; go_simp; all_goals (with_reducible rfl)
        (try simp only [List.getElem_toArray, List.getElem_cons_succ, List.getElem_cons_zero, put_at, List.set])
        refine wpAnyL_take (i := 16) (v := ?_) rfl (by kernel_rfl) (by kernel_rfl) (by kernel_rfl) (by kernel_rfl) (fun _ _ _ h => h) (by kernel_rfl) hClosed (Or.inl ⟨by rfl, ?_⟩) hHeld (fun hClosed => ?_)
        rotate_left
        · intro wv hSw; go_simp; all_goals (with_reducible rfl)
        (try simp only [List.getElem_toArray, List.getElem_cons_succ, List.getElem_cons_zero, put_at, List.set])
        refine wpAnyL_take (i := 17) (v := ?_) rfl (by kernel_rfl) (by kernel_rfl) (by kernel_rfl) (by kernel_rfl) (fun _ _ _ h => h) (by kernel_rfl) hClosed (Or.inl ⟨by rfl, ?_⟩) hHeld (fun hClosed => ?_)
        rotate_left
        · intro wv hSw; go_simp; all_goals (with_reducible rfl)
        (try simp only [List.getElem_toArray, List.getElem_cons_succ, List.getElem_cons_zero, put_at, List.set])
        refine wpAnyL_one (i := 20) rfl (by kernel_rfl) (by kernel_rfl) hClosed (fun KK hK => ?_)
        go_simp
        refine (PY.out _).mono ?_
        rintro e wq ⟨rfl, hbq⟩
        go_wp2_with fail
        refine hK.out _ _ ?_ (fun hClosed hHeld => ?_)
        · exact ⟨hHeld.1.later hbq, hHeld.2.trans (hbq.mono hHeld.2.size)⟩
        clear hK KK
        (first | simp only [List.getElem_toArray, List.getElem_cons_succ, List.getElem_cons_zero, put_at, List.set] | (try simp only [put_at, List.set]))
        refine wpAnyL_take (i := 21) (v := ?_) rfl (by kernel_rfl) (by kernel_rfl) (by kernel_rfl) (by kernel_rfl) (fun _ _ _ h => h) (by kernel_rfl) hClosed (Or.inl ⟨by rfl, ?_⟩) hHeld (fun hClosed => ?_)
        rotate_left
        · intro wv hSw; go_simp; all_goals (with_reducible rfl)
        (try simp only [List.getElem_toArray, List.getElem_cons_succ, List.getElem_cons_zero, put_at, List.set])
        refine wpAnyL_last rfl (by kernel_rfl) (by kernel_rfl) (fun KK hK => ?_)
        go_simp
        refine hK.out _ _ ?_
        (try simp only [put_at, List.set])
        go_wp2
        go_ret
        exact ⟨rfl, hHeld.2⟩
      · go_simp
        refine (PY.out _).mono ?_
        rintro e wq ⟨rfl, hbq⟩
        go_wp2_with fail
        refine hK.out _ _ ?_ (fun hClosed hHeld => ?_)
        · exact ⟨hHeld.1.later hbq, hHeld.2.trans (hbq.mono hHeld.2.size)⟩
        clear hK KK
        (first | simp only [List.getElem_toArray, List.getElem_cons_succ, List.getElem_cons_zero, put_at, List.set] | (try simp only [put_at, List.set]))
        replace hbx := hbx.later hbq
        refine wpAnyL_one (i := 8) rfl (by kernel_rfl) (by kernel_rfl) hClosed (fun KK hK => ?_)
        have cm := hbx.cell J
        rw [G2.out] at cm
        go_simp
        refine hK.out _ _ ?_ (fun hClosed hHeld => ?_)
        · exact hHeld
        clear hK KK
        (first | simp only [List.getElem_toArray, List.getElem_cons_succ, List.getElem_cons_zero, put_at, List.set] | (try simp only [put_at, List.set]))
        refine wpAnyL_take (i := 9) (v := ?_) rfl (by kernel_rfl) (by kernel_rfl) (by kernel_rfl) (by kernel_rfl) (fun _ _ _ h => h) (by kernel_rfl) hClosed (Or.inl ⟨by rfl, ?_⟩) hHeld (fun hClosed => ?_)
        rotate_left
        · intro wv hSw; go_simp; all_goals (with_reducible rfl)
        (try simp only [List.getElem_toArray, List.getElem_cons_succ, List.getElem_cons_zero, put_at, List.set])
        refine wpAnyL_take (i := 10) (v := ?_) rfl (by kernel_rfl) (by kernel_rfl) (by kernel_rfl) (by kernel_rfl) (fun _ _ _ h => h) (by kernel_rfl) hClosed (Or.inl ⟨by rfl, ?_⟩) hHeld (fun hClosed => ?_)
        rotate_left
        · intro wv hSw; go_simp; all_goals (with_reducible rfl)
        (try simp only [List.getElem_toArray, List.getElem_cons_succ, List.getElem_cons_zero, put_at, List.set])
        refine wpAnyL_take (i := 12) (v := ?_) rfl (by kernel_rfl) (by kernel_rfl) (by kernel_rfl) (by kernel_rfl) (fun _ _ _ h => h) (by kernel_rfl) hClosed (Or.inl ⟨by rfl, ?_⟩) hHeld (fun hClosed => ?_)
        rotate_left
        · intro wv hSw; go_simp; all_goals (with_reducible rfl)
        (try simp only [List.getElem_toArray, List.getElem_cons_succ, List.getElem_cons_zero, put_at, List.set])
        refine wpAnyL_take (i := 13) (v := ?_) rfl (by kernel_rfl) (by kernel_rfl) (by kernel_rfl) (by kernel_rfl) (fun _ _ _ h => h) (by kernel_rfl) hClosed (Or.inl ⟨by rfl, ?_⟩) hHeld (fun hClosed => ?_)
        rotate_left
        · intro wv hSw; go_simp; all_goals (with_reducible rfl)
        (try simp only [List.getElem_toArray, List.getElem_cons_succ, List.getElem_cons_zero, put_at, List.set])
        refine wpAnyL_take (i := 16) (v := ?_) rfl (by kernel_rfl) (by kernel_rfl) (by kernel_rfl) (by kernel_rfl) (fun _ _ _ h => h) (by kernel_rfl) hClosed (Or.inl ⟨by rfl, ?_⟩) hHeld (fun hClosed => ?_)
        rotate_left
        · intro wv hSw; go_simp; all_goals (with_reducible rfl)
        (try simp only [List.getElem_toArray, List.getElem_cons_succ, List.getElem_cons_zero, put_at, List.set])
        refine wpAnyL_take (i := 17) (v := ?_) rfl (by kernel_rfl) (by kernel_rfl) (by kernel_rfl) (by kernel_rfl) (fun _ _ _ h => h) (by kernel_rfl) hClosed (Or.inl ⟨by rfl, ?_⟩) hHeld (fun hClosed => ?_)
        rotate_left
        · intro wv hSw; go_simp; all_goals (with_reducible rfl)
        (try simp only [List.getElem_toArray, List.getElem_cons_succ, List.getElem_cons_zero, put_at, List.set])
        refine wpAnyL_take (i := 21) (v := ?_) rfl (by kernel_rfl) (by kernel_rfl) (by kernel_rfl) (by kernel_rfl) (fun _ _ _ h => h) (by kernel_rfl) hClosed (Or.inl ⟨by rfl, ?_⟩) hHeld (fun hClosed => ?_)
        rotate_left
        · intro wv hSw; go_simp; all_goals (with_reducible rfl)
        (try simp only [List.getElem_toArray, List.getElem_cons_succ, List.getElem_cons_zero, put_at, List.set])
        refine wpAnyL_last rfl (by kernel_rfl) (by kernel_rfl) (fun KK hK => ?_)
        go_simp
        refine hK.out _ _ ?_
        (try simp only [put_at, List.set])
        go_wp2
        go_ret
        exact ⟨rfl, hHeld.2⟩
end Go.Proofs.YtodibjpojfipoaaGreatDoor
/- The document's second form. -/
namespace Go.Proofs.YtodibjpojfipoaaGreatDoor
open Go.RowKit
set_option linter.unusedVariables false
set_option linter.unusedSimpArgs false
set_option maxRecDepth 10000

/-- The second form. -/
def secondL (m : Mo) : List Int := dayN.getD m.wd.toNat [] ++ [44, 32] ++ padN 2 m.d.toNat ++ [45] ++ monN.getD (m.mo - 1).toNat [] ++ [45] ++ padN 2 (m.y % 100).toNat ++ [32] ++ clkL m ++ [32, 71, 77, 84]
theorem day_size (K : Nat) (h : K < 7) (x : ByteArray) (hx : dayV[K]? = some (.string x)) : x.size ≤ 9 := by
  have hk : K = 0 ∨ K = 1 ∨ K = 2 ∨ K = 3 ∨ K = 4 ∨ K = 5 ∨ K = 6 := by omega
  rcases hk with rfl | rfl | rfl | rfl | rfl | rfl | rfl <;> (injection hx with e; injection e with e; rw [← e]; decide)
set_option maxHeartbeats 4000000 in
theorem rsecond_at (wd y mo d h mi s : Int) (t : ByteArray) (hv : Valid y mo d) (hc : ClkOk ⟨wd, y, mo, d, h, mi, s⟩) (hw : (num y mo d + 3) % 7 = wd) (ht : strL (secondL ⟨wd, y, mo, d, h, mi, s⟩) = t) (w : World) :
    Calls Tryz.prog 55 #[.agg #[.int .i64 y, .int .i64 mo, .int .i64 d, .int .i64 h, .int .i64 mi, .int .i64 s]] w fun e w' => e = .returned (.string t) ∧ Below w.heap.size w w' := by
  obtain ⟨K, hK⟩ : ∃ K : Nat, (num y mo d + 3) % 7 = (K : Int) := ⟨((num y mo d + 3) % 7).toNat, by omega⟩
  have hK7 : K < 7 := by omega
  obtain ⟨x, g1, g2, g3, g4⟩ := day_get K hK7
  obtain ⟨nm, hnm⟩ : ∃ nm, x = nm := ⟨_, rfl⟩
  have zn : nm.size ≤ 9 := by rw [← hnm]; exact day_size K hK7 x g1
  obtain ⟨yy, hyy⟩ : ∃ yy, y % 100 = yy := ⟨_, rfl⟩
  have hrem : y.tmod 100 = yy := by rw [Int.tmod_eq_emod_of_nonneg hv.1, hyy]
  have yy0 : 0 ≤ yy := by omega
  have yy1 : yy < 100 := by omega
  have hv2 := hv
  obtain ⟨v1, v2, v3, v4, v5, v6⟩ := hv2
  have b4 := lenI_bd y mo
  obtain ⟨J, hJ⟩ : ∃ J : Nat, mo = (J : Int) := ⟨mo.toNat, by omega⟩
  obtain ⟨mn, hmn, g5, zm⟩ := monR_get J (by omega) (by omega)
  obtain ⟨ck, hck⟩ : ∃ t, strL (clkL ⟨wd, y, mo, d, h, mi, s⟩) = t := ⟨_, rfl⟩
  obtain ⟨pd, hpd⟩ : ∃ t, strL (padN 2 d.toNat) = t := ⟨_, rfl⟩
  obtain ⟨py, hpy⟩ : ∃ t, strL (padN 2 yy.toNat) = t := ⟨_, rfl⟩
  have zpd := pad_size 2 _ pd hpd
  have zpy := pad_size 2 _ py hpy
  have zck := clk_size _ ck hck
  have DY := Lib.hid (fun W => rday_at y mo d h mi s K nm hv hK (hnm ▸ g1) W)
  have PD := Lib.hid (fun W => rpad2_as d pd hpd (by omega) (by omega) W)
  have PY := Lib.hid (fun W => rpad2_as yy py hpy (by omega) (by omega) W)
  have CK := Lib.hid (fun W => rclock_at wd y mo d h mi s ck hc hck W)
  obtain ⟨s1, hs1⟩ : ∃ c, nm ++ (⟨#[44, 32]⟩ : ByteArray) = c := ⟨_, rfl⟩
  obtain ⟨s2, hs2⟩ : ∃ c, s1 ++ pd = c := ⟨_, rfl⟩
  obtain ⟨s3, hs3⟩ : ∃ c, s2 ++ (⟨#[45]⟩ : ByteArray) = c := ⟨_, rfl⟩
  obtain ⟨s4, hs4⟩ : ∃ c, s3 ++ mn = c := ⟨_, rfl⟩
  obtain ⟨s5, hs5⟩ : ∃ c, s4 ++ (⟨#[45]⟩ : ByteArray) = c := ⟨_, rfl⟩
  obtain ⟨s6, hs6⟩ : ∃ c, s5 ++ py = c := ⟨_, rfl⟩
  obtain ⟨s7, hs7⟩ : ∃ c, s6 ++ (⟨#[32]⟩ : ByteArray) = c := ⟨_, rfl⟩
  obtain ⟨s8, hs8⟩ : ∃ c, s7 ++ ck = c := ⟨_, rfl⟩
  have ht2 : s8 ++ (⟨#[32, 71, 77, 84]⟩ : ByteArray) = t := by
    rw [← ht, ← strL_btL (s8 ++ _)]
    congr 1
    unfold secondL
    dsimp only
    have eD : dayN.getD wd.toNat [] = btL nm := by
      rw [← hw, hK, Int.toNat_natCast, ← hnm]
      have := congrArg List.head? g2
      rw [List.head?_drop] at this
      rw [List.getD_eq_getElem?_getD, this]
      rfl
    have eM : monN.getD (mo - 1).toNat [] = btL mn := by rw [show (mo - 1).toNat = J - 1 from by omega, g5]
    have eC : btL ck = clkL ⟨wd, y, mo, d, h, mi, s⟩ := by rw [← hck, btL_strL (clk_byts _)]
    rw [eD, eM, ← eC, hyy, ← hs8, ← hs7, ← hs6, ← hs5, ← hs4, ← hs3, ← hs2, ← hs1, ← hpd, ← hpy]
    simp only [btD_app, btD_pad]
    rfl
  have zz_s1 : (⟨#[44, 32]⟩ : ByteArray).size = 2 := rfl
  have z_s1 : s1.size ≤ 11 := by rw [← hs1, ByteArray.size_append]; omega
  have A_s1 : ∀ wx : World, (Op.stringOp .add nm ⟨#[44, 32]⟩).run Tryz.prog wx = .ok (.string s1) wx := fun wx => by rw [run_string_add_sum wx _ _ (by omega), hs1]
  have z_s2 : s2.size ≤ 13 := by rw [← hs2, ByteArray.size_append]; omega
  have A_s2 : ∀ wx : World, (Op.stringOp .add s1 pd).run Tryz.prog wx = .ok (.string s2) wx := fun wx => by rw [run_string_add_sum wx _ _ (by omega), hs2]
  have zz_s3 : (⟨#[45]⟩ : ByteArray).size = 1 := rfl
  have z_s3 : s3.size ≤ 14 := by rw [← hs3, ByteArray.size_append]; omega
  have A_s3 : ∀ wx : World, (Op.stringOp .add s2 ⟨#[45]⟩).run Tryz.prog wx = .ok (.string s3) wx := fun wx => by rw [run_string_add_sum wx _ _ (by omega), hs3]
  have z_s4 : s4.size ≤ 17 := by rw [← hs4, ByteArray.size_append]; omega
  have A_s4 : ∀ wx : World, (Op.stringOp .add s3 mn).run Tryz.prog wx = .ok (.string s4) wx := fun wx => by rw [run_string_add_sum wx _ _ (by omega), hs4]
  have zz_s5 : (⟨#[45]⟩ : ByteArray).size = 1 := rfl
  have z_s5 : s5.size ≤ 18 := by rw [← hs5, ByteArray.size_append]; omega
  have A_s5 : ∀ wx : World, (Op.stringOp .add s4 ⟨#[45]⟩).run Tryz.prog wx = .ok (.string s5) wx := fun wx => by rw [run_string_add_sum wx _ _ (by omega), hs5]
  have z_s6 : s6.size ≤ 20 := by rw [← hs6, ByteArray.size_append]; omega
  have A_s6 : ∀ wx : World, (Op.stringOp .add s5 py).run Tryz.prog wx = .ok (.string s6) wx := fun wx => by rw [run_string_add_sum wx _ _ (by omega), hs6]
  have zz_s7 : (⟨#[32]⟩ : ByteArray).size = 1 := rfl
  have z_s7 : s7.size ≤ 21 := by rw [← hs7, ByteArray.size_append]; omega
  have A_s7 : ∀ wx : World, (Op.stringOp .add s6 ⟨#[32]⟩).run Tryz.prog wx = .ok (.string s7) wx := fun wx => by rw [run_string_add_sum wx _ _ (by omega), hs7]
  have z_s8 : s8.size ≤ 29 := by rw [← hs8, ByteArray.size_append]; omega
  have A_s8 : ∀ wx : World, (Op.stringOp .add s7 ck).run Tryz.prog wx = .ok (.string s8) wx := fun wx => by rw [run_string_add_sum wx _ _ (by omega), hs8]
  have zz_t : (⟨#[32, 71, 77, 84]⟩ : ByteArray).size = 4 := rfl
  have z_t : t.size ≤ 33 := by rw [← ht2, ByteArray.size_append]; omega
  have A_t : ∀ wx : World, (Op.stringOp .add s8 ⟨#[32, 71, 77, 84]⟩).run Tryz.prog wx = .ok (.string t) wx := fun wx => by rw [run_string_add_sum wx _ _ (by omega), ht2]
  clear zz_s1 zz_s3 zz_s5 zz_s7 zz_t z_s1 z_s2 z_s3 z_s4 z_s5 z_s6 z_s7 z_s8 z_t
  have G2 : Hid (monR[J]? = some (.string mn)) := Lib.hid hmn
  have hwr : IntKind.i64.wrap yy = yy := by simp [IntKind.wrap, IntKind.signed, IntKind.bits]; omega
  have m0 : 0 ≤ mo := by omega
  have m1 : mo < 13 := by omega
  have hmj : mo.toNat = J := by omega
  clear hyy hv hc hw ht hK g1 g2 g3 g4 g5 hmn zm zn hnm hck hpd hpy zpd zpy zck hs1 hs2 hs3 hs4 hs5 hs6 hs7 hs8 ht2 v1 v2 v3 v4 v5 v6 b4 hJ hK7
  obtain ⟨g, hg⟩ : ∃ g, w.heap.size = g := ⟨_, rfl⟩
  go_enter Tryz.func55, Tryz.ntmps55
  go_wp2
  refine code_forget (fun wx => Hid (Box wx g #[.int .i64 y, .int .i64 mo, .int .i64 d, .int .i64 h, .int .i64 mi, .int .i64 s] 60) ∧ Hid (Below w.heap.size w wx)) ⟨Lib.hid (dBox_new hg.symm), Lib.hid ((Below.refl _ _).alloc (Nat.le_refl _) _)⟩ ?_
  clear hg
  rintro w1 ⟨X1, B1⟩
  refine wp_region_last 25 (fun w' => Box w' g #[.int .i64 y, .int .i64 mo, .int .i64 d, .int .i64 h, .int .i64 mi, .int .i64 s] 60 ∧ Below w.heap.size w w') (by kernel_rfl) (⟨X1.out.drew, B1.out.drew⟩) (fun hHeld hClosed => ?_)
  refine wpAnyL_take (i := 0) (v := (.agg #[.int .i64 y, .int .i64 mo, .int .i64 d, .int .i64 h, .int .i64 mi, .int .i64 s])) rfl (by kernel_rfl) (by kernel_rfl) (by kernel_rfl) (by kernel_rfl) (fun _ _ _ h => h) (by kernel_rfl) hClosed (Or.inl ⟨by rfl, ?_⟩) hHeld (fun hClosed => ?_)
  · intro wv hSw; exact exec_load_box (by rfl) (by rfl) hSw.1 Tryz.underlying60 rfl (by kernel_rfl)
  (try simp only [List.getElem_toArray, List.getElem_cons_zero, put_at, List.set])
  refine wpAnyL_take (i := 3) (v := ?_) rfl (by kernel_rfl) (by kernel_rfl) (by kernel_rfl) (by kernel_rfl) (fun _ _ _ h => h) (by kernel_rfl) hClosed (Or.inl ⟨by rfl, ?_⟩) hHeld (fun hClosed => ?_)
  rotate_left
  · intro wv hSw; go_simp; all_goals (with_reducible rfl)
  (try simp only [List.getElem_toArray, List.getElem_cons_succ, List.getElem_cons_zero, put_at, List.set])
  refine wpAnyL_take (i := 4) (v := ?_) rfl (by kernel_rfl) (by kernel_rfl) (by kernel_rfl) (by kernel_rfl) (fun _ _ _ h => h) (by kernel_rfl) hClosed (Or.inl ⟨by rfl, ?_⟩) hHeld (fun hClosed => ?_)
  rotate_left
  · intro wv hSw; have c0 := hSw.1.cell 0; have c1 := hSw.1.cell 1; have c2 := hSw.1.cell 2; have cl := hSw.1.lt; simp only [List.getElem?_toArray, List.getElem?_cons_zero, List.getElem?_cons_succ] at c0 c1 c2; go_simp; all_goals (with_reducible rfl)
  (try simp only [List.getElem_toArray, List.getElem_cons_succ, List.getElem_cons_zero, put_at, List.set])
  refine wpAnyL_take (i := 9) (v := ?_) rfl (by kernel_rfl) (by kernel_rfl) (by kernel_rfl) (by kernel_rfl) (fun _ _ _ h => h) (by kernel_rfl) hClosed (Or.inl ⟨by rfl, ?_⟩) hHeld (fun hClosed => ?_)
  rotate_left
  · intro wv hSw; go_simp; all_goals (with_reducible rfl)
  (try simp only [List.getElem_toArray, List.getElem_cons_succ, List.getElem_cons_zero, put_at, List.set])
  refine wpAnyL_take (i := 10) (v := ?_) rfl (by kernel_rfl) (by kernel_rfl) (by kernel_rfl) (by kernel_rfl) (fun _ _ _ h => h) (by kernel_rfl) hClosed (Or.inl ⟨by rfl, ?_⟩) hHeld (fun hClosed => ?_)
  rotate_left
  · intro wv hSw; have c0 := hSw.1.cell 0; have c1 := hSw.1.cell 1; have c2 := hSw.1.cell 2; have cl := hSw.1.lt; simp only [List.getElem?_toArray, List.getElem?_cons_zero, List.getElem?_cons_succ] at c0 c1 c2; go_simp; all_goals (with_reducible rfl)
  (try simp only [List.getElem_toArray, List.getElem_cons_succ, List.getElem_cons_zero, put_at, List.set])
  refine wpAnyL_take (i := 15) (v := ?_) rfl (by kernel_rfl) (by kernel_rfl) (by kernel_rfl) (by kernel_rfl) (fun _ _ _ h => h) (by kernel_rfl) hClosed (Or.inl ⟨by rfl, ?_⟩) hHeld (fun hClosed => ?_)
  rotate_left
  · intro wv hSw; go_simp; all_goals (with_reducible rfl)
  (try simp only [List.getElem_toArray, List.getElem_cons_succ, List.getElem_cons_zero, put_at, List.set])
  refine wpAnyL_take (i := 16) (v := ?_) rfl (by kernel_rfl) (by kernel_rfl) (by kernel_rfl) (by kernel_rfl) (fun _ _ _ h => h) (by kernel_rfl) hClosed (Or.inl ⟨by rfl, ?_⟩) hHeld (fun hClosed => ?_)
  rotate_left
  · intro wv hSw; have c0 := hSw.1.cell 0; have c1 := hSw.1.cell 1; have c2 := hSw.1.cell 2; have cl := hSw.1.lt; simp only [List.getElem?_toArray, List.getElem?_cons_zero, List.getElem?_cons_succ] at c0 c1 c2; go_simp; all_goals (with_reducible rfl)
  (try simp only [List.getElem_toArray, List.getElem_cons_succ, List.getElem_cons_zero, put_at, List.set])
  refine wpAnyL_take (i := 17) (v := ?_) rfl (by kernel_rfl) (by kernel_rfl) (by kernel_rfl) (by kernel_rfl) (fun _ _ _ h => h) (by kernel_rfl) hClosed (Or.inl ⟨by rfl, ?_⟩) hHeld (fun hClosed => ?_)
  rotate_left
  · intro wv hSw; go_simp; all_goals (with_reducible rfl)
  (try simp only [List.getElem_toArray, List.getElem_cons_succ, List.getElem_cons_zero, put_at, List.set])
  refine wpAnyL_take (i := 21) (v := (.agg #[.int .i64 y, .int .i64 mo, .int .i64 d, .int .i64 h, .int .i64 mi, .int .i64 s])) rfl (by kernel_rfl) (by kernel_rfl) (by kernel_rfl) (by kernel_rfl) (fun _ _ _ h => h) (by kernel_rfl) hClosed (Or.inl ⟨by rfl, ?_⟩) hHeld (fun hClosed => ?_)
  · intro wv hSw; exact exec_load_box (by rfl) (by rfl) hSw.1 Tryz.underlying60 rfl (by kernel_rfl)
  (try simp only [List.getElem_toArray, List.getElem_cons_succ, List.getElem_cons_zero, put_at, List.set])
  refine wpAnyL_one (i := 1) rfl (by kernel_rfl) (by kernel_rfl) hClosed (fun KK hK => ?_)
  go_simp
  refine (DY.out _).mono ?_
  rintro e wq ⟨rfl, hbq⟩
  go_wp2_with fail
  refine hK.out _ _ ?_ (fun hClosed hHeld => ?_)
  · exact ⟨hHeld.1.later hbq, hHeld.2.trans (hbq.mono hHeld.2.size)⟩
  clear hK KK
  (first | simp only [List.getElem_toArray, List.getElem_cons_succ, List.getElem_cons_zero, put_at, List.set] | (try simp only [put_at, List.set]))
  refine wpAnyL_take (i := 2) (v := ?_) rfl (by kernel_rfl) (by kernel_rfl) (by kernel_rfl) (by kernel_rfl) (fun _ _ _ h => h) (by kernel_rfl) hClosed (Or.inl ⟨by rfl, ?_⟩) hHeld (fun hClosed => ?_)
  rotate_left
  · intro wv hSw; go_simp; all_goals (with_reducible rfl)
  (try simp only [List.getElem_toArray, List.getElem_cons_succ, List.getElem_cons_zero, put_at, List.set])
  refine wpAnyL_one (i := 5) rfl (by kernel_rfl) (by kernel_rfl) hClosed (fun KK hK => ?_)
  go_simp
  refine (PD.out _).mono ?_
  rintro e wq ⟨rfl, hbq⟩
  go_wp2_with fail
  refine hK.out _ _ ?_ (fun hClosed hHeld => ?_)
  · exact ⟨hHeld.1.later hbq, hHeld.2.trans (hbq.mono hHeld.2.size)⟩
  clear hK KK
  (first | simp only [List.getElem_toArray, List.getElem_cons_succ, List.getElem_cons_zero, put_at, List.set] | (try simp only [put_at, List.set]))
  refine wpAnyL_take (i := 6) (v := ?_) rfl (by kernel_rfl) (by kernel_rfl) (by kernel_rfl) (by kernel_rfl) (fun _ _ _ h => h) (by kernel_rfl) hClosed (Or.inl ⟨by rfl, ?_⟩) hHeld (fun hClosed => ?_)
  rotate_left
  · intro wv hSw; go_simp; all_goals (with_reducible rfl)
  (try simp only [List.getElem_toArray, List.getElem_cons_succ, List.getElem_cons_zero, put_at, List.set])
  refine wpAnyL_take (i := 7) (v := ?_) rfl (by kernel_rfl) (by kernel_rfl) (by kernel_rfl) (by kernel_rfl) (fun _ _ _ h => h) (by kernel_rfl) hClosed (Or.inl ⟨by rfl, ?_⟩) hHeld (fun hClosed => ?_)
  rotate_left
  · intro wv hSw; go_simp; all_goals (with_reducible rfl)
  (try simp only [List.getElem_toArray, List.getElem_cons_succ, List.getElem_cons_zero, put_at, List.set])
  refine wpAnyL_one (i := 8) rfl (by kernel_rfl) (by kernel_rfl) hClosed (fun KK hK => ?_)
  go_simp
  refine (rmonths_at _).mono ?_
  rintro e wq ⟨bm, rfl, hbx, hbq⟩
  rw [show monR.size = 13 from rfl]
  go_wp2_with fail
  refine hK.out _ _ ?_ (fun hClosed hHeld => ?_)
  · exact ⟨hHeld.1.later hbq, hHeld.2.trans (hbq.mono hHeld.2.size)⟩
  clear hK KK
  (first | simp only [List.getElem_toArray, List.getElem_cons_succ, List.getElem_cons_zero, put_at, List.set] | (try simp only [put_at, List.set]))
  refine wpAnyL_take (i := 11) (v := ?_) rfl (by kernel_rfl) (by kernel_rfl) (by kernel_rfl) (by kernel_rfl) (fun _ _ _ h => h) (by kernel_rfl) hClosed (Or.inl ⟨by rfl, ?_⟩) hHeld (fun hClosed => ?_)
  rotate_left
  · intro wv hSw; go_simp; all_goals (with_reducible rfl)
  (try simp only [List.getElem_toArray, List.getElem_cons_succ, List.getElem_cons_zero, put_at, List.set])
  refine wpAnyL_two (i := 12) (j := 18) rfl rfl (by kernel_rfl) (by kernel_rfl) (by kernel_rfl) hClosed (fun KK hK => ?_) (fun KK hK => ?_)
  · have cm := hbx.cell J
    rw [G2.out] at cm
    go_simp
    refine hK.out _ _ ?_ (fun hClosed hHeld => ?_)
    · exact hHeld
    clear hK KK
    (first | simp only [List.getElem_toArray, List.getElem_cons_succ, List.getElem_cons_zero, put_at, List.set] | (try simp only [put_at, List.set]))
    refine wpAnyL_take (i := 13) (v := ?_) rfl (by kernel_rfl) (by kernel_rfl) (by kernel_rfl) (by kernel_rfl) (fun _ _ _ h => h) (by kernel_rfl) hClosed (Or.inl ⟨by rfl, ?_⟩) hHeld (fun hClosed => ?_)
    rotate_left
    · intro wv hSw; go_simp; all_goals (with_reducible rfl)
    (try simp only [List.getElem_toArray, List.getElem_cons_succ, List.getElem_cons_zero, put_at, List.set])
    refine wpAnyL_take (i := 14) (v := ?_) rfl (by kernel_rfl) (by kernel_rfl) (by kernel_rfl) (by kernel_rfl) (fun _ _ _ h => h) (by kernel_rfl) hClosed (Or.inl ⟨by rfl, ?_⟩) hHeld (fun hClosed => ?_)
    rotate_left
    · intro wv hSw; go_simp; all_goals (with_reducible rfl)
    (try simp only [List.getElem_toArray, List.getElem_cons_succ, List.getElem_cons_zero, put_at, List.set])
    refine wpAnyL_one (i := 18) rfl (by kernel_rfl) (by kernel_rfl) hClosed (fun KK hK => ?_)
    go_simp
    refine (PY.out _).mono ?_
    rintro e wq ⟨rfl, hbq⟩
    go_wp2_with fail
    refine hK.out _ _ ?_ (fun hClosed hHeld => ?_)
    · exact ⟨hHeld.1.later hbq, hHeld.2.trans (hbq.mono hHeld.2.size)⟩
    clear hK KK
    (first | simp only [List.getElem_toArray, List.getElem_cons_succ, List.getElem_cons_zero, put_at, List.set] | (try simp only [put_at, List.set]))
    refine wpAnyL_take (i := 19) (v := ?_) rfl (by kernel_rfl) (by kernel_rfl) (by kernel_rfl) (by kernel_rfl) (fun _ _ _ h => h) (by kernel_rfl) hClosed (Or.inl ⟨by rfl, ?_⟩) hHeld (fun hClosed => ?_)
    rotate_left
    · intro wv hSw; go_simp; all_goals (with_reducible rfl)
    (try simp only [List.getElem_toArray, List.getElem_cons_succ, List.getElem_cons_zero, put_at, List.set])
    refine wpAnyL_take (i := 20) (v := ?_) rfl (by kernel_rfl) (by kernel_rfl) (by kernel_rfl) (by kernel_rfl) (fun _ _ _ h => h) (by kernel_rfl) hClosed (Or.inl ⟨by rfl, ?_⟩) hHeld (fun hClosed => ?_)
    rotate_left
    · intro wv hSw; go_simp; all_goals (with_reducible rfl)
    (try simp only [List.getElem_toArray, List.getElem_cons_succ, List.getElem_cons_zero, put_at, List.set])
    refine wpAnyL_one (i := 22) rfl (by kernel_rfl) (by kernel_rfl) hClosed (fun KK hK => ?_)
    go_simp
    refine (CK.out _).mono ?_
    rintro e wq ⟨rfl, hbq⟩
    go_wp2_with fail
    refine hK.out _ _ ?_ (fun hClosed hHeld => ?_)
    · exact ⟨hHeld.1.later hbq, hHeld.2.trans (hbq.mono hHeld.2.size)⟩
    clear hK KK
    (first | simp only [List.getElem_toArray, List.getElem_cons_succ, List.getElem_cons_zero, put_at, List.set] | (try simp only [put_at, List.set]))
    refine wpAnyL_take (i := 23) (v := ?_) rfl (by kernel_rfl) (by kernel_rfl) (by kernel_rfl) (by kernel_rfl) (fun _ _ _ h => h) (by kernel_rfl) hClosed (Or.inl ⟨by rfl, ?_⟩) hHeld (fun hClosed => ?_)
    rotate_left
    · intro wv hSw; go_simp; all_goals (with_reducible rfl)
    (try simp only [List.getElem_toArray, List.getElem_cons_succ, List.getElem_cons_zero, put_at, List.set])
    refine wpAnyL_take (i := 24) (v := ?_) rfl (by kernel_rfl) (by kernel_rfl) (by kernel_rfl) (by kernel_rfl) (fun _ _ _ h => h) (by kernel_rfl) hClosed (Or.inl ⟨by rfl, ?_⟩) hHeld (fun hClosed => ?_)
    rotate_left
    · intro wv hSw; go_simp; all_goals (with_reducible rfl)
    (try simp only [List.getElem_toArray, List.getElem_cons_succ, List.getElem_cons_zero, put_at, List.set])
    refine wpAnyL_last rfl (by kernel_rfl) (by kernel_rfl) (fun KK hK => ?_)
    go_simp
    refine hK.out _ _ ?_
    (try simp only [put_at, List.set])
    go_wp2
    go_ret
    exact ⟨rfl, hHeld.2⟩
  · go_simp
    refine (PY.out _).mono ?_
    rintro e wq ⟨rfl, hbq⟩
    go_wp2_with fail
    refine hK.out _ _ ?_ (fun hClosed hHeld => ?_)
    · exact ⟨hHeld.1.later hbq, hHeld.2.trans (hbq.mono hHeld.2.size)⟩
    clear hK KK
    (first | simp only [List.getElem_toArray, List.getElem_cons_succ, List.getElem_cons_zero, put_at, List.set] | (try simp only [put_at, List.set]))
    replace hbx := hbx.later hbq
    refine wpAnyL_two (i := 12) (j := 22) rfl rfl (by kernel_rfl) (by kernel_rfl) (by kernel_rfl) hClosed (fun KK hK => ?_) (fun KK hK => ?_)
    · have cm := hbx.cell J
      rw [G2.out] at cm
      go_simp
      refine hK.out _ _ ?_ (fun hClosed hHeld => ?_)
      · exact hHeld
      clear hK KK
      (first | simp only [List.getElem_toArray, List.getElem_cons_succ, List.getElem_cons_zero, put_at, List.set] | (try simp only [put_at, List.set]))
      refine wpAnyL_take (i := 13) (v := ?_) rfl (by kernel_rfl) (by kernel_rfl) (by kernel_rfl) (by kernel_rfl) (fun _ _ _ h => h) (by kernel_rfl) hClosed (Or.inl ⟨by rfl, ?_⟩) hHeld (fun hClosed => ?_)
      rotate_left
      · intro wv hSw; go_simp; all_goals (with_reducible rfl)
      (try simp only [List.getElem_toArray, List.getElem_cons_succ, List.getElem_cons_zero, put_at, List.set])
      refine wpAnyL_take (i := 14) (v := ?_) rfl (by kernel_rfl) (by kernel_rfl) (by kernel_rfl) (by kernel_rfl) (fun _ _ _ h => h) (by kernel_rfl) hClosed (Or.inl ⟨by rfl, ?_⟩) hHeld (fun hClosed => ?_)
      rotate_left
      · intro wv hSw; go_simp; all_goals (with_reducible rfl)
      (try simp only [List.getElem_toArray, List.getElem_cons_succ, List.getElem_cons_zero, put_at, List.set])
      refine wpAnyL_take (i := 19) (v := ?_) rfl (by kernel_rfl) (by kernel_rfl) (by kernel_rfl) (by kernel_rfl) (fun _ _ _ h => h) (by kernel_rfl) hClosed (Or.inl ⟨by rfl, ?_⟩) hHeld (fun hClosed => ?_)
      rotate_left
      · intro wv hSw; go_simp; all_goals (with_reducible rfl)
      (try simp only [List.getElem_toArray, List.getElem_cons_succ, List.getElem_cons_zero, put_at, List.set])
      refine wpAnyL_take (i := 20) (v := ?_) rfl (by kernel_rfl) (by kernel_rfl) (by kernel_rfl) (by kernel_rfl) (fun _ _ _ h => h) (by kernel_rfl) hClosed (Or.inl ⟨by rfl, ?_⟩) hHeld (fun hClosed => ?_)
      rotate_left
      · intro wv hSw; go_simp; all_goals (with_reducible rfl)
      (try simp only [List.getElem_toArray, List.getElem_cons_succ, List.getElem_cons_zero, put_at, List.set])
      refine wpAnyL_one (i := 22) rfl (by kernel_rfl) (by kernel_rfl) hClosed (fun KK hK => ?_)
      go_simp
      refine (CK.out _).mono ?_
      rintro e wq ⟨rfl, hbq⟩
      go_wp2_with fail
      refine hK.out _ _ ?_ (fun hClosed hHeld => ?_)
      · exact ⟨hHeld.1.later hbq, hHeld.2.trans (hbq.mono hHeld.2.size)⟩
      clear hK KK
      (first | simp only [List.getElem_toArray, List.getElem_cons_succ, List.getElem_cons_zero, put_at, List.set] | (try simp only [put_at, List.set]))
      refine wpAnyL_take (i := 23) (v := ?_) rfl (by kernel_rfl) (by kernel_rfl) (by kernel_rfl) (by kernel_rfl) (fun _ _ _ h => h) (by kernel_rfl) hClosed (Or.inl ⟨by rfl, ?_⟩) hHeld (fun hClosed => ?_)
      rotate_left
      · intro wv hSw; go_simp; all_goals (with_reducible rfl)
      (try simp only [List.getElem_toArray, List.getElem_cons_succ, List.getElem_cons_zero, put_at, List.set])
      refine wpAnyL_take (i := 24) (v := ?_) rfl (by kernel_rfl) (by kernel_rfl) (by kernel_rfl) (by kernel_rfl) (fun _ _ _ h => h) (by kernel_rfl) hClosed (Or.inl ⟨by rfl, ?_⟩) hHeld (fun hClosed => ?_)
      rotate_left
      · intro wv hSw; go_simp; all_goals (with_reducible rfl)
      (try simp only [List.getElem_toArray, List.getElem_cons_succ, List.getElem_cons_zero, put_at, List.set])
      refine wpAnyL_last rfl (by kernel_rfl) (by kernel_rfl) (fun KK hK => ?_)
      go_simp
      refine hK.out _ _ ?_
      (try simp only [put_at, List.set])
      go_wp2
      go_ret
      exact ⟨rfl, hHeld.2⟩
    · go_simp
      refine (CK.out _).mono ?_
      rintro e wq ⟨rfl, hbq⟩
      go_wp2_with fail
      refine hK.out _ _ ?_ (fun hClosed hHeld => ?_)
      · exact ⟨hHeld.1.later hbq, hHeld.2.trans (hbq.mono hHeld.2.size)⟩
      clear hK KK
      (first | simp only [List.getElem_toArray, List.getElem_cons_succ, List.getElem_cons_zero, put_at, List.set] | (try simp only [put_at, List.set]))
      replace hbx := hbx.later hbq
      refine wpAnyL_one (i := 12) rfl (by kernel_rfl) (by kernel_rfl) hClosed (fun KK hK => ?_)
      have cm := hbx.cell J
      rw [G2.out] at cm
      go_simp
      refine hK.out _ _ ?_ (fun hClosed hHeld => ?_)
      · exact hHeld
      clear hK KK
      (first | simp only [List.getElem_toArray, List.getElem_cons_succ, List.getElem_cons_zero, put_at, List.set] | (try simp only [put_at, List.set]))
      refine wpAnyL_take (i := 13) (v := ?_) rfl (by kernel_rfl) (by kernel_rfl) (by kernel_rfl) (by kernel_rfl) (fun _ _ _ h => h) (by kernel_rfl) hClosed (Or.inl ⟨by rfl, ?_⟩) hHeld (fun hClosed => ?_)
      rotate_left
      · intro wv hSw; go_simp; all_goals (with_reducible rfl)
      (try simp only [List.getElem_toArray, List.getElem_cons_succ, List.getElem_cons_zero, put_at, List.set])
      refine wpAnyL_take (i := 14) (v := ?_) rfl (by kernel_rfl) (by kernel_rfl) (by kernel_rfl) (by kernel_rfl) (fun _ _ _ h => h) (by kernel_rfl) hClosed (Or.inl ⟨by rfl, ?_⟩) hHeld (fun hClosed => ?_)
      rotate_left
      · intro wv hSw; go_simp; all_goals (with_reducible rfl)
      (try simp only [List.getElem_toArray, List.getElem_cons_succ, List.getElem_cons_zero, put_at, List.set])
      refine wpAnyL_take (i := 19) (v := ?_) rfl (by kernel_rfl) (by kernel_rfl) (by kernel_rfl) (by kernel_rfl) (fun _ _ _ h => h) (by kernel_rfl) hClosed (Or.inl ⟨by rfl, ?_⟩) hHeld (fun hClosed => ?_)
      rotate_left
      · intro wv hSw; go_simp; all_goals (with_reducible rfl)
      (try simp only [List.getElem_toArray, List.getElem_cons_succ, List.getElem_cons_zero, put_at, List.set])
      refine wpAnyL_take (i := 20) (v := ?_) rfl (by kernel_rfl) (by kernel_rfl) (by kernel_rfl) (by kernel_rfl) (fun _ _ _ h => h) (by kernel_rfl) hClosed (Or.inl ⟨by rfl, ?_⟩) hHeld (fun hClosed => ?_)
      rotate_left
      · intro wv hSw; go_simp; all_goals (with_reducible rfl)
      (try simp only [List.getElem_toArray, List.getElem_cons_succ, List.getElem_cons_zero, put_at, List.set])
      refine wpAnyL_take (i := 23) (v := ?_) rfl (by kernel_rfl) (by kernel_rfl) (by kernel_rfl) (by kernel_rfl) (fun _ _ _ h => h) (by kernel_rfl) hClosed (Or.inl ⟨by rfl, ?_⟩) hHeld (fun hClosed => ?_)
      rotate_left
      · intro wv hSw; go_simp; all_goals (with_reducible rfl)
      (try simp only [List.getElem_toArray, List.getElem_cons_succ, List.getElem_cons_zero, put_at, List.set])
      refine wpAnyL_take (i := 24) (v := ?_) rfl (by kernel_rfl) (by kernel_rfl) (by kernel_rfl) (by kernel_rfl) (fun _ _ _ h => h) (by kernel_rfl) hClosed (Or.inl ⟨by rfl, ?_⟩) hHeld (fun hClosed => ?_)
      rotate_left
      · intro wv hSw; go_simp; all_goals (with_reducible rfl)
      (try simp only [List.getElem_toArray, List.getElem_cons_succ, List.getElem_cons_zero, put_at, List.set])
      refine wpAnyL_last rfl (by kernel_rfl) (by kernel_rfl) (fun KK hK => ?_)
      go_simp
      refine hK.out _ _ ?_
      (try simp only [put_at, List.set])
      go_wp2
      go_ret
      exact ⟨rfl, hHeld.2⟩
end Go.Proofs.YtodibjpojfipoaaGreatDoor
namespace Go.Proofs.YtodibjpojfipoaaGreatDoor
open Go.RowKit
set_option linter.unusedVariables false
set_option linter.unusedSimpArgs false
set_option maxRecDepth 10000

theorem dayN_app (v : Int) (h0 : 0 ≤ v) (h : v < 7) (q : List Int) : nameS dayN 0 (dayN.getD v.toNat [] ++ q) = some (v, q) := by
  have hk : v = 0 ∨ v = 1 ∨ v = 2 ∨ v = 3 ∨ v = 4 ∨ v = 5 ∨ v = 6 := by omega
  rcases hk with rfl | rfl | rfl | rfl | rfl | rfl | rfl <;> rfl
theorem pad2_is (n : Nat) : padN 2 n = [((48 + n / 10 % 10 : Nat) : Int), ((48 + n % 10 : Nat) : Int)] := rfl
theorem spcS_day (d : Int) (h0 : 0 ≤ d) (h1 : d < 100) (q : List Int) : spcS (dayL d ++ q) = some (d, q) := by
  unfold dayL
  by_cases h : d < 10
  · rw [if_pos h, List.append_assoc, spcS_one (cutS_app [32] _), numS_pad 1 d q h0 (by omega)]
  · rw [if_neg h]
    have hc : cutS [32] (padN 2 d.toNat ++ q) = none := cutS_no (fun r e => by
      rw [pad2_is] at e
      simp only [List.cons_append, List.nil_append, List.cons.injEq] at e
      omega)
    rw [spcS_two hc, numS_pad 2 d q h0 (by omega), Option.bind_some]
    dsimp only
    rw [if_neg h]
theorem spcP_third (m : Mo) (hm : MoOk m) : spcP (thirdL m) = some m := by
  unfold spcP thirdL
  simp only [List.append_assoc]
  rw [dayH_app m.wd hm.wd.1 hm.wd.2]
  rw [Option.bind_some]
  try dsimp only
  rw [markS_app]
  rw [Option.bind_some]
  try dsimp only
  rw [monN_app m.mo hm.mo.1 hm.mo.2]
  rw [Option.bind_some]
  try dsimp only
  rw [markS_app]
  rw [Option.bind_some]
  try dsimp only
  rw [spcS_day m.d hm.d.1 hm.d.2]
  rw [Option.bind_some]
  try dsimp only
  rw [markS_app]
  rw [Option.bind_some]
  try dsimp only
  rw [clkS_app m hm.clk]
  rw [Option.bind_some]
  try dsimp only
  rw [markS_app]
  rw [Option.bind_some]
  try dsimp only
  rw [show numS 4 (padN 4 m.y.toNat) = some (m.y, []) from by have := numS_pad 4 m.y [] hm.y.1 (by have := hm.y.2; omega); rwa [List.append_nil] at this]
  rfl
theorem third_fix (m : Mo) (hm : MoOk m) : fixP (thirdL m) = none := by
  unfold fixP thirdL
  simp only [List.append_assoc]
  rw [dayH_app m.wd hm.wd.1 hm.wd.2]
  rfl
theorem third_dash (fy : Int → Int) (m : Mo) (hm : MoOk m) : dashP fy (thirdL m) = none := by
  unfold dashP thirdL
  simp only [List.append_assoc]
  have h0 := hm.wd.1
  have h1 := hm.wd.2
  obtain ⟨wd, y, mo, d, h, mi, s⟩ := m
  dsimp only at h0 h1 ⊢
  have hk : wd = 0 ∨ wd = 1 ∨ wd = 2 ∨ wd = 3 ∨ wd = 4 ∨ wd = 5 ∨ wd = 6 := by omega
  rcases hk with rfl | rfl | rfl | rfl | rfl | rfl | rfl <;> rfl
theorem dash_second (fy : Int → Int) (m : Mo) (hm : MoOk m) : dashP fy (secondL m) = some ⟨m.wd, fy (m.y % 100), m.mo, m.d, m.h, m.mi, m.s⟩ := by
  unfold dashP secondL
  simp only [List.append_assoc]
  rw [dayN_app m.wd hm.wd.1 hm.wd.2]
  rw [Option.bind_some]
  try dsimp only
  rw [markS_app]
  rw [Option.bind_some]
  try dsimp only
  rw [numS_pad 2 m.d _ hm.d.1 (by have := hm.d.2; omega)]
  rw [Option.bind_some]
  try dsimp only
  rw [markS_app]
  rw [Option.bind_some]
  try dsimp only
  rw [monN_app m.mo hm.mo.1 hm.mo.2]
  rw [Option.bind_some]
  try dsimp only
  rw [markS_app]
  rw [Option.bind_some]
  try dsimp only
  rw [numS_pad 2 (m.y % 100) _ (by omega) (by omega)]
  rw [Option.bind_some]
  try dsimp only
  rw [markS_app]
  rw [Option.bind_some]
  try dsimp only
  rw [clkS_app m hm.clk]
  rw [Option.bind_some]
  try dsimp only
  rw [show markS [32, 71, 77, 84] [32, 71, 77, 84] = some ((), []) from rfl]
  rfl
theorem second_fix (m : Mo) (hm : MoOk m) : fixP (secondL m) = none := by
  unfold fixP secondL
  simp only [List.append_assoc]
  have h0 := hm.wd.1
  have h1 := hm.wd.2
  obtain ⟨wd, y, mo, d, h, mi, s⟩ := m
  dsimp only at h0 h1 ⊢
  have hk : wd = 0 ∨ wd = 1 ∨ wd = 2 ∨ wd = 3 ∨ wd = 4 ∨ wd = 5 ∨ wd = 6 := by omega
  rcases hk with rfl | rfl | rfl | rfl | rfl | rfl | rfl <;> rfl
theorem dayN_len (v : Int) (h0 : 0 ≤ v) (h : v < 7) : 6 ≤ (dayN.getD v.toNat []).length ∧ (dayN.getD v.toNat []).length ≤ 9 ∧ Byts (dayN.getD v.toNat []) ∧ 44 ∉ dayN.getD v.toNat [] := by
  have hk : v = 0 ∨ v = 1 ∨ v = 2 ∨ v = 3 ∨ v = 4 ∨ v = 5 ∨ v = 6 := by omega
  rcases hk with rfl | rfl | rfl | rfl | rfl | rfl | rfl <;> exact ⟨by decide, by decide, by unfold Byts; decide, by decide⟩
theorem second_byts {m : Mo} (hm : MoOk m) : Byts (secondL m) := by
  unfold secondL
  have h1 := (dayN_len m.wd hm.wd.1 hm.wd.2).2.2.1
  have h2 := (monN_len m.mo hm.mo.1 hm.mo.2).2
  have e1 : Byts [44, 32] := by unfold Byts; decide
  have e2 : Byts [32] := by unfold Byts; decide
  have e3 : Byts [45] := by unfold Byts; decide
  have e4 : Byts [32, 71, 77, 84] := by unfold Byts; decide
  exact (((((((((h1.append e1).append (padN_byts 2 _)).append e3).append h2).append e3).append (padN_byts 2 _)).append e2).append (clk_byts m)).append e4)
theorem third_byts {m : Mo} (hm : MoOk m) : Byts (thirdL m) := by
  unfold thirdL
  have h1 := (dayH_len m.wd hm.wd.1 hm.wd.2).2
  have h2 := (monN_len m.mo hm.mo.1 hm.mo.2).2
  have e2 : Byts [32] := by unfold Byts; decide
  exact ((((((((h1.append e2).append h2).append e2).append (dayL_byts _)).append e2).append (clk_byts m)).append e2).append (padN_byts 4 _))
theorem second_len {m : Mo} (hm : MoOk m) : (secondL m).length = (dayN.getD m.wd.toNat []).length + 24 := by
  unfold secondL clkL
  simp only [List.length_append, padN_len, (monN_len m.mo hm.mo.1 hm.mo.2).1, List.length_cons, List.length_nil]
theorem third_len {m : Mo} (hm : MoOk m) : (thirdL m).length = 24 := by
  unfold thirdL clkL
  simp only [List.length_append, padN_len, dayL_len, (dayH_len m.wd hm.wd.1 hm.wd.2).1, (monN_len m.mo hm.mo.1 hm.mo.2).1, List.length_cons, List.length_nil]
theorem par_third {m : Mo} (hm : MoOk m) (Y : Int) : parI Y (thirdL m) = secI m := parI_spc (third_fix m hm) (third_dash _ m hm) (spcP_third m hm)
theorem par_second {m : Mo} (hm : MoOk m) (Y : Int) : parI Y (secondL m) = secI ⟨m.wd, fyI Y (m.y % 100), m.mo, m.d, m.h, m.mi, m.s⟩ := parI_dash (second_fix m hm) (dash_second _ m hm)
end Go.Proofs.YtodibjpojfipoaaGreatDoor
