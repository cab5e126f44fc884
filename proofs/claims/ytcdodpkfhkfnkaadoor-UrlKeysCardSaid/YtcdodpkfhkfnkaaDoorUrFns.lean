/- Names, ports, what is ahead of a sign, the scheme, name and port: the program's functions. -/
import Derived.Test.YtcdodpkfhkfnkaaDoorUrAny
import Derived.Test.YtcdodpkfhkfnkaaDoorUrEachN
import Derived.Laws.EntriesVeiled
namespace Go.Proofs.YtcdodpkfhkfnkaaDoor
open Go.RowKit
set_option linter.unusedVariables false
set_option linter.unusedSimpArgs false
set_option maxRecDepth 10000

theorem box_new_at {w : World} {cs : Array Value} {t : TypeId} {b : Nat} (h : b = w.heap.size) : Box (w.alloc (.cells cs t)) b cs t := by subst h; exact Box.new w cs t
theorem below_grown {B g : Nat} {w w' : World} (h : w.grownBy w' (some g)) (hB : B ≤ w.heap.size) (hg : B ≤ g) : Below B w w' :=
  (Below.refl _ _).grown h hB (fun k hk => by injection hk with hk; omega)
set_option maxHeartbeats 2000000 in
theorem isName_at (s : ByteArray) (b : Bool) (hb : nmOk (btL s) = b) (hs : s.size ≤ 100000) (w : World) :
    Calls Tryd.prog 83 #[.string s] w fun e w' => e = .returned (.bool b) ∧ Below w.heap.size w w' := by
  have HB := Lib.hid hb
  clear hb
  go_enter Tryd.func83, Tryd.ntmps83
  go_wp2_with fail
  refine calls_forget (fun w1 => Hid (Box w1 w.heap.size #[.int .i64 ((0 : Nat) : Int)] 3) ∧ Hid (Box w1 (w.heap.size + 1) #[.int .i32 46] 21) ∧ Hid (Box w1 (w.heap.size + 2) #[.func (.func 109) #[] #[.pointer (some ⟨w.heap.size, 0, none⟩), .pointer (some ⟨w.heap.size + 1, 0, none⟩)]] 27) ∧ w.heap.size + 2 < w1.heap.size ∧ Hid (Below w.heap.size w w1)) ?_ ?_
  · refine ⟨Lib.hid ?_, Lib.hid ?_, Lib.hid ?_, by simp, Lib.hid ?_⟩
    · exact ((Box.new w _ _).alloc _).alloc _
    · exact (box_new_at (by simp)).alloc _
    · exact box_new_at (by simp)
    · exact (((Below.refl _ _).alloc (Nat.le_refl _) _).alloc (by simp) _).alloc (by simp; omega) _
  · rintro w1 ⟨B1, B2, B3, sz, bel⟩
    refine (each_name s w.heap.size (w.heap.size + 2) w.heap.size (w.heap.size + 1) w1 (by omega) (by omega) (by omega) (by omega) (by omega) (by omega) (by omega) (by omega) B1.out B2.out B3.out).mono ?_
    rintro e w2 ⟨n, c, x, rfl, c1, c2, c3, c4, hx⟩
    clear B1 B2 B3
    have k0 : w2.cell? ⟨w.heap.size + 2, 0, none⟩ = some (.func (.func 109) #[] #[.pointer (some ⟨w.heap.size, 0, none⟩), .pointer (some ⟨w.heap.size + 1, 0, none⟩)]) := by rw [c3.cell 0]; rfl
    have C1 := Lib.hid c1
    have C2 := Lib.hid c2
    have C4 := Lib.hid (bel.out.trans c4)
    have HX := Lib.hid hx
    clear c1 c2 c3 c4 hx bel
    cases x with
    | false =>
      have HE : Hid (false = b) := Lib.hid (by rw [← HB.out]; unfold nmOk; rw [HX.out, Bool.false_and, Bool.false_and])
      go_wp2
      go_ret
      rw [← HE.out]
      exact ⟨rfl, C4.out⟩
    | true =>
      obtain ⟨y, hy⟩ : ∃ y, (decide (0 < n) && decide (c ≠ 45)) = y := ⟨_, rfl⟩
      have HY := Lib.hid hy
      have HE : Hid ((y && decide (s.size ≤ 100)) = b) := Lib.hid (by rw [← HB.out]; unfold nmOk; rw [HX.out, Bool.true_and, hy, btL_length])
      clear hy
      go_wp2_with fail
      refine (ended_at n c w.heap.size (w.heap.size + 1) y _ HY.out C1.out C2.out).mono ?_
      rintro e w3 ⟨rfl, hw⟩
      subst w3
      cases y with
      | false =>
        have HE2 : Hid (false = b) := Lib.hid (by rw [← HE.out, Bool.false_and])
        go_wp2
        go_ret
        rw [← HE2.out]
        exact ⟨rfl, C4.out⟩
      | true =>
        by_cases hz : s.size ≤ 100
        · have d : decide ((s.size : Int) ≤ 100) = true := decide_eq_true (by omega)
          have HE2 : Hid (true = b) := Lib.hid (by rw [← HE.out, decide_eq_true hz]; rfl)
          go_wp2
          go_ret
          rw [← HE2.out]
          exact ⟨rfl, C4.out⟩
        · have d : decide ((s.size : Int) ≤ 100) = false := decide_eq_false (by omega)
          have HE2 : Hid (false = b) := Lib.hid (by rw [← HE.out, decide_eq_false hz]; rfl)
          go_wp2
          go_ret
          rw [← HE2.out]
          exact ⟨rfl, C4.out⟩
def PortO (p : Int) (w : World) (e : Ending) (w' : World) : Prop := ∃ (v : Int), e = .returned (.tuple #[.int .i64 v, .bool (decide (p ≠ 0))]) ∧ (p ≠ 0 → v = p) ∧ Below w.heap.size w w'
set_option maxHeartbeats 2000000 in
theorem parsePort_at (s : ByteArray) (p : Int) (hp : portD (btL s) = p) (w : World) :
    Calls Tryd.prog 84 #[.string s] w (PortO p w) := by
  have HP := Lib.hid hp
  clear hp
  go_enter Tryd.func84, Tryd.ntmps84
  go_wp2_with fail
  refine (each_port s w.heap.size _ (Box.new w _ _)).mono ?_
  rintro e w2 ⟨v, x, rfl, c1, c2, hx, v0⟩
  have k0 : w2.cell? ⟨w.heap.size, 0, none⟩ = some (.int .i64 v) := by rw [c1.cell 0]; rfl
  have C2 : Hid (Below w.heap.size w w2) := Lib.hid (((Below.refl _ _).alloc (Nat.le_refl _) _).trans (below_grown c2 (by simp) (Nat.le_refl _)))
  have HX := Lib.hid hx
  clear c1 c2 hx
  cases x with
  | false =>
    have HE : Hid (p = 0) := Lib.hid (by rw [← HP.out, ← port_same, HX.out]; rfl)
    go_wp2
    go_quiet (fail)
    go_wp2
    go_ret2
    rw [HE.out]
    exact ⟨v, rfl, fun h => absurd rfl h, below_drewN C2.out _⟩
  | true =>
    have HE : Hid (p = v) := Lib.hid (by rw [← HP.out, ← port_same, HX.out]; rfl)
    by_cases h0 : 0 < v
    · have d : decide ((0 : Int) < v) = true := decide_eq_true h0
      go_wp2
      go_quiet (fail)
      go_wp2
      go_ret2
      rw [HE.out]
      exact ⟨v, by rw [decide_eq_true (show v ≠ 0 by omega)]; rfl, fun _ => rfl, below_drewN C2.out _⟩
    · have d : decide ((0 : Int) < v) = false := decide_eq_false h0
      have hv : Hid (v = 0) := Lib.hid (by omega)
      go_wp2
      go_quiet (fail)
      go_wp2
      go_ret2
      rw [HE.out, hv.out]
      exact ⟨0, rfl, fun h => absurd rfl h, below_drewN C2.out _⟩
/-- What is ahead of a sign, and the rest. -/
theorem splitB_ends (s : ByteArray) (k : Nat) (hk : k ≤ s.size) : s.extract 0 k = strL ((btL s).take k) ∧ s.extract k s.size = strL ((btL s).drop k) := by
  constructor
  · rw [← strL_btL (s.extract 0 k), btL_extract]
    simp
  · rw [← strL_btL (s.extract k s.size), btL_extract, List.take_of_length_le (by simp)]
set_option maxHeartbeats 2000000 in
theorem splitBefore_of (s q : ByteArray) (k : Nat) (v : Int) (hv : (if k < s.size then (k : Int) else -1) = v) (hk : k ≤ s.size) (hs : s.size ≤ 100000) (w : World)
    (hc : ∀ W : World, Calls Tryd.prog 82 #[.string s, .string q] W fun e w' => e = .returned (.int .i64 v) ∧ Below W.heap.size W w') :
    Calls Tryd.prog 50 #[.string s, .string q] w fun e w' => e = .returned (.tuple #[.string (strL ((btL s).take k)), .string (strL ((btL s).drop k))]) ∧ Below w.heap.size w w' := by
  have HC := Lib.hid hc
  obtain ⟨e1, e2⟩ := splitB_ends s k hk
  have E1 := Lib.hid e1
  have E2 := Lib.hid e2
  clear hc e1 e2
  by_cases h : k < s.size
  · rw [if_pos h] at hv
    subst hv
    go_enter Tryd.func50, Tryd.ntmps50
    go_wp2_with fail
    refine (HC.out _).mono ?_
    rintro e w1 ⟨rfl, hb⟩
    have HB := Lib.hid hb
    clear hb
    have i0 : (0 : Int) ≤ (k : Int) := by omega
    have i1 : (k : Int) ≤ (s.size : Int) := by omega
    go_wp2
    go_quiet (fail)
    go_wp2
    go_ret2
    rw [← E1.out, ← E2.out]
    exact ⟨rfl, below_drewN HB.out _⟩
  · rw [if_neg h] at hv
    subst hv
    obtain rfl : k = s.size := by omega
    have E3 : Hid (s = strL ((btL s).take s.size)) := Lib.hid (by rw [List.take_of_length_le (by simp), strL_btL])
    have E4 : Hid ((⟨#[]⟩ : ByteArray) = strL ((btL s).drop s.size)) := Lib.hid (by rw [List.drop_eq_nil_of_le (by simp)]; rfl)
    clear E1 E2
    go_enter Tryd.func50, Tryd.ntmps50
    go_wp2_with fail
    refine (HC.out _).mono ?_
    rintro e w1 ⟨rfl, hb⟩
    have HB := Lib.hid hb
    clear hb
    go_wp2
    go_ret2
    rw [← E3.out, ← E4.out]
    exact ⟨rfl, HB.out⟩
theorem split3_at (s : ByteArray) (k : Nat) (hk : fndI stopsI (btL s) = k) (hs : s.size ≤ 100000) (w : World) :
    Calls Tryd.prog 50 #[.string s, .string ⟨#[47, 63, 35]⟩] w fun e w' => e = .returned (.tuple #[.string (strL ((btL s).take k)), .string (strL ((btL s).drop k))]) ∧ Below w.heap.size w w' :=
  splitBefore_of s _ k _ rfl (by have := fndI_le stopsI (btL s); rw [btL_length] at this; omega) hs w (fun W => iany_at s k _ hk rfl hs W)
theorem split1_at (s : ByteArray) (k : Nat) (hk : fndI [35] (btL s) = k) (hs : s.size ≤ 100000) (w : World) :
    Calls Tryd.prog 50 #[.string s, .string ⟨#[35]⟩] w fun e w' => e = .returned (.tuple #[.string (strL ((btL s).take k)), .string (strL ((btL s).drop k))]) ∧ Below w.heap.size w w' :=
  splitBefore_of s _ k _ rfl (by have := fndI_le [35] (btL s); rw [btL_length] at this; omega) hs w (fun W => iany_mark s k _ hk rfl W)
end Go.Proofs.YtcdodpkfhkfnkaaDoor
