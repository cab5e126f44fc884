/- RobotsReads: the walk. -/
import Derived.Test.YtodlecjbpmggiaaGreatDoorRbRrd
import Derived.Test.YtodlecjbpmggiaaGreatDoorRbSame
namespace Go.Proofs.YtodlecjbpmggiaaGreatDoor
open Go Go.RowKit
set_option linter.unusedVariables false
set_option linter.unusedSimpArgs false
set_option maxRecDepth 10000

theorem readL_len (s : Int) (b a : List Int) : (readL s b a).ru.length ≤ 64 := by
  have hm : ∀ gs, (mergeL gs).ru.length ≤ 64 := fun gs => by
    show (List.take 64 _).length ≤ 64
    rw [List.length_take]
    omega
  unfold readL
  split
  · unfold pickL
    split
    · exact hm _
    · exact hm _
  · split
    · exact Nat.zero_le _
    · exact Nat.zero_le _
set_option maxHeartbeats 4000000 in
theorem reads_tail (s : Int) (body agent : ByteArray) (hb : body.size ≤ 100000) (ha : agent.size ≤ 1000000000000000) (W : World) :
    ∃ ro : Rb, ro.ru.length ≤ 64 ∧ Calls Tryz.prog 8 #[.int .i64 s, .string body, .string agent] W (RoP W ro) ∧ ∀ W', Calls Tryz.prog 9 #[.int .i64 s, .string body, .string agent] W' (RoP W' ro) :=
  ⟨_, readL_len s (btL body) (btL agent), read_at s body agent hb ha W, fun W' => rread_at s body agent hb ha W'⟩
set_option maxHeartbeats 4000000 in
theorem robotsReads_walk (s : Int) (body agent : ByteArray) (w : World) (ws : (Lit.int .i64 s).wf = true) (hb : body.size ≤ 140737488351232) (ha : agent.size ≤ 140737488351232) (hT : TabsM w) :
    Calls Tryz.prog 3 #[.int .i64 s, .string body, .string agent] w fun e w' => e = .returned (.bool true) ∧ Below w.heap.size w w' := by
  have AW := Lib.hid (awake11 w hT)
  have RD := Lib.hid (fun (b2 : ByteArray) (h : b2.size ≤ 100000) W => reads_tail s b2 agent h (by omega) W)
  have SM := Lib.hid (fun (ro : Rb) (h : ro.ru.length ≤ 64) a1 a2 c1 c2 W h1 h2 => same_at ro.all ro.none_ ro.de ro.ru _ rfl (by omega) a1 a2 c1 c2 W h1 h2)
  clear hT ws
  go_enter Tryz.func3, Tryz.ntmps3
  go_upto_if 9 with fail
  go_cut [1] from 10 to 12 (fun v wx => ∃ b2 : ByteArray, v = .string b2 ∧ wx = w ∧ b2.size ≤ 100000)
  case first =>
    by_cases h : 3000 < body.size
    · have d1 : decide ((3000 : Int) < (body.size : Int)) = true := decide_eq_true (by omega)
      go_wp2
      go_meet
      exact ⟨_, rfl, rfl, by rw [ByteArray.size_extract]; omega⟩
    · have d1 : decide ((3000 : Int) < (body.size : Int)) = false := decide_eq_false (by omega)
      go_wp2
      go_meet
      exact ⟨_, rfl, rfl, by omega⟩
  case rest =>
    obtain ⟨b2, rfl, rfl, h2⟩ := hcut
    go_wp2_with fail
    refine AW.out.mono ?_
    rintro e w1 ⟨rfl, hb1⟩
    obtain ⟨ro, hlen, R1, R2⟩ := RD.out b2 h2 w1
    have B1 := Lib.hid hb1
    have R1 := Lib.hid R1
    have R2 := Lib.hid R2
    have SM := Lib.hid (SM.out ro hlen)
    clear hb1 AW RD
    go_wp2_with fail
    refine R1.out.mono ?_
    rintro e w2 ⟨a2, c2, rfl, r2, _, _, _, hb2⟩
    have Q2 := Lib.hid r2
    have B2 := Lib.hid (B1.out.trans (hb2.mono B1.out.size))
    obtain ⟨n, hn⟩ : ∃ n, ro.ru.length = n := ⟨_, rfl⟩
    rw [hn] at SM ⊢
    clear r2 hb2 B1 R1
    go_wp2_with fail
    refine (R2.out _).mono ?_
    rintro e w3 ⟨a3, c3, rfl, r3, _, _, _, hb3⟩
    have Q3 := Lib.hid r3
    have Q2 := Lib.hid (Q2.out.later hb3)
    have B3 := Lib.hid (B2.out.trans (hb3.mono B2.out.size))
    rw [hn]
    clear r3 hb3 B2 R2
    go_wp2_with fail
    refine (SM.out a2 a3 c2 c3 _ Q2.out Q3.out).mono ?_
    rintro e w4 ⟨rfl, hb4⟩
    go_wp2
    go_ret
    exact ⟨rfl, B3.out.trans (hb4.mono B3.out.size)⟩
end Go.Proofs.YtodlecjbpmggiaaGreatDoor
