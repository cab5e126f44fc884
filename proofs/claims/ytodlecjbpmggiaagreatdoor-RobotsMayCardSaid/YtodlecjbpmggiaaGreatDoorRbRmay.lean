/- The document's own May. -/
import Derived.Test.YtodlecjbpmggiaaGreatDoorRbAwk
namespace Go.Proofs.YtodlecjbpmggiaaGreatDoor
open Go Go.RowKit
set_option linter.unusedVariables false
set_option linter.unusedSimpArgs false
set_option maxRecDepth 10000

set_option maxHeartbeats 4000000 in
theorem rmay_at (all no : Bool) (rs : List Rl) (a : Option Addr) (n cap : Nat) (d : Int) (path : ByteArray) (b : Bool) (hb : b = true ↔ mayP all no rs path) (w : World) (hlen : rs.length = n) (hr : RdR w a rs) (hl : n ≤ 1000) (hsz : ∀ r ∈ rs, r.pat.size ≤ 10000) (hps : path.size ≤ 10000) :
    Calls Tryz.prog 11 #[.agg #[.bool all, .bool no, .slice a n cap, .int .i64 d], .string path] w fun e w' => e = .returned (.bool b) ∧ Below w.heap.size w w' := by
  have AL : Hid (∀ c : Bool, (c = true ↔ allowP rs (nfB path)) → ∀ W, Below w.heap.size w W → Calls Tryz.prog 22 #[.slice a n cap, .string path] W fun e w' => e = .returned (.bool c) ∧ Below W.heap.size W w') := Lib.hid (fun c hc W hW => rallowed_at rs a n cap path (nfB path) c rfl hc W hlen (hr.later hW) hl hsz hps)
  have HB := Lib.hid hb
  have BX := Lib.hid (Box.new w #[.bool all, .bool no, .slice a n cap, .int .i64 d] 26)
  have BB := Lib.hid ((Below.refl w.heap.size w).alloc (Nat.le_refl _) (.cells #[.bool all, .bool no, .slice a n cap, .int .i64 d] 26))
  clear hr hsz hlen hb
  go_enter Tryz.func11, Tryz.ntmps11
  go_upto_region 1 with fail
  obtain ⟨w1, hw1⟩ : ∃ W, w.alloc (.cells #[.bool all, .bool no, .slice a n cap, .int .i64 d] 26) = W := ⟨_, rfl⟩
  rw [hw1] at BX BB
  rw [hw1]
  clear hw1
  have c0 := BX.out.cell 0
  have c1 := BX.out.cell 1
  have c2 := BX.out.cell 2
  have lt := BX.out.lt
  obtain ⟨q, hq⟩ : ∃ q : Bool, isRob path = q := ⟨_, rfl⟩
  have HQ := Lib.hid hq
  unfold isRob at hq
  cases q with
  | true =>
    have hbt : b = true := HB.out.2 (Or.inl HQ.out)
    subst hbt
    go_wp2
    go_ret
    exact ⟨rfl, BB.out⟩
  | false =>
    cases all with
    | true =>
      have hbt : b = true := HB.out.2 (Or.inr (Or.inl rfl))
      subst hbt
      go_wp2
      go_ret
      exact ⟨rfl, BB.out⟩
    | false =>
      cases no with
      | true =>
        have hbt : b = false := by
          cases b with
          | false => rfl
          | true =>
            rcases HB.out.1 rfl with h | h | h
            · rw [HQ.out] at h; cases h
            · cases h
            · cases h.1
        subst hbt
        go_wp2
        go_ret
        exact ⟨rfl, BB.out⟩
      | false =>
        have A1 := Lib.hid (AL.out b (HB.out.trans ⟨fun h => by
          rcases h with h | h | h
          · rw [HQ.out] at h; cases h
          · cases h
          · exact h.2, fun h => Or.inr (Or.inr ⟨rfl, h⟩)⟩))
        clear AL HB
        go_wp2_with fail
        refine (A1.out _ BB.out).mono ?_
        rintro e w2 ⟨rfl, hb2⟩
        have B2 := Lib.hid (BB.out.trans (hb2.mono BB.out.size))
        clear hb2
        go_wp2
        go_ret
        exact ⟨rfl, B2.out⟩
end Go.Proofs.YtodlecjbpmggiaaGreatDoor
