/- What no table answers. -/
import Derived.Test.YthoakigbjhlababInternLaws
namespace Go.Proofs.Ythoakigbjhlabab
open Go.RowKit Go.Maps Go.WideMaps

set_option maxHeartbeats 400000 in
theorem internNone_walk (s : ByteArray) (n : Int) (w : World) (hs : s.size ≤ maxLen) (_ : (Lit.int .i64 n).wf = true) : Calls Try.prog 4 #[.string s, .int .i64 n] w fun e w' => e = .returned (.bool true) ∧ Below w.heap.size w w' := by
  go_enter Try.func4, Try.ntmps4
  go_wp2_with (first
    | (go_at_call 16; refine (awake06 _).mono ?_; rintro e w9 ⟨rfl, b9⟩)
    | (go_at_call 13; refine (add_new t0 b0.size s hs (by simp) (by decide) (by decide)).mono ?_; rintro e w2 ⟨rfl, a1, cap1, t1, _, b1, _⟩)
    | (go_at_call 15; refine (name_low t1 (-1) (by decide)).mono ?_; rintro e w3 ⟨rfl, rfl⟩)
    | (go_at_call 13; refine (add_none s _).mono ?_; rintro e w0 ⟨rfl, rfl⟩)
    | (go_at_call 12; refine (find_none s _).mono ?_; rintro e w0 ⟨rfl, rfl⟩)
    | (go_at_call 15; refine (name_none n _).mono ?_; rintro e w0 ⟨rfl, rfl⟩)
    | (go_at_call 14; refine (len_none _).mono ?_; rintro e w0 ⟨rfl, rfl⟩)
    | (go_at_call 11; refine (new_table 5 _).mono ?_; rintro e w1 ⟨rfl, t0, b0⟩)
    | go_in)
  all_goals go_ret
  all_goals exact ⟨rfl, (b0.trans b1).trans (b9.mono (b0.trans b1).size)⟩
end Go.Proofs.Ythoakigbjhlabab
