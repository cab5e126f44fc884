/- What no heap answers. -/
import Derived.Test.YtdkghinjpnelhaaHeapUse
namespace Go.Proofs.Ytdkghinjpnelhaa
open Go.RowKit Go.Maps Go.WideMaps

theorem set_nil (id k : Int) (w : World) : Calls Try.prog 20 #[.pointer none, .int .i64 id, .int .i64 k] w fun e w' => e = .returned (.tuple #[]) ∧ w' = w := by
  go_enter Try.func20, Try.ntmps20
  go_wp2
  exact bodyPost_ret (v := .tuple #[]) (by simp [results, Try.results20, go_sem]) rfl ⟨rfl, rfl⟩
theorem min_nil (w : World) : Calls Try.prog 25 #[.pointer none] w fun e w' => e = .returned (.tuple #[.int .i64 0, .int .i64 0, .bool false]) ∧ w' = w := by
  go_enter Try.func25, Try.ntmps25
  go_wp2
  exact bodyPost_ret (v := .tuple #[.int .i64 0, .int .i64 0, .bool false]) (by simp [results, Try.results25, go_sem]) rfl ⟨rfl, rfl⟩
theorem key_nil (id : Int) (w : World) : Calls Try.prog 24 #[.pointer none, .int .i64 id] w fun e w' => e = .returned (.tuple #[.int .i64 0, .bool false]) ∧ w' = w := by
  go_enter Try.func24, Try.ntmps24
  go_wp2
  go_ret2
  exact ⟨rfl, rfl⟩
theorem drop_nil (id : Int) (w : World) : Calls Try.prog 21 #[.pointer none, .int .i64 id] w fun e w' => e = .returned (.bool false) ∧ w' = w := by
  go_enter Try.func21, Try.ntmps21
  go_wp2
  go_ret
  exact ⟨rfl, rfl⟩
theorem len_nil (w : World) : Calls Try.prog 23 #[.pointer none] w fun e w' => e = .returned (.int .i64 0) ∧ w' = w := by
  go_enter Try.func23, Try.ntmps23
  go_wp2
  go_ret
  exact ⟨rfl, rfl⟩
theorem work_nil (w : World) : Calls Try.prog 19 #[.pointer none] w fun e w' => e = .returned (.int .i64 0) ∧ w' = w := by
  go_enter Try.func19, Try.ntmps19
  go_wp2
  go_ret
  exact ⟨rfl, rfl⟩

set_option maxHeartbeats 400000 in
theorem heapNone_walk (id k : Int) (w : World) (_ : (Lit.int .i64 id).wf = true) (_ : (Lit.int .i64 k).wf = true) : Calls Try.prog 9 #[.int .i64 id, .int .i64 k] w fun e w' => e = .returned (.bool true) ∧ Below w.heap.size w w' := by
  go_enter Try.func9, Try.ntmps9
  go_wp2_with (first
    | (go_at_call 26; refine (awake12 _).mono ?_; rintro e w9 ⟨rfl, b9⟩)
    | (go_at_call 20; refine (set_nil id k _).mono ?_; rintro e w0 ⟨rfl, rfl⟩)
    | (go_at_call 25; refine (min_nil _).mono ?_; rintro e w0 ⟨rfl, rfl⟩)
    | (go_at_call 24; refine (key_nil id _).mono ?_; rintro e w0 ⟨rfl, rfl⟩)
    | (go_at_call 21; refine (drop_nil id _).mono ?_; rintro e w0 ⟨rfl, rfl⟩)
    | (go_at_call 23; refine (len_nil _).mono ?_; rintro e w0 ⟨rfl, rfl⟩)
    | (go_at_call 19; refine (work_nil _).mono ?_; rintro e w0 ⟨rfl, rfl⟩)
    | go_in)
  all_goals go_ret
  all_goals exact ⟨rfl, b9⟩
end Go.Proofs.Ytdkghinjpnelhaa
