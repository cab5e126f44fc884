/- Package heap: reading a heap, and writing one entry. -/
import Derived.Test.YtdkghinjpnelhaaHeapMem
namespace Go.Proofs.Ytdkghinjpnelhaa
open Go.RowKit Go.Maps Go.WideMaps

theorem new_heap (w : World) : Calls Try.prog 17 #[] w fun e w' =>
    e = .returned (.pointer (some ⟨w.heap.size + 1, 0, none⟩)) ∧ Hp w' w.heap.size (w.heap.size + 1) w.heap.size none 0 [] (fun _ => none) 0 0 ∧ Below w.heap.size w w' := by
  have hmm := @run_makeMap Try.prog
  go_enter Try.func17, Try.ntmps17
  go_wp2
  go_ret
  refine ⟨rfl, ⟨?_, ⟨.map [], (World.ownsMap_made _ _ _ _).alloc _, Told.none⟩, World.ownsRow_nil _ _ _ _, by simp, Nat.le_succ _, Nat.le_refl _, by omega, by simp⟩, ((Below.refl _ _).alloc (Nat.le_refl _) _).alloc (by simp) _⟩
  have := Box.new (w.alloc (.map #[] 0)) #[.slice none 0 0, .map (some w.heap.size), .int .i64 0] 66
  rw [World.size_alloc] at this
  exact this

section
variable {w : World} {B p bm : Nat} {a : Option Addr} {cap : Nat} {es : Ents} {f : Int → Option Nat} {N : Nat} {wk : Int}

theorem len_heap (h : Hp w B p bm a cap es f N wk) : Calls Try.prog 23 #[.pointer (some ⟨p, 0, none⟩)] w fun e w' => e = .returned (.int .i64 es.length) ∧ w' = w := by
  obtain ⟨l, c, f⟩ := h.box.facts
  clear h
  go_enter Try.func23, Try.ntmps23
  go_wp2
  go_ret
  exact ⟨rfl, rfl⟩
theorem work_heap (h : Hp w B p bm a cap es f N wk) : Calls Try.prog 19 #[.pointer (some ⟨p, 0, none⟩)] w fun e w' => e = .returned (.int .i64 wk) ∧ w' = w := by
  obtain ⟨l, c, f⟩ := h.box.facts
  clear h
  go_enter Try.func19, Try.ntmps19
  go_wp2
  go_ret
  exact ⟨rfl, rfl⟩
theorem key_none (h : Hp w B p bm a cap es f N wk) (id : Int) (hid : In64 id) (hf : f id = none) : Calls Try.prog 24 #[.pointer (some ⟨p, 0, none⟩), .int .i64 id] w fun e w' => e = .returned (.tuple #[.int .i64 0, .bool false]) ∧ w' = w := by
  obtain ⟨l, c, f⟩ := h.box.facts
  obtain ⟨D, hown, ht⟩ := h.map
  obtain ⟨e1, e2⟩ := ht id
  rw [hf] at e1 e2
  have e1 := Lib.hid e1
  have e2 := Lib.hid e2
  have hkey := keyOf_int_mk (P := Try.prog) Try.underlying3 (WalkArith.wf_i64 hid)
  clear h ht hf hid
  go_enter Try.func24, Try.ntmps24
  go_wp2_with (first
    | (at_lookup; refine wpList_lookup_own_ok_int _ rfl _ _ 63 rfl 3 3 .i64 lawI Try.underlying63 Try.underlying3 (zeroH _) bm _ D rfl hown _ _ rfl hkey ?_; intro x hat hwc; rw [show Maps.has D (Lit.int .i64 id) = false from e1.out])
    | go_in)
  all_goals go_ret2
  all_goals exact ⟨rfl, rfl⟩
end
end Go.Proofs.Ytdkghinjpnelhaa
