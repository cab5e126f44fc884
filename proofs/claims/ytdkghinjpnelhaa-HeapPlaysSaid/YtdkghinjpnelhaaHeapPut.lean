/- Package heap: reading a heap, and writing one entry. -/
import Derived.Test.YtdkghinjpnelhaaHeapOps
import Derived.RegionTactic
import Derived.BigQuiet
namespace Go.Proofs.Ytdkghinjpnelhaa
open Go.RowKit Go.Maps Go.WideMaps

section
variable {w : World} {B p bm : Nat} {a : Option Addr} {cap : Nat} {es : Ents} {f : Int → Option Nat} {N : Nat} {wk : Int}

theorem key_some (h : Hp w B p bm a cap es f N wk) (id k : Int) (hid : In64 id) (i : Nat) (hf : f id = some i) (hi : es[i]? = some (id, k)) (hl : es.length < 1000000) : Calls Try.prog 24 #[.pointer (some ⟨p, 0, none⟩), .int .i64 id] w fun e w' => e = .returned (.tuple #[.int .i64 k, .bool true]) ∧ w' = w := by
  have hil := (List.getElem?_eq_some_iff.1 hi).1
  obtain ⟨g, rfl, _, _⟩ := h.place (by omega)
  have hc2 := h.cell2 hi
  obtain ⟨l, c, fz⟩ := h.box.facts
  obtain ⟨D, hown, ht⟩ := h.map
  obtain ⟨e1, e2⟩ := ht id
  rw [hf] at e1 e2
  have e1 := Lib.hid e1
  have e2 := Lib.hid e2
  have hkey := keyOf_int_mk (P := Try.prog) Try.underlying3 (WalkArith.wf_i64 hid)
  clear h ht hf hid hi
  go_enter Try.func24, Try.ntmps24
  go_wp2_with (first
    | (at_lookup; refine wpList_lookup_own_ok_int _ rfl _ _ 63 rfl 3 3 .i64 lawI Try.underlying63 Try.underlying3 (zeroH _) bm _ D rfl hown _ _ rfl hkey ?_; intro x hat hwc; rw [show Maps.has D (Lit.int .i64 id) = true from e1.out, show x = (i : Int) from by have := hat.symm.trans e2.out; simpa using this]; clear hat hwc)
    | go_in)
  all_goals go_ret2
  all_goals exact ⟨rfl, rfl⟩

theorem min_none (h : Hp w B p bm a cap [] f N wk) : Calls Try.prog 25 #[.pointer (some ⟨p, 0, none⟩)] w fun e w' => e = .returned (.tuple #[.int .i64 0, .int .i64 0, .bool false]) ∧ w' = w := by
  obtain ⟨l, c, fz⟩ := h.box.facts
  clear h
  go_enter Try.func25, Try.ntmps25
  go_wp2
  all_goals exact bodyPost_ret (v := .tuple #[.int .i64 0, .int .i64 0, .bool false]) (by simp [results, Try.results25, go_sem]) rfl ⟨rfl, rfl⟩
set_option maxHeartbeats 1000000 in
theorem min_some (h : Hp w B p bm a cap es f N wk) (e : Int × Int) (hi : es[0]? = some e) (hl : es.length < 1000000) : Calls Try.prog 25 #[.pointer (some ⟨p, 0, none⟩)] w fun r w' => r = .returned (.tuple #[.int .i64 e.1, .int .i64 e.2, .bool true]) ∧ Below w.heap.size w w' := by
  have hil := (List.getElem?_eq_some_iff.1 hi).1
  obtain ⟨g, rfl, _, hg⟩ := h.place hil
  have hc1 : w.cell? ⟨g, 0, none⟩ = some (.int .i64 e.1) := h.cell1 hi
  have hc2 : w.cell? ⟨g, 1, none⟩ = some (.int .i64 e.2) := h.cell2 hi
  obtain ⟨l, c, fz⟩ := h.box.facts
  clear h hi
  go_enter Try.func25, Try.ntmps25
  go_wp2
  go_region
  all_goals (try go_wp2)
  all_goals exact bodyPost_ret (v := .tuple #[.int .i64 e.1, .int .i64 e.2, .bool true]) (by simp [results, Try.results25, go_sem]) rfl ⟨rfl, ((Below.refl _ _).alloc (Nat.le_refl _) _).drew⟩
end
end Go.Proofs.Ytdkghinjpnelhaa
