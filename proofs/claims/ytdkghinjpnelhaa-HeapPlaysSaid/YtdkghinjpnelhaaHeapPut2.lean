/- Package heap: reading a heap, and writing one entry. -/
import Derived.Test.YtdkghinjpnelhaaHeapPut
namespace Go.Proofs.Ytdkghinjpnelhaa
open Go.RowKit Go.Maps Go.WideMaps

section
variable {w : World} {B p bm : Nat} {a : Option Addr} {cap : Nat} {es : Ents} {f : Int → Option Nat} {N : Nat} {wk : Int}

/-- Another entry in a place that exists: the entries alone. -/
theorem Hp.stored {g : Nat} (h : Hp w B p bm (some ⟨g, 0, none⟩) cap es f N wk) (i : Nat) (e : Int × Int) (he : In64 e.1 ∧ In64 e.2) :
    Hp ((w.setCell ⟨g, i * 2, none⟩ (.int .i64 e.1)).setCell ⟨g, i * 2 + 1, none⟩ (.int .i64 e.2)) B p bm (some ⟨g, 0, none⟩) cap (es.set i e) f N wk ∧ Turn p bm (some ⟨g, 0, none⟩) w (some ⟨g, 0, none⟩) ((w.setCell ⟨g, i * 2, none⟩ (.int .i64 e.1)).setCell ⟨g, i * 2 + 1, none⟩ (.int .i64 e.2)) := by
  obtain ⟨D, hD, ht⟩ := h.map
  obtain ⟨s1, s2⟩ := h.sep _ rfl
  obtain ⟨r1, g1⟩ := h.row.stored (i * 2) (.int .i64 e.1)
  obtain ⟨r2, g2⟩ := r1.stored (i * 2 + 1) (.int .i64 e.2)
  have hb := (h.box.other (a := ⟨g, i * 2, none⟩) (Ne.symm s1) (.int .i64 e.1)).other (a := ⟨g, i * 2 + 1, none⟩) (Ne.symm s1) (.int .i64 e.2)
  have hm := (hD.setCell (a := ⟨g, i * 2, none⟩) (Ne.symm s2) (.int .i64 e.1)).setCell (a := ⟨g, i * 2 + 1, none⟩) (Ne.symm s2) (.int .i64 e.2)
  refine ⟨⟨by simpa using hb, ⟨D, hm, ht⟩, ?_, ?_, h.hp, h.hm, h.pm, h.sep⟩, ?_, fun x hx => Or.inl ⟨x, hx, rfl⟩⟩
  · rw [← flat_set] at r2
    simpa using r2
  · intro x hx
    rcases List.mem_or_eq_of_mem_set hx with hx | rfl
    · exact h.wf x hx
    · exact he
  · exact ((Only.refl _ w).setCell (p := ⟨g, i * 2, none⟩) (Or.inl (Or.inr (Or.inr ⟨_, rfl, rfl⟩))) _).setCell (p := ⟨g, i * 2 + 1, none⟩) (Or.inl (Or.inr (Or.inr ⟨_, rfl, rfl⟩))) _
/-- A place that is noted. -/
theorem Hp.noted (h : Hp w B p bm a cap es f N wk) (id : Int) (hid : In64 id) (i : Nat) (hi : i < 1000000) (hN : N < maxLen) :
    ∃ w', (Instr.mapUpdate 63 (.map (some bm)) (.int .i64 id) (.int .i64 i)).run Try.prog w = .ok () w' ∧ Hp w' B p bm a cap es (upd f id (some i)) (N + 1) wk ∧ Turn p bm a w a w' := by
  obtain ⟨D, hD, ht⟩ := h.map
  have hkey := keyOf_int_mk (P := Try.prog) Try.underlying3 (WalkArith.wf_i64 hid)
  obtain ⟨w', hr, ho, htr⟩ := hD.store lawI Try.underlying63 hN hkey (plainElem_int (q := .i64) (a := (i : Int)) Try.underlying3 (WalkArith.wf_i64 (by omega)))
  have hon : Only (fun k => k = bm) w w' := Only.of_grown htr.grown (fun k e => by cases e; rfl)
  refine ⟨w', hr, ⟨h.box.only hon h.pm, ⟨_, ho, ht.put hD.isMap (lawI.key hkey) i⟩, row_only h.row hon ?_, h.wf, h.hp, h.hm, h.pm, h.sep⟩, hon.mono (fun x hx => Or.inl (Or.inr (Or.inl hx))), fun x hx => Or.inl ⟨x, hx, rfl⟩⟩
  intro k hk e
  cases a with
  | none => simp [Value.ownBlock] at hk
  | some x => simp [Value.ownBlock] at hk; exact (h.sep x rfl).2 (hk.trans e)
theorem Hp.drew (h : Hp w B p bm a cap es f N wk) : Hp w.drew B p bm a cap es f N wk := h.later ((Below.refl _ _).drew)

set_option maxHeartbeats 1000000 in
theorem put_at (h : Hp w B p bm a cap es f N wk) (i : Nat) (hi : i < es.length) (e : Int × Int) (he : In64 e.1 ∧ In64 e.2) (hl : es.length < 1000000) (hN : N < 1000000000) :
    Calls Try.prog 27 #[.pointer (some ⟨p, 0, none⟩), .int .i64 i, .agg #[.int .i64 e.1, .int .i64 e.2]] w fun r w' => r = .returned (.tuple #[]) ∧ Hp w' B p bm a cap (es.set i e) (upd f e.1 (some i)) (N + 1) wk ∧ Turn p bm a w a w' := by
  obtain ⟨g, rfl, _, hg⟩ := h.place (by omega)
  obtain ⟨hs, ts⟩ := h.stored i e he
  have hA := (Below.refl ((w.setCell ⟨g, i * 2, none⟩ (.int .i64 e.1)).setCell ⟨g, i * 2 + 1, none⟩ (.int .i64 e.2)).heap.size ((w.setCell ⟨g, i * 2, none⟩ (.int .i64 e.1)).setCell ⟨g, i * 2 + 1, none⟩ (.int .i64 e.2))).alloc (Nat.le_refl _) (.cells #[.int .i64 e.1, .int .i64 e.2] 68)
  have hA := hA.drew.drew
  obtain ⟨w', hr, h2, t2⟩ := (hs.later hA).noted e.1 he.1 i (by omega) (by unfold maxLen; omega)
  have f1 := h.row.frozenAt (i * 2)
  have f2 := h.row.frozenAt (i * 2 + 1)
  have c1 := h.cell1 (List.getElem?_eq_getElem hi)
  have c2 := h.cell2 (List.getElem?_eq_getElem hi)
  obtain ⟨l, c, fz⟩ := h.box.facts
  obtain ⟨l1, c0, fz1⟩ := hs.box.facts
  have h := Lib.hid h
  have h2 := Lib.hid h2
  have t2 := Lib.hid t2
  have ts := Lib.hid ts
  have hs := Lib.hid hs
  have hA := Lib.hid hA
  go_enter Try.func27, Try.ntmps27
  go_wp2
  go_region
  all_goals go_wp2
  all_goals go_region
  go_end0
  exact ⟨rfl, h2.out, (ts.out.trans ⟨Only.of_below _ hA.out, fun x hx => Or.inl ⟨x, hx, rfl⟩⟩).trans t2.out⟩
end
end Go.Proofs.Ytdkghinjpnelhaa
