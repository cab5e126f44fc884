/- Package disk: the functions that read, and those that write no bytes. -/
import Derived.Test.YtomeipjglnpciaaDkMem
namespace Go.Proofs.Ytomeipjglnpciaa
open Go Go.RowKit Go.Maps
set_option linter.unusedVariables false
set_option linter.unusedSimpArgs false
set_option maxRecDepth 10000

def wfB (beh fal : Int) : Bool := !decide (0 < beh) && decide (0 < fal)
def wfH (beh : Int) : Int := if 0 < beh then beh - 1 else beh
def wfF (beh fal : Int) : Int := if 0 < beh then fal else if 0 < fal then fal - 1 else fal
section
variable {w : World} {B d bm uc : Nat} {S : Sgs} {V : VF} {ua : Option Addr} {un : Pcs} {most beh fal : Int}
/-- One of a disk's own cells is written. -/
theorem Dm.cells (h : Dm w B d bm S V ua uc un most beh fal) {w' : World} {ua' : Option Addr} {uc' : Nat} {un' : Pcs} {beh' fal' : Int} (hb : Box w' d #[.int .i64 most, .map (some bm), .slice ua' un'.length uc', .int .i64 beh', .int .i64 fal'] 51)
    (ho : Only (fun k => k = d) w w') (hu : UN S un') (hown : (ua' = ua ∧ uc' = uc ∧ un' = un) ∨ (ua' = none ∧ uc' = 0 ∧ un' = [])) (h1 : beh' ≤ 9223372036854775807) (h2 : fal' ≤ 9223372036854775807) :
    Dm w' B d bm S V ua' uc' un' most beh' fal' ∧ TurnD d bm S V ua w S V ua' w' := by
  have hmp : Mp w' B bm S V none := h.mp.blocks fun k hk => ho.block k (h.mp.mine_lt hk).1 (fun e => h.mp.off (k := d) (cs := _) (t := 51) (z := (0, 0)) h.box (by decide) (e ▸ hk))
  have hO : Only (MineD d bm S V ua) w w' := ⟨ho.os, ho.tape, ho.output, ho.size, fun k hk hne => ho.block k hk fun e => hne (Or.inl e)⟩
  rcases hown with ⟨rfl, rfl, rfl⟩ | ⟨rfl, rfl, rfl⟩
  · exact ⟨⟨hb, hmp, h.own.only ho (fun g hg e => by have h9 := h.own; rw [hg] at h9; exact own_not_box h9 h.box (by decide) e), hu, h.dB, h1, h2, h.mo, h.cnt, h.seg, h.kw⟩, hO, fun k hk => Or.inl hk⟩
  · refine ⟨⟨hb, hmp, Own.nil _ _ _ _, hu, h.dB, h1, h2, h.mo, h.cnt, h.seg, h.kw⟩, hO, fun k hk => Or.inl ?_⟩
    rcases hk with hk | hk | hk
    · exact Or.inl hk
    · exact Or.inr (Or.inl hk)
    · cases hk
theorem wf_at (h : Dm w B d bm S V ua uc un most beh fal) : Calls Try.prog 19 #[.pointer (some ⟨d, 0, none⟩)] w fun e w' => e = .returned (.bool (wfB beh fal)) ∧ Dm w' B d bm S V ua uc un most (wfH beh) (wfF beh fal) ∧ TurnD d bm S V ua w S V ua w' := by
  have H := Lib.hid h
  have BX := Lib.hid h.box
  have c3 := h.box.cell 3
  have c4 := h.box.cell 4
  have f3 := h.box.free 3
  have f4 := h.box.free 4
  have ld := h.box.lt
  have hb := h.behB
  have hf := h.falB
  clear h
  unfold wfB wfH wfF
  by_cases h1 : 0 < beh
  · have d1 : decide (0 < beh) = true := decide_eq_true h1
    rw [if_pos h1, if_pos h1, d1]
    have hw : IntKind.i64.wrap (beh - 1) = beh - 1 := IntWalk.i64_in _ (by omega)
    have FIN := Lib.hid (H.out.cells (w' := w.setCell ⟨d, 3, none⟩ (.int .i64 (beh - 1))) (beh' := beh - 1) (fal' := fal) (BX.out.set 3 _) ((Only.refl (fun k => k = d) _).setCell (Or.inl rfl) _) H.out.un_ok (Or.inl ⟨rfl, rfl, rfl⟩) (by omega) hf)
    go_enter Try.func19, Try.ntmps19
    go_wp2
    go_ret
    exact ⟨rfl, FIN.out⟩
  · have d1 : decide (0 < beh) = false := decide_eq_false h1
    rw [if_neg h1, if_neg h1, d1]
    by_cases h2 : 0 < fal
    · have d2 : decide (0 < fal) = true := decide_eq_true h2
      rw [if_pos h2, d2]
      have hw : IntKind.i64.wrap (fal - 1) = fal - 1 := IntWalk.i64_in _ (by omega)
      have FIN := Lib.hid (H.out.cells (w' := w.setCell ⟨d, 4, none⟩ (.int .i64 (fal - 1))) (beh' := beh) (fal' := fal - 1) (BX.out.set 4 _) ((Only.refl (fun k => k = d) _).setCell (Or.inl rfl) _) H.out.un_ok (Or.inl ⟨rfl, rfl, rfl⟩) hb (by omega))
      go_enter Try.func19, Try.ntmps19
      go_wp2
      go_ret
      exact ⟨rfl, FIN.out⟩
    · have d2 : decide (0 < fal) = false := decide_eq_false h2
      rw [if_neg h2, d2]
      go_enter Try.func19, Try.ntmps19
      go_wp2
      go_ret
      exact ⟨rfl, H.out, TurnD.refl (Below.refl _ _)⟩
theorem sync_at (h : Dm w B d bm S V ua uc un most beh fal) : Calls Try.prog 8 #[.pointer (some ⟨d, 0, none⟩)] w fun e w' => e = .returned (.int .i64 (if wfB beh fal then 7 else 0)) ∧ AftD B d bm S V ua w S (if wfB beh fal then un else []) most (wfH beh) (wfF beh fal) w' := by
  have WF := Lib.hid (wf_at h)
  clear h
  obtain ⟨b, hb⟩ : ∃ b, wfB beh fal = b := ⟨_, rfl⟩
  rw [hb] at WF ⊢
  clear hb
  go_enter Try.func8, Try.ntmps8
  cases b with
  | true =>
    go_wp2_with fail
    refine WF.out.mono ?_
    rintro e w1 ⟨rfl, D1, T1⟩
    have D := Lib.hid D1
    have T := Lib.hid T1
    clear D1 T1 WF
    go_wp2
    go_ret
    exact ⟨rfl, V, ua, uc, D.out, T.out⟩
  | false =>
    go_wp2_with fail
    refine WF.out.mono ?_
    rintro e w1 ⟨rfl, D1, T1⟩
    have c2 := D1.box.cell 2
    have f2 := D1.box.free 2
    have ld := D1.box.lt
    have FIN := Lib.hid (D1.cells (w' := w1.setCell ⟨d, 2, none⟩ (.slice none 0 0)) (ua' := none) (uc' := 0) (un' := []) (D1.box.set 2 _) ((Only.refl (fun k => k = d) _).setCell (Or.inl rfl) _) (UN.nil _) (Or.inr ⟨rfl, rfl, rfl⟩) D1.behB D1.falB)
    have T := Lib.hid T1
    clear D1 T1 WF
    go_wp2
    go_ret
    exact ⟨rfl, V, none, 0, FIN.out.1, T.out.trans FIN.out.2⟩
theorem fault_at (h : Dm w B d bm S V ua uc un most beh fal) (x y : Int) (hx : x ≤ 9223372036854775807) (hy : y ≤ 9223372036854775807) : Calls Try.prog 12 #[.pointer (some ⟨d, 0, none⟩), .int .i64 x, .int .i64 y] w fun e w' => e = .returned (.tuple #[]) ∧ Dm w' B d bm S V ua uc un most x y ∧ TurnD d bm S V ua w S V ua w' := by
  have c3 := h.box.cell 3
  have c4 := h.box.cell 4
  have f3 := h.box.free 3
  have f4 := h.box.free 4
  have ld := h.box.lt
  have FIN := Lib.hid (h.cells (w' := (w.setCell ⟨d, 3, none⟩ (.int .i64 x)).setCell ⟨d, 4, none⟩ (.int .i64 y)) (beh' := x) (fal' := y) ((h.box.set 3 _).set 4 _) (((Only.refl (fun k => k = d) _).setCell (Or.inl rfl) _).setCell (Or.inl rfl) _) h.un_ok (Or.inl ⟨rfl, rfl, rfl⟩) hx hy)
  have g4 : (w.setCell ⟨d, 3, none⟩ (.int .i64 x)).frozen? ⟨d, 4, none⟩ = false := (h.box.set 3 _).free 4
  clear h
  go_enter Try.func12, Try.ntmps12
  go_wp2
  exact bodyPost_end (v := .tuple #[]) (by simp [results, Try.results12, go_sem]) rfl ⟨rfl, FIN.out⟩
theorem minI (x : Int) : min x 16 = if x < 16 then x else 16 := by
  split <;> omega
def moI (x : Int) : Int := max 0 (min x 16)
theorem dnew_at (x : Int) (w : World) (B : Nat) (hB : B ≤ w.heap.size) : Calls Try.prog 4 #[.int .i64 x] w fun e w' => e = .returned (.pointer (some ⟨w.heap.size + 1, 0, none⟩)) ∧ Dm w' B (w.heap.size + 1) w.heap.size [] (fun _ => (none, 0)) none 0 [] (moI x) 0 0 ∧ Below w.heap.size w w' := by
  have hmm := @run_makeMap Try.prog
  have W1 := World.ownsMap_made w Try.prog 3 RH
  obtain ⟨w1, hw1⟩ : ∃ W, w.alloc (.map #[] 0) = W := ⟨_, rfl⟩
  have B1 : Below w.heap.size w w1 := by rw [← hw1]; exact (Below.refl _ _).alloc (Nat.le_refl _) _
  have sz : w1.heap.size = w.heap.size + 1 := by rw [← hw1]; simp
  rw [hw1] at W1
  obtain ⟨m, hm⟩ : ∃ m, moI x = m := ⟨_, rfl⟩
  have FIN : Hid (Dm (w1.alloc (.cells #[.int .i64 m, .map (some w.heap.size), .slice none 0 0, .int .i64 0, .int .i64 0] 51)) B (w.heap.size + 1) w.heap.size [] (fun _ => (none, 0)) none 0 [] m 0 0 ∧ Below w.heap.size w (w1.alloc (.cells #[.int .i64 m, .map (some w.heap.size), .slice none 0 0, .int .i64 0, .int .i64 0] 51))) := Lib.hid (by
    have hbx := Box.new w1 #[.int .i64 m, .map (some w.heap.size), .slice none 0 0, .int .i64 0, .int .i64 0] 51
    rw [sz] at hbx
    refine ⟨⟨hbx, ⟨⟨_, 0, W1.alloc _, by omega, fun n => rfl, fun n b hn => (by cases hn)⟩, fun n b hn => (by cases hn), fun n m b c _ hn => (by cases hn), List.Pairwise.nil, hB⟩, Own.nil _ _ _ _, UN.nil _, by omega, by omega, by omega, by rw [← hm]; unfold moI; omega, Nat.zero_le _, fun n => Nat.zero_le _, fun n hn => (by cases hn)⟩, B1.alloc (by omega) _⟩)
  rw [hm]
  unfold moI at hm
  clear W1 B1
  go_enter Try.func4, Try.ntmps4
  go_wp2
  · obtain rfl : m = 16 := by omega
    go_ret
    exact ⟨rfl, FIN.out⟩
  · obtain rfl : m = x := by omega
    go_ret
    exact ⟨rfl, FIN.out⟩
  · obtain rfl : m = 0 := by omega
    go_ret
    exact ⟨rfl, FIN.out⟩
end
end Go.Proofs.Ytomeipjglnpciaa
