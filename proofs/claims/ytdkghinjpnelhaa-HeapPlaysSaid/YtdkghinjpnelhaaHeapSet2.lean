/- Package heap: Set, Drop. -/
import Derived.Test.YtdkghinjpnelhaaHeapSet
namespace Go.Proofs.Ytdkghinjpnelhaa
open Go.RowKit Go.Maps Go.WideMaps

theorem Con.old {es : Ents} {f : Int → Option Nat} (h : Con es f) {id : Int} {i : Nat} (hf : f id = some i) (k : Int) : Con (es.set i (id, k)) (upd f id (some i)) := by
  obtain ⟨k0, h0⟩ := (h id i).1 hf
  have hl := (List.getElem?_eq_some_iff.1 h0).1
  intro id' m
  unfold upd
  by_cases e : id' = id
  · subst e
    rw [if_pos rfl]
    constructor
    · intro e
      injection e with e
      subst e
      exact ⟨k, by rw [List.getElem?_set, if_pos rfl, if_pos hl]⟩
    · rintro ⟨k', hk⟩
      rw [List.getElem?_set] at hk
      by_cases e : i = m
      · rw [e]
      · rw [if_neg e] at hk
        have := (h id' m).2 ⟨k', hk⟩
        rw [hf] at this
        exact this
  · rw [if_neg e, h id' m, List.getElem?_set]
    constructor
    · rintro ⟨k', hk⟩
      refine ⟨k', ?_⟩
      rw [if_neg]
      · exact hk
      · intro e2
        subst e2
        rw [h0] at hk
        injection hk with hk
        exact e (congrArg Prod.fst hk).symm
    · rintro ⟨k', hk⟩
      split at hk
      · injection hk with hk
        exact absurd (congrArg Prod.fst hk).symm e
      · exact ⟨k', hk⟩
theorem Con.new {es : Ents} {f : Int → Option Nat} (h : Con es f) {id : Int} (hf : f id = none) (k : Int) : Con (es ++ [(id, k)]) (upd f id (some es.length)) := by
  intro id' m
  unfold upd
  by_cases e : id' = id
  · subst e
    rw [if_pos rfl]
    constructor
    · intro e
      injection e with e
      subst e
      exact ⟨k, by simp⟩
    · rintro ⟨k', hk⟩
      rw [List.getElem?_append] at hk
      split at hk
      · have := (h id' m).2 ⟨k', hk⟩
        rw [hf] at this
        cases this
      · have := (List.getElem?_eq_some_iff.1 hk).1
        simp at this
        congr 1
        omega
  · rw [if_neg e, h id' m]
    constructor
    · rintro ⟨k', hk⟩
      exact ⟨k', by rw [List.getElem?_append_left (List.getElem?_eq_some_iff.1 hk).1]; exact hk⟩
    · rintro ⟨k', hk⟩
      rw [List.getElem?_append] at hk
      split at hk
      · exact ⟨k', hk⟩
      · have h1 := (List.getElem?_eq_some_iff.1 hk).1
        have h2 := (List.getElem?_eq_some_iff.1 hk).2
        simp at h2
        exact absurd h2.1.symm e
theorem old_mem {es : Ents} {f : Int → Option Nat} (h : Con es f) {id : Int} {i : Nat} (hf : f id = some i) (k : Int) (z : Int × Int) : z ∈ es.set i (id, k) ↔ (z ∈ es ∧ z.1 ≠ id) ∨ z = (id, k) := by
  obtain ⟨k0, h0⟩ := (h id i).1 hf
  have hl := (List.getElem?_eq_some_iff.1 h0).1
  constructor
  · intro hz
    obtain ⟨m, hm⟩ := List.getElem?_of_mem hz
    rw [List.getElem?_set] at hm
    by_cases e : i = m
    · subst e
      rw [if_pos rfl, if_pos hl] at hm
      injection hm with hm
      exact Or.inr hm.symm
    · rw [if_neg e] at hm
      refine Or.inl ⟨List.mem_of_getElem? hm, fun e2 => e ?_⟩
      have := (h z.1 m).2 ⟨z.2, hm⟩
      rw [e2, hf] at this
      injection this
  · rintro (⟨hz, hne⟩ | rfl)
    · obtain ⟨m, hm⟩ := List.getElem?_of_mem hz
      refine List.mem_of_getElem? (i := m) ?_
      rw [List.getElem?_set, if_neg]
      · exact hm
      · intro e
        subst e
        rw [h0] at hm
        injection hm with hm
        exact hne (by rw [← hm])
    · exact List.mem_of_getElem? (i := i) (by rw [List.getElem?_set, if_pos rfl, if_pos hl])
theorem new_mem {es : Ents} {f : Int → Option Nat} (h : Con es f) {id : Int} (hf : f id = none) (k : Int) (z : Int × Int) : z ∈ es ++ [(id, k)] ↔ (z ∈ es ∧ z.1 ≠ id) ∨ z = (id, k) := by
  rw [List.mem_append, List.mem_singleton]
  constructor
  · rintro (hz | hz)
    · refine Or.inl ⟨hz, fun e => ?_⟩
      obtain ⟨m, hm⟩ := List.getElem?_of_mem hz
      have := (h z.1 m).2 ⟨z.2, hm⟩
      rw [e, hf] at this
      cases this
    · exact Or.inr hz
  · rintro (⟨hz, _⟩ | hz)
    · exact Or.inl hz
    · exact Or.inr hz

theorem map_not_nil (bm : Nat) (w : World) : (binOp .eql 63 (.map (some bm)) (.map none)).run Try.prog w = .ok (.bool false) w := by kernel_rfl

section
variable {w : World} {B p bm : Nat} {a : Option Addr} {cap : Nat} {es : Ents} {f : Int → Option Nat} {N : Nat} {wk : Int}

/-- What has become of a heap in which a number was given a key. -/
def SetP (w w' : World) (B p bm : Nat) (a a' : Option Addr) (cap' : Nat) (es : Ents) (N : Nat) (wk : Int) (id k : Int) (n : Nat) (es' : Ents) (f' : Int → Option Nat) (N' : Nat) (wk' : Int) : Prop :=
  Hp w' B p bm a' cap' es' f' N' wk' ∧ Con es' f' ∧ (∀ z, z ∈ es' ↔ (z ∈ es ∧ z.1 ≠ id) ∨ z = (id, k)) ∧ es'.length = n ∧ Heaped es' ∧ N' ≤ N + 1 + 4 * n ∧ wk ≤ wk' ∧ wk' ≤ wk + 2 * digs n ∧ Turn p bm a w a' w'
set_option maxHeartbeats 1000000 in
theorem set_old (h : Hp w B p bm a cap es f N wk) (hc : Con es f) (hh : Heaped es) (id k : Int) (hid : In64 id) (hk : In64 k) (i : Nat) (hf : f id = some i) (hl : es.length < 1000) (hN : N < 800000) (hw0 : 0 ≤ wk) (hw : wk < 900000) :
    Calls Try.prog 20 #[.pointer (some ⟨p, 0, none⟩), .int .i64 id, .int .i64 k] w fun r w' => ∃ (es' : Ents) (f' : Int → Option Nat) (N' : Nat) (wk' : Int), r = .returned (.tuple #[]) ∧ SetP w w' B p bm a a cap es N wk id k es.length es' f' N' wk' := by
  obtain ⟨k0, h0⟩ := (hc id i).1 hf
  have hi := (List.getElem?_eq_some_iff.1 h0).1
  have hal := set_almost hh i (id, k)
  have hcn := hc.old hf k
  have hmm := old_mem hc hf k
  obtain ⟨l, c, fz⟩ := h.box.facts
  obtain ⟨D, hown, ht⟩ := h.map
  obtain ⟨e1, e2⟩ := ht id
  rw [hf] at e1 e2
  have e1 := Lib.hid e1
  have e2 := Lib.hid e2
  have hkey := keyOf_int_mk (P := Try.prog) Try.underlying3 (WalkArith.wf_i64 hid)
  have H := Lib.hid h
  have HI := Lib.hid hid
  have HK := Lib.hid hk
  have HA := Lib.hid hal
  have HC := Lib.hid hcn
  have HM := Lib.hid hmm
  clear h ht hf hid hk hc hh hal hcn hmm h0
  have hmn := map_not_nil bm
  go_enter Try.func20, Try.ntmps20
  go_wp2_with (first
    | (at_lookup; refine wpList_lookup_own_ok_int _ rfl _ _ 63 rfl 3 3 .i64 lawI Try.underlying63 Try.underlying3 (zeroH _) bm _ D rfl hown _ _ rfl hkey ?_; intro x hat hwc; rw [show Maps.has D (Lit.int .i64 id) = true from e1.out, show x = (i : Int) from by have := hat.symm.trans e2.out; simpa using this]; clear hat hwc)
    | (go_at_call 28; refine (restore_at h1 HC.out i (by simpa using hi) HA.out (by simpa using hl) (by omega) hw0 hw).mono ?_; rintro r w2 ⟨es2, f2, N2, wk2, rfl, h2, c2, m2, l2, hh2, n2, k2, k3, k4, t2⟩)
    | (go_at_call 27; refine (put_at H.out i hi (id, k) ⟨HI.out, HK.out⟩ (by omega) (by omega)).mono ?_; rintro r w1 ⟨rfl, h1, t1⟩)
    | go_in)
  go_end0
  rw [List.length_set] at l2 n2 k4
  exact ⟨es2, f2, N2, wk2, rfl, h2, c2, fun z => (m2 z).trans (HM.out z), l2, hh2, by omega, k2, k4, t1.trans t2⟩

set_option maxHeartbeats 2000000 in
theorem set_new (h : Hp w B p bm a cap es f N wk) (hc : Con es f) (hh : Heaped es) (hB : B ≤ w.heap.size) (id k : Int) (hid : In64 id) (hk : In64 k) (hf : f id = none) (hl : es.length < 900) (hN : N < 800000) (hw0 : 0 ≤ wk) (hw : wk < 900000) :
    Calls Try.prog 20 #[.pointer (some ⟨p, 0, none⟩), .int .i64 id, .int .i64 k] w fun r w' => ∃ (a' : Option Addr) (cap' : Nat) (es' : Ents) (f' : Int → Option Nat) (N' : Nat) (wk' : Int), r = .returned (.tuple #[]) ∧ SetP w w' B p bm a a' cap' es N wk id k (es.length + 1) es' f' N' wk' ∧ (0 < es.length → wk + 1 ≤ wk') := by
  obtain ⟨i0, hi, hz0, hz1, hz2⟩ := info_parts infoE
  have hal := new_almost hh (id, k)
  have hcn := hc.new hf k
  have hmm := new_mem hc hf k
  obtain ⟨l, c, fz⟩ := h.box.facts
  obtain ⟨D, hown, ht⟩ := h.map
  obtain ⟨e1, e2⟩ := ht id
  rw [hf] at e1 e2
  have e1 := Lib.hid e1
  have e2 := Lib.hid e2
  have hkey := keyOf_int_mk (P := Try.prog) Try.underlying3 (WalkArith.wf_i64 hid)
  have hrow := h.row
  have hbox := h.box
  have hpb : some p ≠ (Value.slice a es.length cap).ownBlock := by
    cases a with
    | none => simp [Value.ownBlock]
    | some x => simp [Value.ownBlock]; exact (h.sep x rfl).1.symm
  have H := Lib.hid h
  have HI := Lib.hid hid
  have HK := Lib.hid hk
  have HA := Lib.hid hal
  have HC := Lib.hid hcn
  have HM := Lib.hid hmm
  clear h ht hf hid hk hc hh hal hcn hmm
  have hmn := map_not_nil bm
  go_enter Try.func20, Try.ntmps20
  go_wp2_with (first
    | (at_lookup; refine wpList_lookup_own_ok_int _ rfl _ _ 63 rfl 3 3 .i64 lawI Try.underlying63 Try.underlying3 (zeroH _) bm _ D rfl hown _ _ rfl hkey ?_; intro x hat hwc; rw [show Maps.has D (Lit.int .i64 id) = false from e1.out, show x = (0 : Int) from by have := hat.symm.trans e2.out; simpa using this]; clear hat hwc)
    | (at_builtin; refine wpList_append_own_at _ rfl _ _ 64 rfl B 68 i0 (.agg #[.int .i64 0, .int .i64 0]) 2 16 Try.underlying64 hi hz0 hz1 hz2 rfl (by decide) (.slice a es.length cap) _ _ rfl (hrow.alloc _) ⟨w.heap.size, 0, none⟩ 1 1 [.int .i64 0, .int .i64 0] rfl rfl (cell_two_new _ _ _ _) (fun x hx => by simp at hx; subst hx; rfl) (by unfold maxLen; omega) (by omega) (by simp; omega) ?_
       intro v' w1 hown' hgrow hnil hloc
       obtain ⟨a', cap', rfl⟩ := own_slice hown'
       obtain ⟨h1, t1⟩ := H.out.appended hown' hgrow hloc
       have x1 : Box w1 p _ _ := (hgrow.block p (by simp; omega) hpb).trans (hbox.alloc _)
       obtain ⟨l1, c1, fz1⟩ := x1.facts
       have H1 := Lib.hid h1
       have T1 := Lib.hid t1
       clear h1 t1 hown' hgrow hnil hloc)
    | (go_at_call 28; refine (restore_at h2 HC.out es.length (by simp) HA.out (by simp; omega) (by omega) hw0 hw).mono ?_; rintro r w3 ⟨es3, f3, N3, wk3, rfl, h3, c3, m3, l3, hh3, n3, k2, k3, k4, t3⟩)
    | (go_at_call 27; refine (put_at H1.out es.length (by simp) (id, k) ⟨HI.out, HK.out⟩ (by simp; omega) (by omega)).mono ?_; rintro r w2 ⟨rfl, h2, t2⟩; rw [show (es ++ [((0 : Int), (0 : Int))]).set es.length (id, k) = es ++ [(id, k)] by simp] at h2)
    | go_in)
  go_end0
  rw [List.length_append] at l3 n3 k4
  exact ⟨a', cap', es3, f3, N3, wk3, rfl, ⟨h3, c3, fun z => (m3 z).trans (HM.out z), by simpa using l3, hh3, by simp at n3; omega, k2, by simpa using k4, (T1.out.trans t2).trans t3⟩, k3⟩

end
end Go.Proofs.Ytdkghinjpnelhaa
