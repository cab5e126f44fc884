/- Package intern: looking up and adding names. -/
import Derived.Test.YthoakigbjhlababTab
namespace Go.Proofs.Ythoakigbjhlabab
open Go.RowKit Go.Maps Go.WideMaps

theorem got {D : DataW Unit} {k : Lit} {z : DataW Unit} {x y : Int} (h1 : D.atKey k z = .lit (.int .i64 x)) (h2 : D.atKey k z = .lit (.int .i64 y)) : x = y := by
  have := h1.symm.trans h2
  simpa using this
theorem grown_cell (w : World) (a : Addr) (u : Value) : w.grownBy (w.setCell a u) (some a.block) :=
  ⟨rfl, rfl, rfl, by simp [World.setCell], fun k _ hk => Below.heap_setCell w a u k (fun e => hk (by rw [e]))⟩
theorem ret_two {a b c d : Value} (h1 : a = b) (h2 : c = d) : Ending.returned (.tuple #[a, c]) = .returned (.tuple #[b, d]) := by rw [h1, h2]

section
variable {w : World} {B p bm : Nat} {a : Option Addr} {cap : Nat} {most : Int} {ns : List ByteArray}

theorem name_at (h : Tab w B p bm a cap most ns) (n : Nat) (s : ByteArray) (hs : ns[n]? = some s) : Calls Try.prog 15 #[.pointer (some ⟨p, 0, none⟩), .int .i64 n] w fun e w' => e = .returned (.tuple #[.string s, .bool true]) ∧ w' = w := by
  obtain ⟨l, c, f⟩ := h.box.facts
  have hn : n < ns.length := (List.getElem?_eq_some_iff.1 hs).1
  obtain ⟨g, rfl, hg⟩ : ∃ g, a = some ⟨g, 0, none⟩ ∧ w.cell? ⟨g, n, none⟩ = some (.string s) := by
    rcases h.row.2 with ⟨_, h0⟩ | ⟨g, cap', cur, hv, _, _, _⟩
    · omega
    · injection hv with ha
      refine ⟨g, ha, ?_⟩
      have := h.row.cells (g := g) (by rw [ha]; rfl) n (.string s) (by simp [hs])
      by_cases h0 : n = 0
      · subst h0
        simpa [Addr.add] using this
      · simpa [Addr.add, h0] using this
  clear h hs
  go_enter Try.func15, Try.ntmps15
  go_wp2
  go_ret2
  exact ⟨rfl, rfl⟩

theorem find_in (h : Tab w B p bm a cap most ns) (s : ByteArray) (hs : s.size ≤ maxLen) (hin : s ∈ ns) : Calls Try.prog 12 #[.pointer (some ⟨p, 0, none⟩), .string s] w fun e w' => e = .returned (.tuple #[.int .i64 (pos ns s), .bool true]) ∧ w' = w := by
  obtain ⟨l, c, f⟩ := h.box.facts
  obtain ⟨D, hown, ht, _⟩ := h.map
  obtain ⟨e1, e2⟩ := ht s hin
  have e1 := Lib.hid e1
  have e2 := Lib.hid e2
  have hkey := keyOf_string_mk Try.underlying9 hs
  clear h ht hin
  go_enter Try.func12, Try.ntmps12
  go_wp2_with (first
    | (at_lookup; refine wpList_lookup_own_ok_int _ rfl _ _ 60 rfl 9 3 .i64 lawK Try.underlying60 Try.underlying3 (zeroI _) bm _ D rfl hown _ _ rfl hkey ?_; intro x hat hwc)
    | go_in)
  all_goals go_ret2
  all_goals exact ⟨ret_two (congrArg _ (got hat e2.out)) (congrArg _ e1.out), rfl⟩

theorem find_out (h : Tab w B p bm a cap most ns) (s : ByteArray) (hs : s.size ≤ maxLen) (hin : s ∉ ns) : Calls Try.prog 12 #[.pointer (some ⟨p, 0, none⟩), .string s] w fun e w' => e = .returned (.tuple #[.int .i64 0, .bool false]) ∧ w' = w := by
  obtain ⟨l, c, f⟩ := h.box.facts
  obtain ⟨D, hown, _, ht⟩ := h.map
  obtain ⟨e1, e2⟩ := ht s hin
  have e1 := Lib.hid e1
  have e2 := Lib.hid e2
  have hkey := keyOf_string_mk Try.underlying9 hs
  clear h ht hin
  go_enter Try.func12, Try.ntmps12
  go_wp2_with (first
    | (at_lookup; refine wpList_lookup_own_ok_int _ rfl _ _ 60 rfl 9 3 .i64 lawK Try.underlying60 Try.underlying3 (zeroI _) bm _ D rfl hown _ _ rfl hkey ?_; intro x hat hwc)
    | go_in)
  all_goals go_ret2
  all_goals exact ⟨ret_two (congrArg _ (got hat e2.out)) (congrArg _ e1.out), rfl⟩

theorem add_in (h : Tab w B p bm a cap most ns) (s : ByteArray) (hs : s.size ≤ maxLen) (hin : s ∈ ns) : Calls Try.prog 13 #[.pointer (some ⟨p, 0, none⟩), .string s] w fun e w' => e = .returned (.tuple #[.int .i64 (pos ns s), .int .i64 0]) ∧ w' = w := by
  obtain ⟨l, c, f⟩ := h.box.facts
  obtain ⟨D, hown, ht, _⟩ := h.map
  obtain ⟨e1, e2⟩ := ht s hin
  have e2 := Lib.hid e2
  have hkey := keyOf_string_mk Try.underlying9 hs
  clear h ht hin
  go_enter Try.func13, Try.ntmps13
  go_wp2_with (first
    | (at_lookup; refine wpList_lookup_own_ok_int _ rfl _ _ 60 rfl 9 3 .i64 lawK Try.underlying60 Try.underlying3 (zeroI _) bm _ D rfl hown _ _ rfl hkey ?_; intro x hat hwc; rw [show Maps.has D (Lit.string s.data.toList) = true from e1])
    | go_in)
  all_goals go_ret2
  all_goals exact ⟨ret_two (congrArg _ (got hat e2.out)) rfl, rfl⟩

theorem add_full (h : Tab w B p bm a cap most ns) (s : ByteArray) (hs : s.size ≤ maxLen) (hin : s ∉ ns) (hf : most ≤ ns.length) : Calls Try.prog 13 #[.pointer (some ⟨p, 0, none⟩), .string s] w fun e w' => e = .returned (.tuple #[.int .i64 0, .int .i64 5]) ∧ w' = w := by
  obtain ⟨l, c, f⟩ := h.box.facts
  obtain ⟨D, hown, _, ht⟩ := h.map
  obtain ⟨e1, e2⟩ := ht s hin
  have e2 := Lib.hid e2
  have hkey := keyOf_string_mk Try.underlying9 hs
  clear h ht hin
  go_enter Try.func13, Try.ntmps13
  go_wp2_with (first
    | (at_lookup; refine wpList_lookup_own_ok_int _ rfl _ _ 60 rfl 9 3 .i64 lawK Try.underlying60 Try.underlying3 (zeroI _) bm _ D rfl hown _ _ rfl hkey ?_; intro x hat hwc; rw [show Maps.has D (Lit.string s.data.toList) = false from e1])
    | go_in)
  all_goals go_ret2
  all_goals exact ⟨rfl, rfl⟩

set_option maxHeartbeats 2000000 in
theorem add_new (h : Tab w B p bm a cap most ns) (hB : B ≤ w.heap.size) (s : ByteArray) (hs : s.size ≤ maxLen) (hin : s ∉ ns) (hf : (ns.length : Int) < most) (hl : ns.length < 1000000) : Calls Try.prog 13 #[.pointer (some ⟨p, 0, none⟩), .string s] w fun e w' =>
    e = .returned (.tuple #[.int .i64 ns.length, .int .i64 0]) ∧ ∃ a' cap', Tab w' B p bm a' cap' most (ns ++ [s]) ∧ (∀ k, (Value.slice a' 0 0).ownBlock = some k → (Value.slice a 0 0).ownBlock = some k ∨ w.heap.size ≤ k) ∧ Below B w w' ∧
      ∀ k, k < w.heap.size → k ≠ p → k ≠ bm → (Value.slice a 0 0).ownBlock ≠ some k → w'.heap[k]? = w.heap[k]? := by
  obtain ⟨i0, hi, hz0, hz1, hz2⟩ := info_parts infoS
  obtain ⟨l, c, f⟩ := h.box.facts
  obtain ⟨D, hown, ht⟩ := h.map
  obtain ⟨e1, e2⟩ := ht.2 s hin
  have e2 := Lib.hid e2
  have hkey := keyOf_string_mk Try.underlying9 hs
  have hrow := h.row
  have hbox := h.box
  have hpm := h.pm
  have hsep := h.sep
  have hin := Lib.hid hin
  have hh := Lib.hid h
  have hpb : some p ≠ (Value.slice a ns.length cap).ownBlock := by
    cases a with
    | none => simp [Value.ownBlock]
    | some x => simp [Value.ownBlock]; exact (hsep x rfl).1.symm
  have hmb : some bm ≠ (Value.slice a ns.length cap).ownBlock := by
    cases a with
    | none => simp [Value.ownBlock]
    | some x => simp [Value.ownBlock]; exact (hsep x rfl).2.symm
  clear h
  have ht := Lib.hid ht
  go_enter Try.func13, Try.ntmps13
  go_wp2_with (first
    | (at_lookup; refine wpList_lookup_own_ok_int _ rfl _ _ 60 rfl 9 3 .i64 lawK Try.underlying60 Try.underlying3 (zeroI _) bm _ D rfl hown _ _ rfl hkey ?_; intro x hat hwc; rw [show Maps.has D (Lit.string s.data.toList) = false from e1])
    | (at_builtin; refine wpList_append_own_at _ rfl _ _ 22 rfl B 9 i0 (.string ByteArray.empty) 1 16 Try.underlying22 hi hz0 hz1 hz2 rfl (by decide) (.slice a ns.length cap) _ _ rfl (hrow.alloc _) ⟨w.heap.size, 0, none⟩ 1 1 [.string s] rfl rfl (cell_one_new _ _ _) (fun x hx => by simp at hx; subst hx; rfl) (by unfold maxLen; omega) (by omega) (by simp; omega) ?_
       intro v' w1 hown' hgrow hnil hloc
       obtain ⟨a', cap', rfl⟩ := own_slice hown'
       have x1 := (hbox.alloc _).kept hgrow hpb
       have hown1 := (hown.alloc _).kept hgrow hmb
       obtain ⟨l1, c1, f1⟩ := x1.facts)
    | (at_mapUpdate; refine wpList_mapUpdate_own _ rfl _ _ _ 60 rfl 9 3 lawK Try.underlying60 _ bm _ D rfl (hown1.setCell (a := ⟨p, 1, none⟩) (Ne.symm hpm) _) (by unfold maxLen; omega) _ _ _ rfl rfl hkey _ [] (plainElem_int Try.underlying3 (WalkArith.wf_i64 (by omega))) ?_
       intro w2 hown2 hgrow2)
    | go_in)
  all_goals go_ret2
  have h := hh.out
  have hp : p < w.heap.size := hbox.lt
  have hb : bm < w.heap.size := hown.lt
  have hown3 := row_kept hown' (grown_cell w1 ⟨p, 1, none⟩ (.slice a' (ns.length + 1) cap')) (fun k hk e => by
    injection e with e
    subst e
    rcases hloc with e | e
    · exact hpb (by rw [← e]; exact hk.symm)
    · rw [e] at hk; simp at hk; omega)
  have hown4 := row_kept hown3 hgrow2 (fun k hk e => by
    injection e with e
    subst e
    rcases hloc with e | e
    · exact hmb (by rw [← e]; exact hk.symm)
    · rw [e] at hk; simp at hk; omega)
  have x2 := (x1.set 1 (.slice a' (ns.length + 1) cap')).kept hgrow2 (by simpa using hpm)
  refine ⟨rfl, a', cap', ⟨?_, ?_, ?_, h.hp, h.hm, hpm, ?_⟩, ?_, ?_, ?_⟩
  · simpa using x2
  · refine ⟨_, ?_, Tells.new ht.out hown.isMap (lawK.key hkey) hin.out⟩
    simpa [kl] using hown2
  · simpa using hown4
  · intro x hx
    subst hx
    rcases hloc with e | e
    · cases a with
      | none => simp [Value.ownBlock] at e
      | some y =>
        simp [Value.ownBlock] at e
        rw [e]
        exact hsep y rfl
    · simp [Value.ownBlock] at e
      omega
  · intro k hk
    rcases hloc with e | e
    · refine Or.inl ?_
      cases a' <;> cases a <;> simp_all [Value.ownBlock]
    · refine Or.inr ?_
      cases a' <;> simp_all [Value.ownBlock] <;> omega
  · exact ((((Below.refl B w).alloc hB _).grown hgrow (by simp; omega) (fun k hk => ((hrow.alloc (.cells #[.string s] 9)).lt k hk).1)).setCell (p := ⟨p, 1, none⟩) h.hp _).grown hgrow2 (by have := hgrow.size; simp at this ⊢; omega) (fun k hk => by cases hk; exact h.hm)
  · intro k hk h1 h2 h3
    have hs1 := hgrow.size
    simp at hs1
    rw [hgrow2.block k (by simp; omega) (by simpa using h2), Below.heap_setCell _ _ _ _ h1, hgrow.block k (by simp; omega) (fun e => h3 (by cases a <;> simp_all [Value.ownBlock])), Below.heap_alloc _ _ _ hk]
end
end Go.Proofs.Ythoakigbjhlabab
