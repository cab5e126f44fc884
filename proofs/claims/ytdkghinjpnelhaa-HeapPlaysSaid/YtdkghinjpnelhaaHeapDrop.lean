/- Package heap: Drop. -/
import Derived.Test.YtdkghinjpnelhaaHeapSet2
namespace Go.Proofs.Ytdkghinjpnelhaa
open Go.RowKit Go.Maps Go.WideMaps

/-- The entries without the last, which takes the place of i. -/
def cutAt (es : Ents) (i : Nat) (z : Int × Int) : Ents := (es.take (es.length - 1)).set i z
theorem take_at (es : Ents) (n m : Nat) : (es.take n)[m]? = if m < n then es[m]? else none := List.getElem?_take
theorem cutAt_at {es : Ents} {i : Nat} (hi : i < es.length - 1) (z : Int × Int) (m : Nat) : (cutAt es i z)[m]? = if i = m then some z else if m < es.length - 1 then es[m]? else none := by
  unfold cutAt
  rw [List.getElem?_set, take_at]
  by_cases e : i = m
  · rw [if_pos e, if_pos e, if_pos (by rw [List.length_take]; omega)]
  · rw [if_neg e, if_neg e]
theorem Con.one {es : Ents} {f : Int → Option Nat} (h : Con es f) {i m : Nat} {x y : Int × Int} (hx : es[i]? = some x) (hy : es[m]? = some y) (e : x.1 = y.1) : i = m := by
  have h1 := (h x.1 i).2 ⟨x.2, hx⟩
  have h2 := (h y.1 m).2 ⟨y.2, hy⟩
  rw [e, h2] at h1
  injection h1 with h1
  exact h1.symm

section
variable {es : Ents} {f : Int → Option Nat} {id : Int}
theorem Con.cut (h : Con es f) (hl : 0 < es.length) (hf : f id = some (es.length - 1)) : Con (es.take (es.length - 1)) (upd f id none) := by
  obtain ⟨k0, h0⟩ := (h id _).1 hf
  intro id' m
  unfold upd
  rw [take_at]
  by_cases e : id' = id
  · rw [if_pos e]
    constructor
    · intro e
      cases e
    · rintro ⟨k, hk⟩
      split at hk
      · have := h.one hk h0 e
        omega
      · cases hk
  · rw [if_neg e, h id' m]
    constructor
    · rintro ⟨k, hk⟩
      have hm := (List.getElem?_eq_some_iff.1 hk).1
      refine ⟨k, ?_⟩
      rw [if_pos]
      · exact hk
      · refine Decidable.byContradiction (fun hn => ?_)
        obtain rfl : m = es.length - 1 := by omega
        rw [h0] at hk
        injection hk with hk
        exact e (congrArg Prod.fst hk).symm
    · rintro ⟨k, hk⟩
      split at hk
      · exact ⟨k, hk⟩
      · cases hk
theorem cut_mem (h : Con es f) (hl : 0 < es.length) (hf : f id = some (es.length - 1)) (z : Int × Int) : z ∈ es.take (es.length - 1) ↔ z ∈ es ∧ z.1 ≠ id := by
  obtain ⟨k0, h0⟩ := (h id _).1 hf
  constructor
  · intro hz
    obtain ⟨m, hm⟩ := List.getElem?_of_mem hz
    rw [take_at] at hm
    split at hm
    · refine ⟨List.mem_of_getElem? hm, fun e => ?_⟩
      have := h.one hm h0 e
      omega
    · cases hm
  · rintro ⟨hz, hne⟩
    obtain ⟨m, hm⟩ := List.getElem?_of_mem hz
    have hml := (List.getElem?_eq_some_iff.1 hm).1
    refine List.mem_of_getElem? (i := m) ?_
    rw [take_at, if_pos]
    · exact hm
    · refine Decidable.byContradiction (fun hn => ?_)
      obtain rfl : m = es.length - 1 := by omega
      rw [h0] at hm
      injection hm with hm
      exact hne (by rw [← hm])
theorem Con.drop (h : Con es f) {i : Nat} (hi : i < es.length - 1) (hf : f id = some i) {z : Int × Int} (hz : es[es.length - 1]? = some z) : Con (cutAt es i z) (upd (upd f id none) z.1 (some i)) := by
  obtain ⟨k0, h0⟩ := (h id _).1 hf
  intro id' m
  unfold upd
  rw [cutAt_at hi]
  by_cases e : id' = z.1
  · rw [if_pos e]
    constructor
    · intro e2
      injection e2 with e2
      rw [if_pos e2]
      exact ⟨z.2, by rw [e]⟩
    · rintro ⟨k, hk⟩
      split at hk
      · rename_i e2
        rw [e2]
      · split at hk
        · have := h.one hk hz e
          omega
        · cases hk
  · rw [if_neg e]
    by_cases e2 : id' = id
    · rw [if_pos e2]
      constructor
      · intro e
        cases e
      · rintro ⟨k, hk⟩
        split at hk
        · injection hk with hk
          exact absurd (congrArg Prod.fst hk).symm e
        · rename_i hne
          split at hk
          · exact absurd (h.one h0 hk e2.symm) hne
          · cases hk
    · rw [if_neg e2, h id' m]
      constructor
      · rintro ⟨k, hk⟩
        have hm := (List.getElem?_eq_some_iff.1 hk).1
        refine ⟨k, ?_⟩
        rw [if_neg, if_pos]
        · exact hk
        · refine Decidable.byContradiction (fun hn => ?_)
          obtain rfl : m = es.length - 1 := by omega
          rw [hz] at hk
          injection hk with hk
          exact e (by rw [hk])
        · intro e3
          subst e3
          rw [h0] at hk
          injection hk with hk
          exact e2 (congrArg Prod.fst hk).symm
      · rintro ⟨k, hk⟩
        split at hk
        · injection hk with hk
          exact absurd (by rw [hk]) e
        · split at hk
          · exact ⟨k, hk⟩
          · cases hk
theorem drop_mem (h : Con es f) {i : Nat} (hi : i < es.length - 1) (hf : f id = some i) {z : Int × Int} (hz : es[es.length - 1]? = some z) (x : Int × Int) : x ∈ cutAt es i z ↔ x ∈ es ∧ x.1 ≠ id := by
  obtain ⟨k0, h0⟩ := (h id _).1 hf
  constructor
  · intro hx
    obtain ⟨m, hm⟩ := List.getElem?_of_mem hx
    rw [cutAt_at hi] at hm
    split at hm
    · injection hm with hm
      subst hm
      refine ⟨List.mem_of_getElem? hz, fun e => ?_⟩
      have := h.one hz h0 e
      omega
    · rename_i hne
      split at hm
      · refine ⟨List.mem_of_getElem? hm, fun e => hne (h.one h0 hm e.symm)⟩
      · cases hm
  · rintro ⟨hx, hne⟩
    obtain ⟨m, hm⟩ := List.getElem?_of_mem hx
    have hml := (List.getElem?_eq_some_iff.1 hm).1
    by_cases e : m = es.length - 1
    · subst e
      rw [hz] at hm
      injection hm with hm
      subst hm
      exact List.mem_of_getElem? (i := i) (by rw [cutAt_at hi, if_pos rfl])
    · refine List.mem_of_getElem? (i := m) ?_
      rw [cutAt_at hi, if_neg, if_pos (by omega)]
      · exact hm
      · intro e
        subst e
        rw [h0] at hm
        injection hm with hm
        exact hne (by rw [← hm])
end

section
variable {w : World} {B p bm : Nat} {a : Option Addr} {cap : Nat} {es : Ents} {f : Int → Option Nat} {N : Nat} {wk : Int}
theorem row_cut {w : World} {B : Nat} {e : TypeId} {a : Option Addr} {n cap : Nat} {es : Ents} (h : w.ownsRow B e 2 (.slice a n cap) n (flat es)) (m : Nat) (hm : m ≤ n) (hn : 0 < n) : w.ownsRow B e 2 (.slice a m cap) m (flat (es.take m)) := by
  have hlen := h.1
  rw [flat_len] at hlen
  refine ⟨by rw [flat_len, List.length_take]; omega, ?_⟩
  rcases h.2 with ⟨_, h0⟩ | ⟨g, cap', cur, hv, hb, hg, hnc, hcm, hcs, htk⟩
  · omega
  · injection hv with h1 h2 h3
    subst h1
    subst h3
    refine Or.inr ⟨g, cap, cur, rfl, hb, hg, by omega, hcm, hcs, ?_⟩
    rw [flat_take, ← htk, List.take_take]
    congr 1
    omega
/-- The heap with its last entries cut off. -/
theorem Hp.cut (h : Hp w B p bm a cap es f N wk) (m : Nat) (hm : m ≤ es.length) (hl : 0 < es.length) : Hp (w.setCell ⟨p, 0, none⟩ (.slice a m cap)) B p bm a cap (es.take m) f N wk ∧ Turn p bm a w a (w.setCell ⟨p, 0, none⟩ (.slice a m cap)) := by
  obtain ⟨D, hD, ht⟩ := h.map
  have hb := h.box.set 0 (.slice a m cap)
  have hlt : (es.take m).length = m := by rw [List.length_take]; omega
  have ho : Only (fun k => k = p) w (w.setCell ⟨p, 0, none⟩ (.slice a m cap)) := Only.setCell (R := fun k => k = p) (Only.refl _ w) (p := ⟨p, 0, none⟩) (Or.inl rfl) _
  refine ⟨⟨by rw [hlt]; simpa using hb, ⟨D, hD.setCell (Ne.symm h.pm) _, ht⟩, ?_, fun e he => h.wf e (List.mem_of_mem_take he), h.hp, h.hm, h.pm, h.sep⟩, ho.mono (fun x hx => Or.inl (Or.inl hx)), fun x hx => Or.inl ⟨x, hx, rfl⟩⟩
  rw [hlt]
  refine row_only (row_cut h.row m hm hl) ho (fun k hk e => ?_)
  cases a with
  | none => simp [Value.ownBlock] at hk
  | some x => simp [Value.ownBlock] at hk; exact (h.sep x rfl).1 (hk.trans e)
/-- A number's place is forgotten. -/
theorem Hp.unnoted {w' : World} (h : Hp w B p bm a cap es f N wk) {D : DataW Unit} (ht : Told D f) (id : Int) (ho : w'.ownsMap Try.prog 3 (plainElem Try.prog 3) bm N (D.del (il id))) (htr : w.mapTurned w' bm) : Hp w' B p bm a cap es (upd f id none) N wk ∧ Turn p bm a w a w' := by
  have hon : Only (fun k => k = bm) w w' := Only.of_grown htr.grown (fun k e => by cases e; rfl)
  refine ⟨⟨h.box.only hon h.pm, ⟨_, ho, ht.del id⟩, row_only h.row hon ?_, h.wf, h.hp, h.hm, h.pm, h.sep⟩, hon.mono (fun x hx => Or.inl (Or.inr (Or.inl hx))), fun x hx => Or.inl ⟨x, hx, rfl⟩⟩
  intro k hk e
  cases a with
  | none => simp [Value.ownBlock] at hk
  | some x => simp [Value.ownBlock] at hk; exact (h.sep x rfl).2 (hk.trans e)

theorem drop_none (h : Hp w B p bm a cap es f N wk) (id : Int) (hid : In64 id) (hf : f id = none) : Calls Try.prog 21 #[.pointer (some ⟨p, 0, none⟩), .int .i64 id] w fun e w' => e = .returned (.bool false) ∧ w' = w := by
  obtain ⟨l, c, f⟩ := h.box.facts
  obtain ⟨D, hown, ht⟩ := h.map
  obtain ⟨e1, e2⟩ := ht id
  rw [hf] at e1 e2
  have e1 := Lib.hid e1
  have e2 := Lib.hid e2
  have hkey := keyOf_int_mk (P := Try.prog) Try.underlying3 (WalkArith.wf_i64 hid)
  clear h ht hf hid
  go_enter Try.func21, Try.ntmps21
  go_wp2_with (first
    | (at_lookup; refine wpList_lookup_own_ok_int _ rfl _ _ 63 rfl 3 3 .i64 lawI Try.underlying63 Try.underlying3 (zeroH _) bm _ D rfl hown _ _ rfl hkey ?_; intro x hat hwc; rw [show Maps.has D (Lit.int .i64 id) = false from e1.out])
    | go_in)
  all_goals exact bodyPost_ret (v := .bool false) (by simp [results, Try.results21, go_sem]) rfl ⟨rfl, rfl⟩

/-- What has become of a heap from which a number was taken. -/
def DropP (w w' : World) (B p bm : Nat) (a : Option Addr) (cap : Nat) (es : Ents) (N : Nat) (wk : Int) (id : Int) (es' : Ents) (f' : Int → Option Nat) (N' : Nat) (wk' : Int) : Prop :=
  Hp w' B p bm a cap es' f' N' wk' ∧ Con es' f' ∧ (∀ z, z ∈ es' ↔ z ∈ es ∧ z.1 ≠ id) ∧ es'.length + 1 = es.length ∧ Heaped es' ∧ N' ≤ N + 1 + 4 * es.length ∧ wk ≤ wk' ∧ wk' ≤ wk + 2 * digs es.length ∧ Turn p bm a w a w'
set_option maxHeartbeats 2000000 in
theorem drop_some (h : Hp w B p bm a cap es f N wk) (hc : Con es f) (hh : Heaped es) (id : Int) (hid : In64 id) (i : Nat) (hf : f id = some i) (hl : es.length < 1000) (hN : N < 800000) (hw0 : 0 ≤ wk) (hw : wk < 900000) :
    Calls Try.prog 21 #[.pointer (some ⟨p, 0, none⟩), .int .i64 id] w fun r w' => ∃ (es' : Ents) (f' : Int → Option Nat) (N' : Nat) (wk' : Int), r = .returned (.bool true) ∧ DropP w w' B p bm a cap es N wk id es' f' N' wk' := by
  obtain ⟨k0, h0⟩ := (hc id i).1 hf
  have hi := (List.getElem?_eq_some_iff.1 h0).1
  obtain ⟨z, hz⟩ : ∃ z, es[es.length - 1]? = some z := ⟨_, List.getElem?_eq_getElem (by omega)⟩
  have hzw := h.wf z (List.mem_of_getElem? hz)
  obtain ⟨g, rfl, _, hg⟩ := h.place (by omega)
  have hcap : es.length ≤ cap := by
    rcases h.row.2 with ⟨e, _⟩ | ⟨g', cap', cur, e, _, _, hnc, _⟩
    · cases e
    · injection e with _ _ e3
      rw [e3]
      exact hnc
  have hcp : 0 < cap := by omega
  have c1 := h.cell1 hz
  have c2 := h.cell2 hz
  obtain ⟨l, c, fz⟩ := h.box.facts
  obtain ⟨D, hown, ht⟩ := h.map
  obtain ⟨e1, e2⟩ := ht id
  rw [hf] at e1 e2
  have e1 := Lib.hid e1
  have e2 := Lib.hid e2
  have hkey := keyOf_int_mk (P := Try.prog) Try.underlying3 (WalkArith.wf_i64 hid)
  have HT := Lib.hid ht
  obtain ⟨h1, t1⟩ := h.cut (es.length - 1) (by omega) (by omega)
  have hbl := (Below.refl (w.setCell ⟨p, 0, none⟩ (.slice (some ⟨g, 0, none⟩) (es.length - 1) cap)).heap.size (w.setCell ⟨p, 0, none⟩ (.slice (some ⟨g, 0, none⟩) (es.length - 1) cap))).alloc (Nat.le_refl _) (.cells #[.int .i64 z.1, .int .i64 z.2] 68)
  have HA := Lib.hid (h1.later hbl)
  have TA : Hid (Turn p bm (some ⟨g, 0, none⟩) w (some ⟨g, 0, none⟩) _) := Lib.hid (t1.trans ⟨Only.of_below _ hbl, fun x hx => Or.inl ⟨x, hx, rfl⟩⟩)
  have hownA := (hown.setCell (a := ⟨p, 0, none⟩) (Ne.symm h.pm) (.slice (some ⟨g, 0, none⟩) (es.length - 1) cap)).alloc (.cells #[.int .i64 z.1, .int .i64 z.2] 68)
  have hxA := Box.new (w.setCell ⟨p, 0, none⟩ (.slice (some ⟨g, 0, none⟩) (es.length - 1) cap)) #[.int .i64 z.1, .int .i64 z.2] 68
  have hsz : (w.setCell ⟨p, 0, none⟩ (.slice (some ⟨g, 0, none⟩) (es.length - 1) cap)).heap.size = w.heap.size := by simp [World.setCell]
  rw [hsz] at hxA
  have fresh : ¬ Mine p bm (some ⟨g, 0, none⟩) w.heap.size := by
    intro e
    obtain ⟨l1, l2, l3⟩ := h.lts
    rcases e with e | e | ⟨x, e, e2⟩
    · omega
    · omega
    · have := l3 x e
      omega
  have HXA := Lib.hid hxA
  have HFR := Lib.hid fresh
  clear h1 t1 hbl hxA hsz fresh
  have HI := Lib.hid hid
  have HZ := Lib.hid hz
  have HZW := Lib.hid hzw
  have HC := Lib.hid hc
  have HH := Lib.hid hh
  have HF := Lib.hid hf
  clear h ht hf hid hc hh h0 hz hzw
  go_enter Try.func21, Try.ntmps21
  by_cases hie : i < es.length - 1
  · have hd1 : decide ((i : Int) < (es.length : Int) - 1) = true := decide_eq_true (by omega)
    have hcl : ((es.take (es.length - 1)).set i z).length = es.length - 1 := by rw [List.length_set, List.length_take]; omega
    go_wp2_with (first
      | (at_lookup; refine wpList_lookup_own_ok_int _ rfl _ _ 63 rfl 3 3 .i64 lawI Try.underlying63 Try.underlying3 (zeroH _) bm _ D rfl hown _ _ rfl hkey ?_; intro x hat hwc; rw [show Maps.has D (Lit.int .i64 id) = true from e1.out, show x = (i : Int) from by have := hat.symm.trans e2.out; simpa using this]; clear hat hwc)
      | (at_delete; refine wpList_delete_own _ rfl _ _ 63 3 rfl 3 lawI Try.underlying63 _ bm N D rfl hownA _ _ rfl hkey ?_
         intro w1 hown1 hturn1
         obtain ⟨h1, t1⟩ := HA.out.unnoted HT.out id hown1 hturn1
         have H1 := Lib.hid h1
         have T1 := Lib.hid t1
         obtain ⟨l1, c1, fz1⟩ := (HXA.out.only t1.1 HFR.out).facts
         clear h1 t1 hown1 hturn1)
      | (go_at_call 28; refine (restore_at h2 (HC.out.drop hie HF.out HZ.out) i (by rw [hcl]; exact hie) (set_almost (take_heaped HH.out _) i z) (by rw [hcl]; omega) (by omega) hw0 hw).mono ?_; rintro r w3 ⟨es3, f3, N3, wk3, rfl, h3, c3, m3, l3, hh3, n3, k2, k3, k4, t3⟩)
      | (go_at_call 27; refine (put_at H1.out i (by rw [List.length_take]; omega) z HZW.out (by rw [List.length_take]; omega) (by omega)).mono ?_; rintro r w2 ⟨rfl, h2, t2⟩)
      | go_in)
    have hdm := digs_mono (a := es.length - 1) (b := es.length) (by omega)
    rw [hcl] at l3 n3 k4
    exact bodyPost_ret (v := .bool true) (by simp [results, Try.results21, go_sem]) rfl ⟨es3, f3, N3, wk3, rfl, h3, c3, fun x => (m3 x).trans (drop_mem HC.out hie HF.out HZ.out x), by omega, hh3, by omega, k2, by omega, ((TA.out.trans T1.out).trans t2).trans t3⟩
  · have hd1 : decide ((i : Int) < (es.length : Int) - 1) = false := decide_eq_false (by omega)
    obtain rfl : i = es.length - 1 := by omega
    go_wp2_with (first
      | (at_lookup; refine wpList_lookup_own_ok_int _ rfl _ _ 63 rfl 3 3 .i64 lawI Try.underlying63 Try.underlying3 (zeroH _) bm _ D rfl hown _ _ rfl hkey ?_; intro x hat hwc; rw [show Maps.has D (Lit.int .i64 id) = true from e1.out, show x = ((es.length - 1 : Nat) : Int) from by have := hat.symm.trans e2.out; simpa using this]; clear hat hwc)
      | (at_delete; refine wpList_delete_own _ rfl _ _ 63 3 rfl 3 lawI Try.underlying63 _ bm N D rfl hownA _ _ rfl hkey ?_
         intro w1 hown1 hturn1
         obtain ⟨h1, t1⟩ := HA.out.unnoted HT.out id hown1 hturn1
         have H1 := Lib.hid h1
         have T1 := Lib.hid t1
         obtain ⟨l1, c1, fz1⟩ := (HXA.out.only t1.1 HFR.out).facts
         clear h1 t1 hown1 hturn1)
      | go_in)
    exact bodyPost_ret (v := .bool true) (by simp [results, Try.results21, go_sem]) rfl ⟨_, _, _, _, rfl, H1.out, HC.out.cut (by omega) HF.out, cut_mem HC.out (by omega) HF.out, by rw [List.length_take]; omega, take_heaped HH.out _, by omega, Int.le_refl _, by omega, TA.out.trans T1.out⟩
end
end Go.Proofs.Ytdkghinjpnelhaa
