/- Package heap: Set. -/
import Derived.Test.YtdkghinjpnelhaaHeapSink
namespace Go.Proofs.Ytdkghinjpnelhaa
open Go.RowKit Go.Maps Go.WideMaps

theorem own_slice {w : World} {base : Nat} {e : TypeId} {size : Nat} {v : Value} {n : Nat} {xs : List Value} (h : w.ownsRow base e size v n xs) : ∃ a cap, v = .slice a n cap := by
  rcases h.2 with ⟨rfl, rfl⟩ | ⟨g, cap, _, rfl, _⟩
  · exact ⟨_, _, rfl⟩
  · exact ⟨_, _, rfl⟩
theorem cell_two_new (w : World) (x y : Value) (t : TypeId) : ∀ j u, [x, y][j]? = some u → (w.alloc (.cells #[x, y] t)).cell? ((⟨w.heap.size, 0, none⟩ : Addr).add j) = some u := by
  intro j u hj
  match j, hj with
  | 0, hj =>
    simp at hj
    subst hj
    simp [Addr.add]
  | 1, hj =>
    simp at hj
    subst hj
    simp [Addr.add]

section
variable {w : World} {B p bm : Nat} {a : Option Addr} {cap : Nat} {es : Ents} {f : Int → Option Nat} {N : Nat} {wk : Int}

theorem Hp.appended (h : Hp w B p bm a cap es f N wk) {o : Obj} {w1 : World} {a' : Option Addr} {cap' : Nat} (hown : w1.ownsRow B 68 2 (.slice a' (es.length + 1) cap') (es.length + 1) (flat es ++ [.int .i64 0, .int .i64 0]))
    (hgrow : (w.alloc o).grownBy w1 (Value.slice a es.length cap).ownBlock) (hloc : (Value.slice a' (es.length + 1) cap').ownBlock = (Value.slice a es.length cap).ownBlock ∨ (Value.slice a' (es.length + 1) cap').ownBlock = some (w.alloc o).heap.size) :
    Hp (w1.setCell ⟨p, 0, none⟩ (.slice a' (es.length + 1) cap')) B p bm a' cap' (es ++ [(0, 0)]) f N wk ∧ Turn p bm a w a' (w1.setCell ⟨p, 0, none⟩ (.slice a' (es.length + 1) cap')) := by
  obtain ⟨l1, l2, l3⟩ := h.lts
  have ho : Only (Mine p bm a) w w1 := ((Only.refl _ w).alloc o).trans (R' := fun k => some k = (Value.slice a es.length cap).ownBlock) (Only.of_grown hgrow (fun k e => e.symm)) (fun x hx => by
    cases a with
    | none => simp [Value.ownBlock] at hx
    | some y => simp [Value.ownBlock] at hx; exact Or.inl (Or.inr (Or.inr ⟨y, rfl, hx.symm⟩)))
  have hog : Only (fun k => some k = (Value.slice a es.length cap).ownBlock) w w1 := ((Only.refl _ w).alloc o).trans (Only.of_grown hgrow (fun k e => e.symm)) (fun x hx => Or.inl hx)
  have hnp : ¬ some p = (Value.slice a es.length cap).ownBlock := fun e => by
    cases a with
    | none => simp [Value.ownBlock] at e
    | some y => simp [Value.ownBlock] at e; exact (h.sep y rfl).1 e.symm
  have hnm : ¬ some bm = (Value.slice a es.length cap).ownBlock := fun e => by
    cases a with
    | none => simp [Value.ownBlock] at e
    | some y => simp [Value.ownBlock] at e; exact (h.sep y rfl).2 e.symm
  have hbx := h.box.only hog hnp
  obtain ⟨D, hD, ht⟩ := h.map
  have hmp := map_only hD hog hnm
  have hsep : ∀ x, a' = some x → (∃ y, a = some y ∧ y.block = x.block) ∨ w.heap.size ≤ x.block := by
    intro x hx
    subst hx
    rcases hloc with e | e
    · cases a with
      | none => simp [Value.ownBlock] at e
      | some y => simp [Value.ownBlock] at e; exact Or.inl ⟨y, rfl, e.symm⟩
    · simp [Value.ownBlock] at e
      omega
  have hsep2 : ∀ x, a' = some x → x.block ≠ p ∧ x.block ≠ bm := by
    intro x hx
    rcases hsep x hx with ⟨y, hy, e⟩ | e
    · rw [← e]
      exact h.sep y hy
    · omega
  refine ⟨⟨?_, ⟨D, hmp.setCell (Ne.symm h.pm) _, ht⟩, ?_, ?_, h.hp, h.hm, h.pm, hsep2⟩, ho.setCell (p := ⟨p, 0, none⟩) (Or.inl (Or.inl rfl)) _, hsep⟩
  · have := hbx.set 0 (.slice a' (es.length + 1) cap')
    simpa using this
  · rw [flat_append]
    have hs : Only (fun k => k = p) w1 (w1.setCell ⟨p, 0, none⟩ (.slice a' (es.length + 1) cap')) := Only.setCell (R := fun k => k = p) (Only.refl _ w1) (p := ⟨p, 0, none⟩) (Or.inl rfl) _
    have := row_only hown hs (fun k hk e => by
      cases a' with
      | none => simp [Value.ownBlock] at hk
      | some y => simp [Value.ownBlock] at hk; exact (hsep2 y rfl).1 (hk.trans e))
    simpa [flat] using this
  · intro e he
    rcases List.mem_append.1 he with he | he
    · exact h.wf e he
    · simp at he
      subst he
      exact ⟨⟨by decide, by decide⟩, ⟨by decide, by decide⟩⟩

/-- What has become of a heap in which an entry was put where it belongs. -/
def RestP (w w' : World) (B p bm : Nat) (a : Option Addr) (cap : Nat) (es : Ents) (N : Nat) (wk : Int) (i : Nat) (es' : Ents) (f' : Int → Option Nat) (N' : Nat) (wk' : Int) : Prop :=
  Hp w' B p bm a cap es' f' N' wk' ∧ Con es' f' ∧ (∀ z, z ∈ es' ↔ z ∈ es) ∧ es'.length = es.length ∧ Heaped es' ∧ N' ≤ N + 4 * es.length ∧ wk ≤ wk' ∧ (0 < i → wk + 1 ≤ wk') ∧ wk' ≤ wk + 2 * digs es.length ∧ Turn p bm a w a w'
theorem restore_at (h : Hp w B p bm a cap es f N wk) (hc : Con es f) (i : Nat) (hi : i < es.length) (ha : Almost es i) (hl : es.length < 1000) (hN : N < 900000) (hw0 : 0 ≤ wk) (hw : wk < 900000) :
    Calls Try.prog 28 #[.pointer (some ⟨p, 0, none⟩), .int .i64 i] w fun r w' => ∃ (es' : Ents) (f' : Int → Option Nat) (N' : Nat) (wk' : Int), r = .returned (.tuple #[]) ∧ RestP w w' B p bm a cap es N wk i es' f' N' wk' := by
  have hdm := digs_mono (a := i + 1) (b := es.length) (by omega)
  have hd := digs_le es.length
  have H := Lib.hid h
  have HC := Lib.hid hc
  have HA := Lib.hid ha
  clear h hc ha
  go_enter Try.func28, Try.ntmps28
  go_wp2_with fail
  refine (rise_at H.out HC.out i hi HA.out hl (by omega) hw0 (by omega)).mono ?_
  rintro r w1 ⟨b, es1, f1, N1, wk1, rfl, h1, c1, m1, l1, hb, n1, k1, k2, k3, t1⟩
  cases b with
  | true =>
    have hh : Heaped es1 := by
      rcases hb with ⟨_, hb⟩ | ⟨hb, _⟩
      · exact hb
      · cases hb
    go_wp2_with fail
    go_end0
    exact ⟨es1, f1, N1, wk1, rfl, h1, c1, m1, l1, hh, by omega, k1, k2, by omega, t1⟩
  | false =>
    have hh : es1 = es ∧ Down es i := by
      rcases hb with ⟨hb, _⟩ | ⟨_, hb⟩
      · cases hb
      · exact hb
    obtain ⟨rfl, hdn⟩ := hh
    go_wp2_with fail
    refine (sink_at h1 c1 i hi hdn hl (by omega) (by omega) (by omega)).mono ?_
    rintro r w2 ⟨es2, f2, N2, wk2, rfl, h2, c2, m2, l2, hh, n2, k4, k5, t2⟩
    go_wp2_with fail
    go_end0
    exact ⟨es2, f2, N2, wk2, rfl, h2, c2, m2, l2, hh, by omega, by omega, fun hi => by have := k2 hi; omega, by omega, t1.trans t2⟩
end
end Go.Proofs.Ytdkghinjpnelhaa
