/- Package heap: what a heap is in memory. -/
import Derived.Test.YtdkghinjpnelhaaChecked
import Derived.Test.YtdkghinjpnelhaaBox
import Derived.Test.YtdkghinjpnelhaaHeapMath
import Derived.Maps.OwnSet
import Derived.Maps.AppendAt
import Derived.Laws.OwnMore
import Derived.WideKeyArgs2
namespace Go.Proofs.Ytdkghinjpnelhaa
open Go.RowKit Go.Maps Go.WideMaps

theorem lawI : Keyed Try.prog 3 := int_keyed Try.underlying3
theorem zeroH (w : World) : (zeroValue 3).run Try.prog w = .ok (.int .i64 0) w := by kernel_rfl
theorem infoE : (Try.prog.info? 68).map (fun i => (i.zero, i.size, i.bytes)) = some (some (.agg #[.int .i64 0, .int .i64 0]), 2, 16) := by kernel_rfl

/-- The entries' cells. -/
def flat : Ents → List Value
  | [] => []
  | e :: es => .int .i64 e.1 :: .int .i64 e.2 :: flat es
theorem flat_len : ∀ es : Ents, (flat es).length = es.length * 2
  | [] => rfl
  | e :: es => by simp [flat, flat_len es]; omega
theorem flat_fst : ∀ {es : Ents} {i : Nat} {e : Int × Int}, es[i]? = some e → (flat es)[i * 2]? = some (.int .i64 e.1)
  | [], i, e, h => by simp at h
  | x :: xs, 0, e, h => by simp at h; subst h; rfl
  | x :: xs, i + 1, e, h => by
    have := flat_fst (es := xs) (i := i) (by simpa using h)
    rw [show (i + 1) * 2 = i * 2 + 1 + 1 by omega]
    simpa [flat] using this
theorem flat_snd : ∀ {es : Ents} {i : Nat} {e : Int × Int}, es[i]? = some e → (flat es)[i * 2 + 1]? = some (.int .i64 e.2)
  | [], i, e, h => by simp at h
  | x :: xs, 0, e, h => by simp at h; subst h; rfl
  | x :: xs, i + 1, e, h => by
    have := flat_snd (es := xs) (i := i) (by simpa using h)
    rw [show (i + 1) * 2 + 1 = i * 2 + 1 + 1 + 1 by omega]
    simpa [flat] using this
theorem flat_set : ∀ (es : Ents) (i : Nat) (e : Int × Int), flat (es.set i e) = ((flat es).set (i * 2) (.int .i64 e.1)).set (i * 2 + 1) (.int .i64 e.2)
  | [], i, e => by simp [flat]
  | x :: xs, 0, e => by simp [flat]
  | x :: xs, i + 1, e => by
    rw [show (i + 1) * 2 = i * 2 + 1 + 1 by omega]
    simp [flat, flat_set xs i e]
theorem flat_append : ∀ (es fs : Ents), flat (es ++ fs) = flat es ++ flat fs
  | [], fs => rfl
  | x :: xs, fs => by simp [flat, flat_append xs fs]
theorem flat_take : ∀ (es : Ents) (n : Nat), flat (es.take n) = (flat es).take (n * 2)
  | [], n => by simp [flat]
  | x :: xs, 0 => by simp [flat]
  | x :: xs, n + 1 => by
    rw [show (n + 1) * 2 = n * 2 + 1 + 1 by omega]
    simp [flat, flat_take xs n]
theorem flat_one (es : Ents) : ∀ v ∈ flat es, v.oneCell' = true := by
  induction es with
  | nil => simp [flat]
  | cons x xs ih =>
    intro v hv
    simp only [flat, List.mem_cons] at hv
    rcases hv with rfl | rfl | hv
    · rfl
    · rfl
    · exact ih v hv

def il (i : Int) : Lit := .int .i64 i
theorem il_ne {i j : Int} (h : i ≠ j) : il i ≠ il j := by
  intro e
  apply h
  unfold il at e
  injection e
/-- What a map of places tells. -/
def Told (D : DataW Unit) (f : Int → Option Nat) : Prop :=
  ∀ id, Maps.has D (il id) = (f id).isSome ∧ D.atKey (il id) (.lit (.int .i64 0)) = .lit (.int .i64 (((f id).getD 0 : Nat) : Int))
def upd (f : Int → Option Nat) (id : Int) (x : Option Nat) : Int → Option Nat := fun i => if i = id then x else f i
theorem Told.put {D : DataW Unit} {f : Int → Option Nat} (h : Told D f) (hm : IsMap D) {id : Int} (hk : WideAt.IsKeyLit (il id)) (n : Nat) : Told (D.put (il id) (.lit (.int .i64 n))) (upd f id (some n)) := by
  intro j
  by_cases e : j = id
  · subst e
    rw [has_put_same hm hk, atKey_put_same hm hk]
    simp [upd]
  · rw [has_put_other (il_ne e), atKey_put_other (il_ne e)]
    simpa [upd, e] using h j
theorem Told.del {D : DataW Unit} {f : Int → Option Nat} (h : Told D f) (id : Int) : Told (D.del (il id)) (upd f id none) := by
  intro j
  by_cases e : j = id
  · subst e
    rw [has_del_same, atKey_del_same]
    simp [upd]
  · rw [has_del_other (il_ne e), atKey_del_other (il_ne e)]
    simpa [upd, e] using h j
theorem Told.none : Told (.map []) (fun _ => none) := fun _ => ⟨rfl, by rfl⟩

def In64 (x : Int) : Prop := -9223372036854775808 ≤ x ∧ x ≤ 9223372036854775807

/-- w' is w but for these blocks, and new ones. -/
structure Only (R : Nat → Prop) (w w' : World) : Prop where
  os : w'.os = w.os
  tape : w'.tape = w.tape
  output : w'.output = w.output
  size : w.heap.size ≤ w'.heap.size
  block : ∀ k, k < w.heap.size → ¬ R k → w'.heap[k]? = w.heap[k]?
theorem Only.refl (R : Nat → Prop) (w : World) : Only R w w := ⟨rfl, rfl, rfl, Nat.le_refl _, fun _ _ _ => rfl⟩
theorem Only.trans {R R' : Nat → Prop} {a b c : World} (h : Only R a b) (k : Only R' b c) (hr : ∀ x, R' x → R x ∨ a.heap.size ≤ x) : Only R a c :=
  ⟨k.os.trans h.os, k.tape.trans h.tape, k.output.trans h.output, Nat.le_trans h.size k.size, fun i hi hne => (k.block i (Nat.lt_of_lt_of_le hi h.size) (fun e => by rcases hr i e with e | e; exact hne e; omega)).trans (h.block i hi hne)⟩
theorem Only.mono {R R' : Nat → Prop} {a b : World} (h : Only R a b) (hr : ∀ x, R x → R' x ∨ a.heap.size ≤ x) : Only R' a b :=
  ⟨h.os, h.tape, h.output, h.size, fun i hi hne => h.block i hi (fun e => by rcases hr i e with e | e; exact hne e; omega)⟩
theorem Only.of_below {w w' : World} (R : Nat → Prop) (h : Below w.heap.size w w') : Only R w w' := ⟨h.os, h.tape, h.output, h.size, fun k hk _ => h.block k hk⟩
theorem Only.of_grown {R : Nat → Prop} {w w' : World} {row : Option Nat} (h : w.grownBy w' row) (hr : ∀ k, row = some k → R k) : Only R w w' := ⟨h.os, h.tape, h.output, h.size, fun k hk hne => h.block k hk (fun e => hne (hr k e.symm))⟩
theorem Only.drew {R : Nat → Prop} {a w : World} (h : Only R a w) : Only R a w.drew := ⟨h.os, h.tape, h.output, h.size, h.block⟩
theorem Only.alloc {R : Nat → Prop} {a w : World} (h : Only R a w) (o : Obj) : Only R a (w.alloc o) :=
  h.trans (Only.of_below R ((Below.refl _ _).alloc (Nat.le_refl _) o)) (fun _ h => Or.inl h)
theorem Only.setCell {R : Nat → Prop} {a w : World} (h : Only R a w) {p : Addr} (hp : R p.block ∨ a.heap.size ≤ p.block) (u : Value) : Only R a (w.setCell p u) :=
  h.trans (Only.of_grown (R := fun k => k = p.block) ⟨rfl, rfl, rfl, by simp [World.setCell], fun k _ hk => Below.heap_setCell w p u k (fun e => hk (by rw [e]))⟩ (fun k e => by cases e; rfl)) (fun x hx => by subst hx; exact hp)
theorem Only.below {R : Nat → Prop} {a w : World} (h : Only R a w) {B : Nat} (hB : B ≤ a.heap.size) (hR : ∀ k, R k → B ≤ k) : Below B a w :=
  ⟨h.os, h.tape, h.output, h.size, fun k hk => h.block k (by omega) (fun e => by have := hR k e; omega)⟩
theorem Box.only {R : Nat → Prop} {w w' : World} {b : Nat} {cs : Array Value} {t : TypeId} (h : Box w b cs t) (ho : Only R w w') (hne : ¬ R b) : Box w' b cs t := (ho.block b h.lt hne).trans h
theorem grown_of_only {R : Nat → Prop} {w w' : World} {g : Option Nat} (h : Only R w w') (hR : ∀ k, R k → some k = g) : w.grownBy w' g := ⟨h.os, h.tape, h.output, h.size, fun k hk hne => h.block k hk (fun e => hne (hR k e))⟩

/-- The blocks of a heap. -/
def Mine (p bm : Nat) (a : Option Addr) (k : Nat) : Prop := k = p ∨ k = bm ∨ ∃ x, a = some x ∧ x.block = k
/-- What a heap's function does to the world. -/
def Turn (p bm : Nat) (a : Option Addr) (w : World) (a' : Option Addr) (w' : World) : Prop :=
  Only (Mine p bm a) w w' ∧ ∀ x, a' = some x → (∃ y, a = some y ∧ y.block = x.block) ∨ w.heap.size ≤ x.block
theorem Turn.mine {p bm : Nat} {a a' : Option Addr} {w w' : World} (h : Turn p bm a w a' w') (x : Nat) (hx : Mine p bm a' x) : Mine p bm a x ∨ w.heap.size ≤ x := by
  rcases hx with hx | hx | ⟨y, hy, rfl⟩
  · exact Or.inl (Or.inl hx)
  · exact Or.inl (Or.inr (Or.inl hx))
  · rcases h.2 y hy with ⟨z, hz, e⟩ | e
    · exact Or.inl (Or.inr (Or.inr ⟨z, hz, e⟩))
    · exact Or.inr e
theorem Turn.refl (p bm : Nat) (a : Option Addr) (w : World) : Turn p bm a w a w := ⟨Only.refl _ _, fun x hx => Or.inl ⟨x, hx, rfl⟩⟩
theorem Turn.trans {p bm : Nat} {a b c : Option Addr} {u v w : World} (h : Turn p bm a u b v) (k : Turn p bm b v c w) : Turn p bm a u c w := by
  refine ⟨h.1.trans k.1 (fun x hx => h.mine x hx), fun x hx => ?_⟩
  rcases k.2 x hx with ⟨y, hy, e⟩ | e
  · rcases h.2 y hy with ⟨z, hz, e'⟩ | e'
    · exact Or.inl ⟨z, hz, e'.trans e⟩
    · exact Or.inr (by rw [← e]; exact e')
  · exact Or.inr (Nat.le_trans h.1.size e)

theorem row_only {R : Nat → Prop} {w w' : World} {base : Nat} {e : TypeId} {size : Nat} {v : Value} {n : Nat} {xs : List Value} (h : w.ownsRow base e size v n xs) (ho : Only R w w') (hne : ∀ k, v.ownBlock = some k → ¬ R k) : w'.ownsRow base e size v n xs := by
  refine ⟨h.1, ?_⟩
  rcases h.2 with hv | ⟨g, cap, cur, rfl, hg0, hh, r⟩
  · exact Or.inl hv
  · exact Or.inr ⟨g, cap, cur, rfl, hg0, (ho.block g (lt_of_block hh) (hne g rfl)).trans hh, r⟩
theorem map_only {R : Nat → Prop} {w w' : World} {k : TypeId} {F : Value → Option (DataW Unit × List MemPlace)} {b n : Nat} {D : DataW Unit} (h : w.ownsMap Try.prog k F b n D) (ho : Only R w w') (hne : ¬ R b) : w'.ownsMap Try.prog k F b n D := by
  obtain ⟨es, clock, hb, r⟩ := h
  exact ⟨es, clock, (ho.block b (lt_of_block hb) hne).trans hb, r⟩

/-- In block p lies a heap with these entries, whose map of places tells f. -/
structure Hp (w : World) (B p bm : Nat) (a : Option Addr) (cap : Nat) (es : Ents) (f : Int → Option Nat) (N : Nat) (wk : Int) : Prop where
  box : Box w p #[.slice a es.length cap, .map (some bm), .int .i64 wk] 66
  map : ∃ D : DataW Unit, w.ownsMap Try.prog 3 (plainElem Try.prog 3) bm N D ∧ Told D f
  row : w.ownsRow B 68 2 (.slice a es.length cap) es.length (flat es)
  wf : ∀ e, e ∈ es → In64 e.1 ∧ In64 e.2
  hp : B ≤ p
  hm : B ≤ bm
  pm : p ≠ bm
  sep : ∀ x, a = some x → x.block ≠ p ∧ x.block ≠ bm

section
variable {w : World} {B p bm : Nat} {a : Option Addr} {cap : Nat} {es : Ents} {f : Int → Option Nat} {N : Nat} {wk : Int}
theorem Hp.only {R : Nat → Prop} {w' : World} (h : Hp w B p bm a cap es f N wk) (ho : Only R w w') (hne : ∀ k, R k → Mine p bm a k → False) : Hp w' B p bm a cap es f N wk := by
  obtain ⟨D, hD, r⟩ := h.map
  refine ⟨h.box.only ho (fun e => hne _ e (Or.inl rfl)), ⟨D, map_only hD ho (fun e => hne _ e (Or.inr (Or.inl rfl))), r⟩, row_only h.row ho ?_, h.wf, h.hp, h.hm, h.pm, h.sep⟩
  intro k hk e
  cases a with
  | none => simp [Value.ownBlock] at hk
  | some x => simp [Value.ownBlock] at hk; exact hne _ e (Or.inr (Or.inr ⟨x, rfl, hk⟩))
theorem Hp.later {w' : World} (h : Hp w B p bm a cap es f N wk) (hb : Below w.heap.size w w') : Hp w' B p bm a cap es f N wk :=
  h.only (R := fun _ => False) (Only.of_below _ hb) (fun _ e => e.elim)
/-- Where the entries lie, if there are any. -/
theorem Hp.place (h : Hp w B p bm a cap es f N wk) (hn : 0 < es.length) : ∃ g, a = some ⟨g, 0, none⟩ ∧ B ≤ g ∧ g < w.heap.size := by
  rcases h.row.2 with ⟨_, h0⟩ | ⟨g, c, cur, e, hg, hh, _⟩
  · omega
  · injection e with e
    exact ⟨g, e, hg, lt_of_block hh⟩
theorem Hp.lts (h : Hp w B p bm a cap es f N wk) : p < w.heap.size ∧ bm < w.heap.size ∧ ∀ x, a = some x → x.block < w.heap.size := by
  obtain ⟨D, hD, _⟩ := h.map
  refine ⟨h.box.lt, hD.lt, fun x hx => ?_⟩
  subst hx
  rcases h.row.2 with ⟨e, _⟩ | ⟨g, c, cur, e, _, hg, _⟩
  · cases e
  · injection e with e
    injection e with e
    rw [e]
    exact lt_of_block hg
end
theorem Hp.cell1 {w : World} {B p bm g : Nat} {cap : Nat} {es : Ents} {f : Int → Option Nat} {N : Nat} {wk : Int} (h : Hp w B p bm (some ⟨g, 0, none⟩) cap es f N wk) {i : Nat} {e : Int × Int} (hi : es[i]? = some e) : w.cell? ⟨g, i * 2, none⟩ = some (.int .i64 e.1) := by
  have := (List.getElem?_eq_some_iff.1 hi).1
  rw [h.row.cellAt (i * 2) (by omega), flat_fst hi]
theorem Hp.cell2 {w : World} {B p bm g : Nat} {cap : Nat} {es : Ents} {f : Int → Option Nat} {N : Nat} {wk : Int} (h : Hp w B p bm (some ⟨g, 0, none⟩) cap es f N wk) {i : Nat} {e : Int × Int} (hi : es[i]? = some e) : w.cell? ⟨g, i * 2 + 1, none⟩ = some (.int .i64 e.2) := by
  have := (List.getElem?_eq_some_iff.1 hi).1
  rw [h.row.cellAt (i * 2 + 1) (by omega), flat_snd hi]
end Go.Proofs.Ytdkghinjpnelhaa
