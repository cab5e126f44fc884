/- Part of a chain: Only. -/
import Derived.Test.YteinblpkcpjpnaaGreatDoorSc02
import Derived.Test.YteinblpkcpjpnaaGreatDoorSc00
/- A world that is another but for some blocks. No program here. -/
namespace Go.Proofs.YteinblpkcpjpnaaGreatDoor
open Go Go.RowKit
set_option linter.unusedVariables false

/-- w' is w but for these blocks, and new ones. -/
structure Only (R : Nat → Prop) (w w' : World) : Prop where
  os : w'.os = w.os
  tape : w'.tape = w.tape
  output : w'.output = w.output
  size : w.heap.size ≤ w'.heap.size
  block : ∀ k, k < w.heap.size → ¬ R k → w'.heap[k]? = w.heap[k]?
theorem Only.refl (R : Nat → Prop) (w : World) : Only R w w := ⟨rfl, rfl, rfl, Nat.le_refl _, fun _ _ _ => rfl⟩
theorem Only.trans {R R' : Nat → Prop} {a b c : World} (h : Only R a b) (k : Only R' b c) (hr : ∀ x, R' x → R x ∨ a.heap.size ≤ x) : Only R a c :=
  ⟨k.os.trans h.os, k.tape.trans h.tape, k.output.trans h.output, Nat.le_trans h.size k.size, fun i hi hne => (k.block i (Nat.lt_of_lt_of_le hi h.size) (fun e => by rcases hr i e with e | e; exact hne e; omega)).trans (h.block i hi hne)⟩
theorem Only.of_below {w w' : World} (R : Nat → Prop) (h : Below w.heap.size w w') : Only R w w' := ⟨h.os, h.tape, h.output, h.size, fun k hk _ => h.block k hk⟩
theorem Only.of_grown {R : Nat → Prop} {w w' : World} {row : Option Nat} (h : w.grownBy w' row) (hr : ∀ k, row = some k → R k) : Only R w w' := ⟨h.os, h.tape, h.output, h.size, fun k hk hne => h.block k hk (fun e => hne (hr k e.symm))⟩
theorem Only.drewN {R : Nat → Prop} {a w : World} (h : Only R a w) (n : Nat) : Only R a (w.drewN n) := ⟨h.os, h.tape, h.output, h.size, h.block⟩
theorem Only.alloc {R : Nat → Prop} {a w : World} (h : Only R a w) (o : Obj) : Only R a (w.alloc o) :=
  h.trans (Only.of_below R ((Below.refl _ _).alloc (Nat.le_refl _) o)) (fun _ h => Or.inl h)
theorem Only.later {R : Nat → Prop} {a w w' : World} (h : Only R a w) (hb : Below w.heap.size w w') : Only R a w' :=
  h.trans (Only.of_below R hb) (fun _ h => Or.inl h)
theorem Only.setCell {R : Nat → Prop} {a w : World} (h : Only R a w) {p : Addr} (hp : R p.block ∨ a.heap.size ≤ p.block) (u : Value) : Only R a (w.setCell p u) :=
  h.trans (Only.of_grown (R := fun k => k = p.block) ⟨rfl, rfl, rfl, by simp [World.setCell], fun k _ hk => Below.heap_setCell w p u k (fun e => hk (by rw [e]))⟩ (fun k e => by cases e; rfl)) (fun x hx => by subst hx; exact hp)
theorem Only.setRow {R : Nat → Prop} {a w : World} (h : Only R a w) {g : Nat} (hp : R g ∨ a.heap.size ≤ g) (cs : Array Value) : Only R a (w.setRow g cs) :=
  h.trans (Only.of_grown (R := fun k => k = g) ⟨rfl, rfl, rfl, by simp, fun k _ hk => setRow_other w g k cs (fun e => hk (by rw [e]))⟩ (fun k e => by cases e; rfl)) (fun x hx => by subst hx; exact hp)
theorem Only.below {R : Nat → Prop} {a w : World} (h : Only R a w) {B : Nat} (hB : B ≤ a.heap.size) (hR : ∀ k, R k → B ≤ k) : Below B a w :=
  ⟨h.os, h.tape, h.output, h.size, fun k hk => h.block k (by omega) (fun e => by have := hR k e; omega)⟩
theorem Box.only {R : Nat → Prop} {w w' : World} {b : Nat} {cs : Array Value} {t : TypeId} (h : Box w b cs t) (ho : Only R w w') (hne : ¬ R b) : Box w' b cs t := (ho.block b h.lt hne).trans h
theorem Own.only {R : Nat → Prop} {w w' : World} {B size n cap : Nat} {E : TypeId} {a : Option Addr} {xs : List Value} (h : Own w B E size a n cap xs) (ho : Only R w w') (hne : ∀ g, a = some ⟨g, 0, none⟩ → ¬ R g) : Own w' B E size a n cap xs :=
  h.blocks fun g e => ho.block g (by subst e; exact h.lt.2) (hne g e)
theorem own_not_box {w : World} {B size n cap H : Nat} {E t : TypeId} {xs : List Value} {g : Nat} {cs : Array Value} (h : Own w B E size (some ⟨g, 0, none⟩) n cap xs) (hb : Box w H cs t) (hne : t ≠ E) : g ≠ H := fun e => by
  subst e
  obtain ⟨cur, hg, _⟩ := h.block
  have : w.heap[g]? = some (.cells cs t (0, 0)) := hb
  rw [hg] at this
  injection this with this
  injection this with _ h2 _
  exact hne h2.symm
theorem own_lt {w : World} {B size n cap k : Nat} {E : TypeId} {a : Option Addr} {xs : List Value} (h : Own w B E size a n cap xs) (hk : a = some ⟨k, 0, none⟩) : k < w.heap.size ∧ B ≤ k := by
  subst hk
  exact ⟨h.lt.2, h.lt.1⟩
theorem box_other {w : World} {b g : Nat} {cs ds : Array Value} {t u : TypeId} (h : Box w b cs t) (k : Box w g ds u) (hne : t ≠ u) : b ≠ g := fun e => by
  subst e
  have h1 : w.heap[b]? = some (.cells cs t (0, 0)) := h
  have h2 : w.heap[b]? = some (.cells ds u (0, 0)) := k
  rw [h1] at h2
  injection h2 with h2
  injection h2 with _ h2 _
  exact hne h2
end Go.Proofs.YteinblpkcpjpnaaGreatDoor
