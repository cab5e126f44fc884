/- Package intern: what a table is in memory, and what its functions make of it. -/
import Derived.Test.YthoakigbjhlababChecked
import Derived.Test.YthoakigbjhlababBox
import Derived.Maps.OwnSet
import Derived.Maps.AppendAt
import Derived.WideKeyArgs2
namespace Go.Proofs.Ythoakigbjhlabab
open Go.RowKit Go.Maps Go.WideMaps

theorem lawK : Keyed Try.prog 9 := string_keyed Try.underlying9
theorem zeroI (w : World) : (zeroValue 3).run Try.prog w = .ok (.int .i64 0) w := by kernel_rfl
theorem infoS : (Try.prog.info? 9).map (fun i => (i.zero, i.size, i.bytes)) = some (some (.string ByteArray.empty), 1, 16) := by kernel_rfl

/-- What a name is as a key of a map. -/
def kl (s : ByteArray) : Lit := .string s.data.toList
theorem kl_ne {s t : ByteArray} (h : s ≠ t) : kl s ≠ kl t := by
  intro e
  apply h
  unfold kl at e
  injection e with e
  exact ByteArray.ext (Array.toList_inj.1 e)
/-- Where a name stands. -/
def pos : List ByteArray → ByteArray → Nat
  | [], _ => 0
  | x :: xs, s => if x.data = s.data then 0 else pos xs s + 1
theorem pos_new : ∀ {ns : List ByteArray} {s : ByteArray}, s ∉ ns → pos (ns ++ [s]) s = ns.length
  | [], s, _ => by simp [pos]
  | x :: xs, s, h => by
    have h1 : x.data ≠ s.data := fun e => h (by simp [ByteArray.ext e])
    have h2 : s ∉ xs := fun e => h (by simp [e])
    simp [pos, h1, pos_new h2]
theorem pos_old : ∀ {ns : List ByteArray} {s t : ByteArray}, t ∈ ns → pos (ns ++ [s]) t = pos ns t
  | [], s, t, h => by simp at h
  | x :: xs, s, t, h => by
    by_cases e : x = t
    · simp [pos, e]
    · have h2 : t ∈ xs := by simpa [Ne.symm e] using h
      have h3 : x.data ≠ t.data := fun h => e (ByteArray.ext h)
      simp [pos, h3, pos_old h2]
theorem pos_get : ∀ {ns : List ByteArray} {s : ByteArray}, s ∈ ns → ns[pos ns s]? = some s
  | [], s, h => by simp at h
  | x :: xs, s, h => by
    by_cases e : x = s
    · simp [pos, e]
    · have h2 : s ∈ xs := by simpa [Ne.symm e] using h
      have h3 : x.data ≠ s.data := fun h => e (ByteArray.ext h)
      simp [pos, h3, pos_get h2]
theorem pos_lt {ns : List ByteArray} {s : ByteArray} (h : s ∈ ns) : pos ns s < ns.length := by
  have := pos_get h
  exact (List.getElem?_eq_some_iff.1 this).1
theorem grown_of_below {w w' : World} (h : Below w.heap.size w w') : w.grownBy w' none := ⟨h.os, h.tape, h.output, h.size, fun k hk _ => h.block k hk⟩
theorem Box.kept {w w' : World} {b : Nat} {cs : Array Value} {t : TypeId} {row : Option Nat} (h : Box w b cs t) (hg : w.grownBy w' row) (hne : some b ≠ row) : Box w' b cs t := (hg.block b h.lt hne).trans h
theorem own_slice {w : World} {base : Nat} {e : TypeId} {size : Nat} {v : Value} {n : Nat} {xs : List Value} (h : w.ownsRow base e size v n xs) : ∃ a cap, v = .slice a n cap := by
  rcases h.2 with ⟨rfl, rfl⟩ | ⟨g, cap, _, rfl, _⟩
  · exact ⟨_, _, rfl⟩
  · exact ⟨_, _, rfl⟩
theorem row_kept {w w' : World} {base : Nat} {e : TypeId} {size : Nat} {v : Value} {n : Nat} {xs : List Value} {row : Option Nat} (h : w.ownsRow base e size v n xs) (hg : w.grownBy w' row) (hne : ∀ k, v.ownBlock = some k → some k ≠ row) : w'.ownsRow base e size v n xs := by
  refine ⟨h.1, ?_⟩
  rcases h.2 with hv | ⟨g, cap, cur, rfl, hg0, hh, r⟩
  · exact Or.inl hv
  · exact Or.inr ⟨g, cap, cur, rfl, hg0, (hg.block g (lt_of_block hh) (hne g rfl)).trans hh, r⟩

/-- What a map tells of names. -/
def Tells (D : DataW Unit) (ns : List ByteArray) : Prop :=
  (∀ s, s ∈ ns → Maps.has D (kl s) = true ∧ D.atKey (kl s) (.lit (.int .i64 0)) = .lit (.int .i64 (pos ns s))) ∧ ∀ s, s ∉ ns → Maps.has D (kl s) = false ∧ D.atKey (kl s) (.lit (.int .i64 0)) = .lit (.int .i64 0)
theorem Tells.new {D : DataW Unit} {ns : List ByteArray} {s : ByteArray} (h : Tells D ns) (hm : IsMap D) (hk : WideAt.IsKeyLit (kl s)) (hs : s ∉ ns) : Tells (D.put (kl s) (.lit (.int .i64 ns.length))) (ns ++ [s]) := by
  refine ⟨fun t ht => ?_, fun t ht => ?_⟩
  · by_cases e : t = s
    · subst e
      rw [has_put_same hm hk, atKey_put_same hm hk, pos_new hs]
      exact ⟨rfl, rfl⟩
    · have h2 : t ∈ ns := by simpa [e] using ht
      rw [has_put_other (kl_ne e), atKey_put_other (kl_ne e), pos_old h2]
      exact h.1 t h2
  · have e : t ≠ s := fun e => ht (by simp [e])
    have h2 : t ∉ ns := fun h => ht (by simp [h])
    rw [has_put_other (kl_ne e), atKey_put_other (kl_ne e)]
    exact h.2 t h2

/-- In block p lies a table of so many names at most, with these. -/
structure Tab (w : World) (B p bm : Nat) (a : Option Addr) (cap : Nat) (most : Int) (ns : List ByteArray) : Prop where
  box : Box w p #[.int .i64 most, .slice a ns.length cap, .map (some bm)] 62
  map : ∃ D : DataW Unit, w.ownsMap Try.prog 9 (plainElem Try.prog 3) bm ns.length D ∧ Tells D ns
  row : w.ownsRow B 9 1 (.slice a ns.length cap) ns.length (ns.map Value.string)
  hp : B ≤ p
  hm : B ≤ bm
  pm : p ≠ bm
  sep : ∀ x, a = some x → x.block ≠ p ∧ x.block ≠ bm

theorem Tab.grown {w w' : World} {B p bm : Nat} {a : Option Addr} {cap : Nat} {most : Int} {ns : List ByteArray} (h : Tab w B p bm a cap most ns) {row : Option Nat} (hg : w.grownBy w' row) (h1 : some p ≠ row) (h2 : some bm ≠ row) (h3 : ∀ x, a = some x → some x.block ≠ row) : Tab w' B p bm a cap most ns := by
  obtain ⟨D, hD, r⟩ := h.map
  refine ⟨h.box.kept hg h1, ⟨D, hD.kept hg h2, r⟩, row_kept h.row hg ?_, h.hp, h.hm, h.pm, h.sep⟩
  intro k hk
  cases a with
  | none => simp [Value.ownBlock] at hk
  | some x => simp [Value.ownBlock] at hk; subst hk; exact h3 x rfl
theorem Tab.later {w w' : World} {B p bm : Nat} {a : Option Addr} {cap : Nat} {most : Int} {ns : List ByteArray} (h : Tab w B p bm a cap most ns) (hb : Below w.heap.size w w') : Tab w' B p bm a cap most ns :=
  h.grown (grown_of_below hb) (fun e => by cases e) (fun e => by cases e) (fun _ _ e => by cases e)

set_option maxHeartbeats 1000000 in
theorem new_table (most : Int) (w : World) : Calls Try.prog 11 #[.int .i64 most] w fun e w' =>
    e = .returned (.pointer (some ⟨w.heap.size + 1, 0, none⟩)) ∧ Tab w' w.heap.size (w.heap.size + 1) w.heap.size none 0 most [] ∧ Below w.heap.size w w' := by
  have hmm := @run_makeMap Try.prog
  go_enter Try.func11, Try.ntmps11
  go_wp2
  go_ret
  refine ⟨rfl, ⟨?_, ⟨.map [], (World.ownsMap_made _ _ _ _).alloc _, fun s hs => (by simp at hs), fun s _ => ⟨rfl, by rfl⟩⟩, World.ownsRow_nil _ _ _ _, Nat.le_succ _, Nat.le_refl _, by omega, by simp⟩, ((Below.refl _ _).alloc (Nat.le_refl _) _).alloc (by simp) _⟩
  have := Box.new (w.alloc (.map #[] 0)) #[.int .i64 most, .slice none 0 0, .map (some w.heap.size)] 62
  rw [World.size_alloc] at this
  exact this

theorem find_none (s : ByteArray) (w : World) : Calls Try.prog 12 #[.pointer none, .string s] w fun e w' => e = .returned (.tuple #[.int .i64 0, .bool false]) ∧ w' = w := by
  go_enter Try.func12, Try.ntmps12
  go_wp2
  go_ret2
  exact ⟨rfl, rfl⟩
theorem add_none (s : ByteArray) (w : World) : Calls Try.prog 13 #[.pointer none, .string s] w fun e w' => e = .returned (.tuple #[.int .i64 0, .int .i64 1]) ∧ w' = w := by
  go_enter Try.func13, Try.ntmps13
  go_wp2
  go_ret2
  exact ⟨rfl, rfl⟩
theorem name_none (n : Int) (w : World) : Calls Try.prog 15 #[.pointer none, .int .i64 n] w fun e w' => e = .returned (.tuple #[.string ByteArray.empty, .bool false]) ∧ w' = w := by
  go_enter Try.func15, Try.ntmps15
  go_wp2
  go_ret2
  exact ⟨rfl, rfl⟩
theorem len_none (w : World) : Calls Try.prog 14 #[.pointer none] w fun e w' => e = .returned (.int .i64 0) ∧ w' = w := by
  go_enter Try.func14, Try.ntmps14
  go_wp2
  go_ret
  exact ⟨rfl, rfl⟩

section
variable {w : World} {B p bm : Nat} {a : Option Addr} {cap : Nat} {most : Int} {ns : List ByteArray}

theorem len_table (h : Tab w B p bm a cap most ns) : Calls Try.prog 14 #[.pointer (some ⟨p, 0, none⟩)] w fun e w' => e = .returned (.int .i64 ns.length) ∧ w' = w := by
  obtain ⟨l, c, f⟩ := h.box.facts
  clear h
  go_enter Try.func14, Try.ntmps14
  go_wp2
  go_ret
  exact ⟨rfl, rfl⟩

theorem name_low (h : Tab w B p bm a cap most ns) (n : Int) (hn : n < 0) : Calls Try.prog 15 #[.pointer (some ⟨p, 0, none⟩), .int .i64 n] w fun e w' => e = .returned (.tuple #[.string ByteArray.empty, .bool false]) ∧ w' = w := by
  obtain ⟨l, c, f⟩ := h.box.facts
  clear h
  go_enter Try.func15, Try.ntmps15
  go_wp2
  go_ret2
  exact ⟨rfl, rfl⟩
theorem name_high (h : Tab w B p bm a cap most ns) (n : Int) (hn : 0 ≤ n) (hn2 : ns.length ≤ n) : Calls Try.prog 15 #[.pointer (some ⟨p, 0, none⟩), .int .i64 n] w fun e w' => e = .returned (.tuple #[.string ByteArray.empty, .bool false]) ∧ w' = w := by
  obtain ⟨l, c, f⟩ := h.box.facts
  clear h
  go_enter Try.func15, Try.ntmps15
  go_wp2
  go_ret2
  exact ⟨rfl, rfl⟩
end
end Go.Proofs.Ythoakigbjhlabab
