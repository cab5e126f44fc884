/- Part of a chain: SpMap. -/
import Derived.Test.YtimkgaokcldgkaaGreatDoorFq00
import Derived.Test.YtimkgaokcldgkaaGreatDoorChecked
import Derived.Maps.OwnSet
import Derived.Maps.Range
import Derived.Maps.Views
import Derived.Lib.SlKeysI
import Derived.Lib.Hide
/- A map whose elements read as themselves, told by a list of keys and elements. No program here but its types. -/
namespace Go.Proofs.YtimkgaokcldgkaaGreatDoor
open Go Go.RowKit Go.Maps
set_option linter.unusedVariables false
set_option linter.unusedSimpArgs false
set_option maxRecDepth 10000

section
variable {κ α : Type} [DecidableEq κ]
/-- What lies at a key. -/
def gA : List (κ × α) → κ → Option α
  | [], _ => none
  | (m, c) :: t, n => if m = n then some c else gA t n
/-- An element at a key: in its place, or last. -/
def pA : List (κ × α) → κ → α → List (κ × α)
  | [], n, b => [(n, b)]
  | (m, c) :: t, n, b => if m = n then (n, b) :: t else (m, c) :: pA t n b
def dA (S : List (κ × α)) (n : κ) : List (κ × α) := S.filter fun p => decide (p.1 ≠ n)
theorem gA_put (S : List (κ × α)) (n : κ) (b : α) (k : κ) : gA (pA S n b) k = if k = n then some b else gA S k := by
  induction S with
  | nil =>
    unfold pA gA gA
    by_cases h : k = n
    · rw [if_pos h, if_pos h.symm]
    · rw [if_neg h, if_neg (fun e => h e.symm)]
  | cons x t ih =>
    obtain ⟨m, c⟩ := x
    unfold pA
    by_cases h2 : m = n
    · rw [if_pos h2]
      by_cases h : k = n
      · rw [if_pos h]; unfold gA; rw [if_pos h.symm]
      · rw [if_neg h, gA, gA, if_neg (fun e => h e.symm), if_neg (fun e => h (e.symm.trans h2))]
    · rw [if_neg h2, gA, ih, gA]
      by_cases h3 : m = k
      · rw [if_pos h3, if_pos h3, if_neg (fun e => h2 (h3.trans e))]
      · rw [if_neg h3, if_neg h3]
theorem gA_del (S : List (κ × α)) (n k : κ) : gA (dA S n) k = if k = n then none else gA S k := by
  unfold dA
  induction S with
  | nil => unfold gA; simp [gA]
  | cons x t ih =>
    obtain ⟨m, c⟩ := x
    by_cases h2 : m = n
    · rw [List.filter_cons_of_neg (by simp [h2]), ih, gA]
      by_cases h : k = n
      · rw [if_pos h, if_pos h]
      · rw [if_neg h, if_neg h, if_neg (fun e => h (e.symm.trans h2))]
    · rw [List.filter_cons_of_pos (by simp [h2]), gA, ih, gA]
      by_cases h3 : m = k
      · rw [if_pos h3, if_pos h3, if_neg (fun e => h2 (h3.trans e))]
      · rw [if_neg h3, if_neg h3]
theorem gA_keys {S : List (κ × α)} {n : κ} : n ∈ S.map Prod.fst ↔ (gA S n).isSome = true := by
  induction S with
  | nil => simp [gA]
  | cons x t ih =>
    obtain ⟨m, c⟩ := x
    rw [gA, List.map_cons, List.mem_cons, ih]
    by_cases h : m = n
    · simp [h]
    · rw [if_neg h]
      constructor
      · rintro (h' | h')
        · exact absurd h'.symm h
        · exact h'
      · exact Or.inr
theorem pA_keys (S : List (κ × α)) (n : κ) (b : α) (k : κ) : k ∈ (pA S n b).map Prod.fst ↔ k = n ∨ k ∈ S.map Prod.fst := by
  rw [gA_keys, gA_put, gA_keys]
  by_cases h : k = n
  · simp [h]
  · simp [h]
theorem nd_put {S : List (κ × α)} (h : (S.map Prod.fst).Nodup) (n : κ) (b : α) : ((pA S n b).map Prod.fst).Nodup := by
  induction S with
  | nil => simp [pA]
  | cons x t ih =>
    obtain ⟨m, c⟩ := x
    rw [List.map_cons, List.nodup_cons] at h
    unfold pA
    by_cases h2 : m = n
    · rw [if_pos h2, List.map_cons, List.nodup_cons]
      exact ⟨h2 ▸ h.1, h.2⟩
    · rw [if_neg h2, List.map_cons, List.nodup_cons]
      refine ⟨fun hm => ?_, ih h.2⟩
      rcases (pA_keys t n b m).1 hm with e | e
      · exact h2 e
      · exact h.1 e
theorem nd_del {S : List (κ × α)} (h : (S.map Prod.fst).Nodup) (n : κ) : ((dA S n).map Prod.fst).Nodup :=
  List.Sublist.nodup (List.Sublist.map _ List.filter_sublist) h
theorem len_pA (S : List (κ × α)) (n : κ) (b : α) : (pA S n b).length = if (gA S n).isSome then S.length else S.length + 1 := by
  induction S with
  | nil => rfl
  | cons x t ih =>
    obtain ⟨m, c⟩ := x
    unfold pA
    rw [gA]
    by_cases h2 : m = n
    · rw [if_pos h2, if_pos h2]; rfl
    · rw [if_neg h2, if_neg h2, List.length_cons, ih, List.length_cons]
      split <;> rfl
theorem len_dA (S : List (κ × α)) (n : κ) : (dA S n).length ≤ S.length := List.length_filter_le _ _
end
/-- An element reads as itself. -/
def RHm : Value → Option (DataW Value × List MemPlace) := fun v => some (.held v, [])
/-- Keys as values, and the type of a map with such keys. -/
structure MTy (P : Program) (mt kt et : TypeId) {κ : Type} (lit : κ → Lit) (kv : κ → Value) (ok : κ → Prop) (z : Value) : Prop where
  und : P.underlying mt = some (.map kt et)
  key : Keyed P kt
  inj : ∀ a b, lit a = lit b → a = b
  isl : ∀ k, ok k → WideAt.IsKeyLit (lit k)
  kof : ∀ k, ok k → keyOf P kt (kv k) = some (lit k)
  onto : ∀ v l, keyOf P kt v = some l → ∃ n, ok n ∧ lit n = l
  zer : ∀ w, (zeroValue et).run P w = .ok z w
section
variable {κ α : Type} [DecidableEq κ] {P : Program} {mt kt et : TypeId} {lit : κ → Lit} {kv : κ → Value} {ok : κ → Prop} {z : Value} {val : α → Value}
/-- A map in block bm, with these keys and elements. -/
structure Am (P : Program) (kt : TypeId) (lit : κ → Lit) (ok : κ → Prop) (val : α → Value) (w : World) (bm : Nat) (S : List (κ × α)) : Prop where
  mp : ∃ (D : DataW Value) (m : Nat), w.ownsMap P kt RHm bm m D ∧ (∀ n, Maps.has D (lit n) = (gA S n).isSome) ∧ ∀ n b, gA S n = some b → ∀ z, D.atKey (lit n) z = .held (val b)
  nd : (S.map Prod.fst).Nodup
  kk : ∀ p ∈ S, ok p.1
theorem am_tight {w : World} {b m : Nat} {D : DataW Value} (h : w.ownsMap P kt RHm b m D) : w.ownsMap P kt RHm b (Maps.size D) D := by
  obtain ⟨es, cl, h1, h2, _, rfl⟩ := h
  exact ⟨es, cl, h1, h2, by simp [Maps.size, length_sorted], rfl⟩
theorem am_blk {w w' : World} {b m : Nat} {D : DataW Value} (h : w.ownsMap P kt RHm b m D) (he : w'.heap[b]? = w.heap[b]?) : w'.ownsMap P kt RHm b m D := by
  obtain ⟨es, cl, hm, h2⟩ := h
  exact ⟨es, cl, he.trans hm, h2⟩
theorem Am.lt {w : World} {bm : Nat} {S : List (κ × α)} (h : Am P kt lit ok val w bm S) : bm < w.heap.size := by
  obtain ⟨D, m, ho, _⟩ := h.mp
  exact ho.lt
theorem Am.block {w w' : World} {bm : Nat} {S : List (κ × α)} (h : Am P kt lit ok val w bm S) (he : w'.heap[bm]? = w.heap[bm]?) : Am P kt lit ok val w' bm S := by
  obtain ⟨D, m, ho, h2⟩ := h.mp
  exact ⟨⟨D, m, am_blk ho he, h2⟩, h.nd, h.kk⟩
theorem Am.later {w w' : World} {bm : Nat} {S : List (κ × α)} (h : Am P kt lit ok val w bm S) (hb : Below w.heap.size w w') : Am P kt lit ok val w' bm S := h.block (hb.block _ h.lt)
theorem Am.new (w : World) : Am P kt lit ok val (w.alloc (.map #[] 0)) w.heap.size ([] : List (κ × α)) :=
  ⟨⟨.map [], 0, World.ownsMap_made _ _ _ _, fun n => rfl, fun n b h => by cases h⟩, by simp, fun p hp => by cases hp⟩
/-- The keys, in the order of the map's own. -/
theorem Am.keys {w : World} {bm : Nat} {S : List (κ × α)} (h : Am P kt lit ok val w bm S) (T : MTy P mt kt et lit kv ok z) :
    ∃ (D : DataW Value) (es : List (Lit × DataW Value)), D = .map es ∧ w.ownsMap P kt RHm bm S.length D ∧ (S.map fun p => lit p.1).Perm (es.map Prod.fst) ∧ (∀ n, Maps.has D (lit n) = (gA S n).isSome) ∧ ∀ n b, gA S n = some b → ∀ z, D.atKey (lit n) z = .held (val b) := by
  obtain ⟨D, m, ho, hh, ha⟩ := h.mp
  obtain ⟨es, rfl, hp, hk⟩ := ho.entries T.key
  have hki : ∀ p ∈ es, ∃ n, ok n ∧ lit n = p.1 := by
    obtain ⟨es2, e2, hk2⟩ := ho.keysOf
    injection e2 with e2
    subst e2
    intro p hp'
    obtain ⟨v, hv⟩ := hk2 p hp'
    exact T.onto v _ hv
  have h1 : (S.map fun p => lit p.1).Nodup := by
    rw [show (S.map fun p => lit p.1) = (S.map Prod.fst).map lit by rw [List.map_map]; rfl]
    unfold List.Nodup
    rw [List.pairwise_map]
    exact List.Pairwise.imp (fun hne e => hne (T.inj _ _ e)) h.nd
  have h2 : (es.map Prod.fst).Nodup := by
    unfold List.Nodup
    rw [List.pairwise_map]
    exact hp
  have hmem : ∀ n : κ, lit n ∈ es.map Prod.fst ↔ Maps.has (.map es : DataW Value) (lit n) = true := fun n => by
    rw [Maps.has_eq, List.any_eq_true, List.mem_map]
    constructor
    · rintro ⟨p, hp1, hp2⟩
      exact ⟨p, hp1, by rw [← hp2]; exact WideAt.sameKey_self (hk p hp1)⟩
    · rintro ⟨p, hp1, hp2⟩
      exact ⟨p, hp1, WideAt.sameKey_eq hp2⟩
  have hP : (S.map fun p => lit p.1).Perm (es.map Prod.fst) := (List.perm_ext_iff_of_nodup h1 h2).2 fun l => by
    constructor
    · intro hl
      obtain ⟨p, hp, rfl⟩ := List.mem_map.1 hl
      rw [hmem, hh]
      exact gA_keys.1 (List.mem_map_of_mem hp)
    · intro hl
      obtain ⟨p, hp, rfl⟩ := List.mem_map.1 hl
      obtain ⟨n, _, hn⟩ := hki p hp
      rw [← hn] at hl ⊢
      rw [hmem, hh] at hl
      obtain ⟨q, hq, e⟩ := List.mem_map.1 (gA_keys.2 hl)
      exact List.mem_map.2 ⟨q, hq, by rw [e]⟩
  have h3 : Maps.size (.map es : DataW Value) = S.length := by
    have := hP.length_eq
    rw [List.length_map, List.length_map] at this
    rw [this]
    rfl
  have h4 := am_tight ho
  rw [h3] at h4
  exact ⟨_, es, rfl, h4, hP, hh, ha⟩
theorem Am.look_ok {w : World} {bm : Nat} {S : List (κ × α)} (h : Am P kt lit ok val w bm S) (T : MTy P mt kt et lit kv ok z) (n : κ) (hn : ok n) :
    (Instr.lookup mt (.map (some bm)) (kv n) true).run P w = .ok (.tuple #[((gA S n).map val).getD z, .bool (gA S n).isSome]) w := by
  obtain ⟨D, m, ho, hh, ha⟩ := h.mp
  obtain ⟨v, ps, h1, h2⟩ := ho.look_ok T.key T.und (T.zer w) (zd := .held z) (zp := []) rfl (T.kof n hn)
  rw [hh n] at h1
  rw [h1]
  cases hg : gA S n with
  | none =>
    rw [Maps.atKey_of_not_has (by rw [hh n, hg]; rfl)] at h2
    unfold RHm at h2
    injection h2 with h2
    injection h2 with h2 _
    injection h2 with h2
    rw [h2]
    rfl
  | some b =>
    rw [ha n b hg] at h2
    unfold RHm at h2
    injection h2 with h2
    injection h2 with h2 _
    injection h2 with h2
    rw [h2]
    rfl
theorem Am.look {w : World} {bm : Nat} {S : List (κ × α)} (h : Am P kt lit ok val w bm S) (T : MTy P mt kt et lit kv ok z) (n : κ) (hn : ok n) :
    (Instr.lookup mt (.map (some bm)) (kv n) false).run P w = .ok (((gA S n).map val).getD z) w := by
  obtain ⟨D, m, ho, hh, ha⟩ := h.mp
  obtain ⟨v, ps, h1, h2⟩ := ho.lookup T.key T.und (T.zer w) (zd := .held z) (zp := []) rfl (T.kof n hn)
  rw [h1]
  cases hg : gA S n with
  | none =>
    rw [Maps.atKey_of_not_has (by rw [hh n, hg]; rfl)] at h2
    unfold RHm at h2
    injection h2 with h2
    injection h2 with h2 _
    injection h2 with h2
    rw [h2]
    rfl
  | some b =>
    rw [ha n b hg] at h2
    unfold RHm at h2
    injection h2 with h2
    injection h2 with h2 _
    injection h2 with h2
    rw [h2]
    rfl
theorem Am.store {w : World} {bm : Nat} {S : List (κ × α)} (h : Am P kt lit ok val w bm S) (T : MTy P mt kt et lit kv ok z) (n : κ) (hn : ok n) (b : α) (hl : S.length ≤ 100000000) :
    ∃ w', (Instr.mapUpdate mt (.map (some bm)) (kv n) (val b)).run P w = .ok () w' ∧ Am P kt lit ok val w' bm (pA S n b) ∧ w.mapTurned w' bm := by
  obtain ⟨D, es, hes, hm, _, hh, ha⟩ := h.keys T
  obtain ⟨w', h1, h2, h3⟩ := hm.store T.key T.und (by unfold maxLen; omega) (T.kof n hn) (val := val b) (d := .held (val b)) (ps := []) rfl
  have hne : ∀ k, k ≠ n → lit k ≠ lit n := fun k hk e => hk (T.inj _ _ e)
  refine ⟨w', h1, ⟨⟨_, _, h2, fun k => ?_, fun k b' hk z => ?_⟩, nd_put h.nd n b, fun p hp => ?_⟩, h3⟩
  · by_cases e : k = n
    · subst e
      rw [has_put_same hm.isMap (T.isl k hn), gA_put, if_pos rfl]
      rfl
    · rw [has_put_other (hne k e), gA_put, if_neg e]
      exact hh k
  · rw [gA_put] at hk
    by_cases e : k = n
    · subst e
      rw [if_pos rfl] at hk
      rw [atKey_put_same hm.isMap (T.isl k hn), Option.some.inj hk]
    · rw [if_neg e] at hk
      rw [atKey_put_other (hne k e), ha k b' hk]
  · rcases (pA_keys S n b p.1).1 (List.mem_map_of_mem hp) with e | e
    · rw [e]; exact hn
    · obtain ⟨q, hq, e⟩ := List.mem_map.1 e
      rw [← e]; exact h.kk q hq
theorem Am.drop {w : World} {bm : Nat} {S : List (κ × α)} (h : Am P kt lit ok val w bm S) (T : MTy P mt kt et lit kv ok z) (n : κ) (hn : ok n) (ty : TypeId) :
    ∃ w', (Builtin.delete_ #[mt, kt] ty #[.map (some bm), kv n]).run P w = .ok (.tuple #[]) w' ∧ Am P kt lit ok val w' bm (dA S n) ∧ w.mapTurned w' bm := by
  obtain ⟨D, m, hm, hh, ha⟩ := h.mp
  obtain ⟨w', h1, h2, h3⟩ := hm.drop T.key T.und (T.kof n hn) ty
  have hne : ∀ k, k ≠ n → lit k ≠ lit n := fun k hk e => hk (T.inj _ _ e)
  refine ⟨w', h1, ⟨⟨_, _, h2, fun k => ?_, fun k b' hk z => ?_⟩, nd_del h.nd n, fun p hp => h.kk p ((List.mem_filter.1 hp).1)⟩, h3⟩
  · by_cases e : k = n
    · subst e
      rw [has_del_same, gA_del, if_pos rfl]
      rfl
    · rw [has_del_other (hne k e), gA_del, if_neg e]
      exact hh k
  · rw [gA_del] at hk
    by_cases e : k = n
    · rw [if_pos e] at hk; cases hk
    · rw [if_neg e] at hk
      rw [atKey_del_other (hne k e), ha k b' hk]
theorem Am.len {w : World} {bm : Nat} {S : List (κ × α)} (h : Am P kt lit ok val w bm S) (T : MTy P mt kt et lit kv ok z) (ty : TypeId) :
    (Builtin.len_ #[mt] ty #[.map (some bm)]).run P w = .ok (.int .i64 S.length) w := by
  obtain ⟨D, es, rfl, hm, hP, _, _⟩ := h.keys T
  rw [hm.len T.und ty]
  have := hP.length_eq
  rw [List.length_map, List.length_map] at this
  rw [this]
  rfl
end
end Go.Proofs.YtimkgaokcldgkaaGreatDoor
