/- Part of a chain: CmpM, DkMath, Box, Forget. -/
import Derived.Lib.Hide
import Derived.WalkKit
import Derived.WalkSpells
import Derived.WalkLawsBesides
import Derived.Below
import Derived.OneCell
import Derived.Laws.Tables
import Derived.Laws.CopyOwn
/- The order of numbers as Go's cmp tells it. No program here. -/
namespace Go.Proofs.YtimkgaokcldgkaaGreatDoor
def cmpI (x y : Int) : Int := if x < y then -1 else if y < x then 1 else 0
def orI (x y : Int) : Int := if x = 0 then y else x
end Go.Proofs.YtimkgaokcldgkaaGreatDoor
/- The simulated disk, told by lists: segments by number, rising; pieces not yet synced. No program here. -/
namespace Go.Proofs.YtimkgaokcldgkaaGreatDoor
open Go
set_option linter.unusedVariables false

abbrev Sgs := List (Int × List Int)
abbrev Pcs := List (Int × Nat)
def gS : Sgs → Int → Option (List Int)
  | [], _ => none
  | (m, c) :: t, n => if m = n then some c else gS t n
def pS : Sgs → Int → List Int → Sgs
  | [], n, b => [(n, b)]
  | (m, c) :: t, n, b => if n < m then (n, b) :: (m, c) :: t else if m = n then (n, b) :: t else (m, c) :: pS t n b
def SS (S : Sgs) : Prop := S.Pairwise fun p q => p.1 < q.1
def gD (S : Sgs) (n : Int) : List Int := (gS S n).getD []
theorem gS_put (S : Sgs) (n : Int) (b : List Int) (k : Int) : gS (pS S n b) k = if k = n then some b else gS S k := by
  induction S with
  | nil =>
    unfold pS gS gS
    by_cases h : k = n
    · rw [if_pos h, if_pos h.symm]
    · rw [if_neg h, if_neg (fun e => h e.symm)]
  | cons x t ih =>
    obtain ⟨m, c⟩ := x
    unfold pS
    by_cases h1 : n < m
    · rw [if_pos h1]
      by_cases h : k = n
      · rw [if_pos h]; unfold gS; rw [if_pos h.symm]
      · rw [if_neg h]; rw [gS, if_neg (fun e => h e.symm)]
    · rw [if_neg h1]
      by_cases h2 : m = n
      · rw [if_pos h2]
        by_cases h : k = n
        · rw [if_pos h]; unfold gS; rw [if_pos h.symm]
        · rw [if_neg h, gS, gS, if_neg (fun e => h e.symm), if_neg (fun e => h (e.symm.trans h2))]
      · rw [if_neg h2, gS, ih, gS]
        by_cases h3 : m = k
        · rw [if_pos h3, if_pos h3, if_neg (fun e => h2 (h3.trans e))]
        · rw [if_neg h3, if_neg h3]
theorem pS_mem {S : Sgs} {n : Int} {b : List Int} {p : Int × List Int} (h : p ∈ pS S n b) : p = (n, b) ∨ p ∈ S := by
  induction S with
  | nil => exact Or.inl (by simpa [pS] using h)
  | cons x t ih =>
    obtain ⟨m, c⟩ := x
    unfold pS at h
    split at h
    · rcases List.mem_cons.1 h with h | h
      · exact Or.inl h
      · exact Or.inr h
    · split at h
      · rcases List.mem_cons.1 h with h | h
        · exact Or.inl h
        · exact Or.inr (List.mem_cons_of_mem _ h)
      · rcases List.mem_cons.1 h with h | h
        · exact Or.inr (h ▸ List.mem_cons_self)
        · rcases ih h with h | h
          · exact Or.inl h
          · exact Or.inr (List.mem_cons_of_mem _ h)
theorem SS_put {S : Sgs} (h : SS S) (n : Int) (b : List Int) : SS (pS S n b) := by
  unfold SS at *
  induction S with
  | nil => exact List.pairwise_singleton _ _
  | cons x t ih =>
    obtain ⟨m, c⟩ := x
    obtain ⟨h1, h2⟩ := List.pairwise_cons.1 h
    unfold pS
    split
    · rename_i hn
      refine List.pairwise_cons.2 ⟨fun q hq => ?_, h⟩
      rcases List.mem_cons.1 hq with hq | hq
      · rw [hq]; exact hn
      · have := h1 q hq
        exact Int.lt_trans hn this
    · split
      · rename_i hn hm
        subst hm
        exact List.pairwise_cons.2 ⟨fun q hq => h1 q hq, h2⟩
      · rename_i hn hm
        refine List.pairwise_cons.2 ⟨fun q hq => ?_, ih h2⟩
        rcases pS_mem hq with hq | hq
        · rw [hq]
          show m < n
          omega
        · exact h1 q hq
theorem gS_low {S : Sgs} {n : Int} (h : ∀ p ∈ S, n < p.1) : gS S n = none := by
  induction S with
  | nil => rfl
  | cons x t ih =>
    obtain ⟨m, c⟩ := x
    have h1 : n < m := h (m, c) List.mem_cons_self
    rw [gS, if_neg (by omega), ih (fun p hp => h p (List.mem_cons_of_mem _ hp))]
theorem len_put {S : Sgs} (h : SS S) (n : Int) (b : List Int) : (pS S n b).length = if (gS S n).isSome then S.length else S.length + 1 := by
  unfold SS at h
  induction S with
  | nil => rfl
  | cons x t ih =>
    obtain ⟨m, c⟩ := x
    obtain ⟨h1, h2⟩ := List.pairwise_cons.1 h
    unfold pS
    split
    · rename_i hn
      have : gS ((m, c) :: t) n = none := gS_low fun p hp => by
        rcases List.mem_cons.1 hp with hp | hp
        · rw [hp]; exact hn
        · exact Int.lt_trans hn (h1 p hp)
      rw [this]
      rfl
    · split
      · rename_i hn hm
        rw [gS, if_pos hm]
        rfl
      · rename_i hn hm
        rw [gS, if_neg hm, List.length_cons, ih h2, List.length_cons]
        split <;> rfl
theorem gS_keys {S : Sgs} {n : Int} : n ∈ S.map Prod.fst ↔ (gS S n).isSome = true := by
  induction S with
  | nil => simp [gS]
  | cons x t ih =>
    obtain ⟨m, c⟩ := x
    rw [gS, List.map_cons, List.mem_cons, ih]
    by_cases h : m = n
    · simp [h]
    · rw [if_neg h]
      constructor
      · rintro (h' | h')
        · exact absurd h'.symm h
        · exact h'
      · exact Or.inr
theorem keys_nodup {S : Sgs} (h : SS S) : (S.map Prod.fst).Nodup := by
  unfold List.Nodup
  rw [List.pairwise_map]
  exact List.Pairwise.imp (fun h => by omega) h
theorem keys_sorted {S : Sgs} (h : SS S) : (S.map Prod.fst).Pairwise fun x y => decide (x ≤ y) = true := by
  rw [List.pairwise_map]
  exact List.Pairwise.imp (fun h => decide_eq_true (by omega)) h
/-- How many bytes of a segment are not yet synced. -/
def loose : Pcs → Int → Nat
  | [], _ => 0
  | (g, z) :: t, n => (if g = n then z else 0) + loose t n
theorem loose_app (u : Pcs) (g : Int) (z : Nat) (n : Int) : loose (u ++ [(g, z)]) n = loose u n + if g = n then z else 0 := by
  induction u with
  | nil => simp [loose]
  | cons x t ih =>
    obtain ⟨m, y⟩ := x
    rw [List.cons_append, loose, ih, loose]
    omega
def UN (S : Sgs) (u : Pcs) : Prop := (∀ p ∈ u, (gS S p.1).isSome = true) ∧ ∀ n, loose u n ≤ (gD S n).length
theorem UN.nil (S : Sgs) : UN S [] := ⟨fun p hp => (by cases hp), fun n => Nat.zero_le _⟩
theorem gD_put (S : Sgs) (n : Int) (b : List Int) (k : Int) : gD (pS S n b) k = if k = n then b else gD S k := by
  unfold gD
  rw [gS_put]
  split <;> rfl
theorem UN.add {S : Sgs} {u : Pcs} (h : UN S u) (n : Int) (b : List Int) : UN (pS S n (gD S n ++ b)) (u ++ [(n, b.length)]) := by
  refine ⟨fun p hp => ?_, fun k => ?_⟩
  · rw [gS_put]
    split
    · rfl
    · rename_i hne
      rcases List.mem_append.1 hp with hp | hp
      · exact h.1 p hp
      · rw [List.mem_singleton] at hp
        rw [hp] at hne
        exact absurd rfl hne
  · rw [loose_app, gD_put]
    have := h.2 k
    by_cases e : k = n
    · subst e
      rw [if_pos rfl, if_pos rfl, List.length_append]
      omega
    · rw [if_neg e, if_neg (fun e' => e e'.symm)]
      exact this
theorem UN.head {S : Sgs} {g : Int} {z : Nat} {t : Pcs} (h : UN S ((g, z) :: t)) : z ≤ (gD S g).length := by
  have := h.2 g
  rw [loose, if_pos rfl] at this
  omega
end Go.Proofs.YtimkgaokcldgkaaGreatDoor
/- Blocks that a call has made itself: what they hold, and what becomes of them. No program here. -/
namespace Go.Proofs.YtimkgaokcldgkaaGreatDoor
open Go.RowKit

/-- Block b holds these cells, and may be written. -/
def Box (w : World) (b : Nat) (cs : Array Value) (t : TypeId) : Prop := w.heap[b]? = some (.cells cs t (0, 0))
theorem cell_blk {w w' : World} {b : Nat} (h : w'.heap[b]? = w.heap[b]?) (j : Nat) : w'.cell? ⟨b, j, none⟩ = w.cell? ⟨b, j, none⟩ := by
  unfold World.cell?
  rw [h]
theorem frz_blk {w w' : World} {b : Nat} (h : w'.heap[b]? = w.heap[b]?) (j : Nat) : w'.frozen? ⟨b, j, none⟩ = w.frozen? ⟨b, j, none⟩ := by
  unfold World.frozen?
  rw [h]
theorem Box.lt {w : World} {b : Nat} {cs : Array Value} {t : TypeId} (h : Box w b cs t) : b < w.heap.size := lt_of_block h
theorem Box.cell {w : World} {b : Nat} {cs : Array Value} {t : TypeId} (h : Box w b cs t) (i : Nat) : w.cell? ⟨b, i, none⟩ = cs[i]? := by
  unfold Box at h
  simp [World.cell?, h]
theorem Box.free {w : World} {b : Nat} {cs : Array Value} {t : TypeId} (h : Box w b cs t) (i : Nat) : w.frozen? ⟨b, i, none⟩ = false := by
  unfold Box at h
  simp [World.frozen?, h]
theorem Box.new (w : World) (cs : Array Value) (t : TypeId) : Box (w.alloc (.cells cs t)) w.heap.size cs t := heap_alloc_new w _
theorem Box.alloc {w : World} {b : Nat} {cs : Array Value} {t : TypeId} (h : Box w b cs t) (o : Obj) : Box (w.alloc o) b cs t := (Below.heap_alloc w o b h.lt).trans h
theorem Box.drew {w : World} {b : Nat} {cs : Array Value} {t : TypeId} (h : Box w b cs t) : Box w.drew b cs t := h
theorem Box.drewN {w : World} {b : Nat} {cs : Array Value} {t : TypeId} (h : Box w b cs t) (n : Nat) : Box (w.drewN n) b cs t := h
theorem Box.below {w w' : World} {b : Nat} {cs : Array Value} {t : TypeId} (h : Box w b cs t) {B : Nat} (hb : Below B w w') (hB : b < B) : Box w' b cs t := (hb.block b hB).trans h
theorem Box.later {w w' : World} {b : Nat} {cs : Array Value} {t : TypeId} (h : Box w b cs t) (hb : Below w.heap.size w w') : Box w' b cs t := h.below hb h.lt
theorem Box.other {w : World} {b : Nat} {cs : Array Value} {t : TypeId} (h : Box w b cs t) {a : Addr} (ha : b ≠ a.block) (v : Value) : Box (w.setCell a v) b cs t := (Below.heap_setCell w a v b ha).trans h
theorem Box.set {w : World} {b : Nat} {cs : Array Value} {t : TypeId} (h : Box w b cs t) (i : Nat) (v : Value) : Box (w.setCell ⟨b, i, none⟩ v) b (cs.setIfInBounds i v) t := by
  have hlt := h.lt
  unfold Box at h ⊢
  have h' : w.heap[b] = .cells cs t (0, 0) := by simpa [Array.getElem?_eq_getElem hlt] using h
  show (w.heap.modify b _)[b]? = _
  rw [Array.getElem?_eq_getElem (by simpa using hlt), Array.getElem_modify_self, h']
  rfl
/-- Of a box the walk is told three things: where it lies, what its cells hold, that they may be written. -/
theorem Box.facts {w : World} {b : Nat} {cs : Array Value} {t : TypeId} (h : Box w b cs t) :
    b < w.heap.size ∧ (∀ i, w.cell? ⟨b, i, none⟩ = cs[i]?) ∧ (∀ i, w.frozen? ⟨b, i, none⟩ = false) := ⟨h.lt, h.cell, h.free⟩

/-! A store of a whole struct into a box, as one step: laid as a rule that is tried ahead of the walk's own (which goes cell by cell). -/
/-- How many cells a block has that may be written. -/
def roomOf (w : World) (g : Nat) : Option Nat := match w.heap[g]? with | some (.cells c _ (0, 0)) => some c.size | _ => none
def cellsFor (P : Program) (t : TypeId) : Option Nat := (P.info? t).map (·.size)
theorem Box.room {w : World} {b : Nat} {cs : Array Value} {t : TypeId} (h : Box w b cs t) : roomOf w b = some cs.size := by
  unfold Box at h
  simp [roomOf, h]
theorem storeAt_row {P : Program} {w : World} {g : Nat} {ty : TypeId} {cells : Array Value} (hr : roomOf w g = some cells.size) (hi : cellsFor P ty = some cells.size) (h1 : cells.all (·.oneCell') = true) :
    (Instr.storeAt ty (.pointer (some ⟨g, 0, none⟩)) (.agg cells)).run P w = .ok () (w.setRow g cells) := by
  unfold roomOf at hr
  split at hr
  · rename_i c t hg
    simp only [Instr.storeAt, Instr.sureAddr, Sem.run_bind, Sem.run_pure, Result.andThen]
    exact run_storeVar_row w g t ty c cells hg hi (by simpa using hr) h1
  · cases hr
theorem Box.setRow {w : World} {b : Nat} {cs : Array Value} {t : TypeId} (h : Box w b cs t) (cs' : Array Value) : Box (w.setRow b cs') b cs' t := setRow_heap w b cs cs' t _ h
theorem Box.otherRow {w : World} {b : Nat} {cs : Array Value} {t : TypeId} (h : Box w b cs t) {g : Nat} (hg : b ≠ g) (cs' : Array Value) : Box (w.setRow g cs') b cs t := (setRow_other w g b cs' hg).trans h
theorem below_row {B g : Nat} {w0 w : World} (hb : Below B w0 w) (hBg : B ≤ g) (cs : Array Value) : Below B w0 (w.setRow g cs) := below_setRow hb hBg cs

end Go.Proofs.YtimkgaokcldgkaaGreatDoor
/- To name the world of a call or of what is left, by what holds of it. No program here. -/
namespace Go.Proofs.YtimkgaokcldgkaaGreatDoor
open Go.RowKit
theorem code_forget {P : Program} {c : Code} {Q : Exit → Act → World → Prop} {a : Act} {w : World} (S : World → Prop) (h : S w) (k : ∀ w', S w' → Code.wp P c Q a w') : Code.wp P c Q a w := k w h
end Go.Proofs.YtimkgaokcldgkaaGreatDoor
