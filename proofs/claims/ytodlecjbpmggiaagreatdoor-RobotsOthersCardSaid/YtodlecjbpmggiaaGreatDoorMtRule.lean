/- Rules, in slices of one's own and in slices that came in; which of them allow. -/
import Derived.Test.YtodlecjbpmggiaaGreatDoorMtRef
namespace Go.Proofs.YtodlecjbpmggiaaGreatDoor
open Go.RowKit
set_option linter.unusedVariables false
set_option linter.unusedSimpArgs false

structure Rl where
  allow : Bool
  pat : ByteArray
def rlL (r : Rl) : List Value := [.bool r.allow, .string r.pat]
def flatL : List Rl → List Value
  | [] => []
  | e :: es => rlL e ++ flatL es
theorem flatL_len : ∀ es : List Rl, (flatL es).length = es.length * 2
  | [] => rfl
  | e :: es => by simp [flatL, rlL, flatL_len es]; omega
theorem flatL_at : ∀ {es : List Rl} {i : Nat} {e : Rl} (j : Nat), j < 2 → es[i]? = some e → (flatL es)[i * 2 + j]? = (rlL e)[j]?
  | [], i, e, j, _, h => by simp at h
  | x :: xs, 0, e, j, hj, h => by
    simp at h
    subst h
    simp only [flatL, Nat.zero_mul, Nat.zero_add]
    rw [List.getElem?_append_left (by simp [rlL]; omega)]
  | x :: xs, i + 1, e, j, hj, h => by
    have := flatL_at (es := xs) (i := i) j hj (by simpa using h)
    simp only [flatL]
    rw [List.getElem?_append_right (by simp [rlL]; omega)]
    rw [← this]
    congr 1
    simp [rlL]
    omega
theorem flatL_append : ∀ (es fs : List Rl), flatL (es ++ fs) = flatL es ++ flatL fs
  | [], fs => rfl
  | x :: xs, fs => by simp [flatL, flatL_append xs fs, List.append_assoc]
theorem rlL_one (e : Rl) : ∀ v ∈ rlL e, v.oneCell' = true := by
  intro v hv
  simp [rlL] at hv
  rcases hv with rfl | rfl <;> rfl
theorem flatL_one (es : List Rl) : ∀ v ∈ flatL es, v.oneCell' = true := by
  induction es with
  | nil => simp [flatL]
  | cons x xs ih =>
    intro v hv
    simp only [flatL, List.mem_append] at hv
    rcases hv with hv | hv
    · exact rlL_one x v hv
    · exact ih v hv

/-- A slice that reads as these rules. -/
def RdR (w : World) (a : Option Addr) (es : List Rl) : Prop :=
  ∃ b off, (0 < es.length → a = some ⟨b, off, none⟩) ∧ ∀ i e, es[i]? = some e → w.cell? ⟨b, off + i * 2, none⟩ = some (.bool e.allow) ∧ w.cell? ⟨b, off + i * 2 + 1, none⟩ = some (.string e.pat)
theorem RdR.later {w w' : World} {a : Option Addr} {es : List Rl} (h : RdR w a es) (hb : Below w.heap.size w w') : RdR w' a es := by
  obtain ⟨b, off, h1, h2⟩ := h
  refine ⟨b, off, h1, fun i e hi => ?_⟩
  obtain ⟨h3, h4⟩ := h2 i e hi
  exact ⟨(hb.cell (World.block_lt_of_cell? _ _ h3)).trans h3, (hb.cell (World.block_lt_of_cell? _ _ h4)).trans h4⟩
theorem RdR.take {w : World} {a : Option Addr} {es : List Rl} (h : RdR w a es) (n : Nat) : RdR w a (es.take n) := by
  obtain ⟨b, off, h1, h2⟩ := h
  refine ⟨b, off, fun h => h1 (by rw [List.length_take] at h; omega), fun i e hi => h2 i e ?_⟩
  rw [List.getElem?_take] at hi
  split at hi
  · exact hi
  · cases hi
theorem RdR.nil (w : World) (a : Option Addr) : RdR w a [] := ⟨0, 0, fun h => absurd h (by simp), fun i e hi => by simp at hi⟩
theorem rdr_of_own {w : World} {B n cap : Nat} {T : TypeId} {a : Option Addr} {es : List Rl} (h : w.ownsRow B T 2 (.slice a n cap) n (flatL es)) : RdR w a es := by
  have hl := h.1
  rw [flatL_len] at hl
  rcases h.2 with ⟨e, h0⟩ | ⟨g, c, cur, e, _⟩
  · refine ⟨0, 0, fun h => by omega, fun i e hi => ?_⟩
    have := (List.getElem?_eq_some_iff.1 hi).1
    omega
  · have e0 := e
    injection e with e1 e2 e3
    subst e1
    refine ⟨g, 0, fun _ => rfl, fun i e hi => ?_⟩
    have h1 := (List.getElem?_eq_some_iff.1 hi).1
    have k0 := flatL_at 0 (by omega) hi
    have k1 := flatL_at 1 (by omega) hi
    constructor
    · have := h.cellAt (i * 2 + 0) (by omega)
      rw [k0] at this
      rw [Nat.zero_add]
      exact this
    · have := h.cellAt (i * 2 + 1) (by omega)
      rw [k1] at this
      rw [Nat.zero_add]
      exact this
/-- A block that holds rules. -/
theorem rdr_box {w : World} {g : Nat} {es : List Rl} {t : TypeId} (h : Box w g (flatL es).toArray t) : RdR w (some ⟨g, 0, none⟩) es := by
  refine ⟨g, 0, fun _ => rfl, fun i e hi => ?_⟩
  have k0 := flatL_at 0 (by omega) hi
  have k1 := flatL_at 1 (by omega) hi
  constructor
  · rw [h.cell, Nat.zero_add, List.getElem?_toArray]
    exact k0
  · rw [h.cell, Nat.zero_add, List.getElem?_toArray]
    exact k1

/-- Does a rule speak of a path; how long is its pattern? -/
def spk (r : Rl) (path : ByteArray) : Bool := MM (dl (nfB r.pat)) (dl path)
def lng (r : Rl) : Nat := (nfB r.pat).size
/-- The rules with the longest patterns decide, and of these one that allows. -/
def allowP (rs : List Rl) (path : ByteArray) : Prop := (∃ r ∈ rs, r.allow = true ∧ spk r path = true ∧ ∀ q ∈ rs, spk q path = true → lng q ≤ lng r) ∨ ∀ r ∈ rs, spk r path = false
theorem allowP_mem {rs qs : List Rl} {path : ByteArray} (h : ∀ r, r ∈ rs ↔ r ∈ qs) : allowP rs path ↔ allowP qs path := by
  unfold allowP
  constructor
  · rintro (⟨r, h1, h2, h3, h4⟩ | h1)
    · exact Or.inl ⟨r, (h r).1 h1, h2, h3, fun q hq => h4 q ((h q).2 hq)⟩
    · exact Or.inr fun r hr => h1 r ((h r).2 hr)
  · rintro (⟨r, h1, h2, h3, h4⟩ | h1)
    · exact Or.inl ⟨r, (h r).2 h1, h2, h3, fun q hq => h4 q ((h q).1 hq)⟩
    · exact Or.inr fun r hr => h1 r ((h r).1 hr)
/-- How far the program's loop has come. -/
structure Alw (rs : List Rl) (path : ByteArray) (L : Int) (A : Bool) : Prop where
  none : L = -1 → A = true ∧ ∀ r ∈ rs, spk r path = false
  some : L ≠ -1 → (∃ r ∈ rs, spk r path = true ∧ (lng r : Int) = L) ∧ (∀ r ∈ rs, spk r path = true → (lng r : Int) ≤ L) ∧ (A = true ↔ ∃ r ∈ rs, r.allow = true ∧ spk r path = true ∧ (lng r : Int) = L)
  low : -1 ≤ L
theorem Alw.start (path : ByteArray) : Alw [] path (-1) true := ⟨fun _ => ⟨rfl, by simp⟩, fun h => absurd rfl h, by omega⟩
theorem Alw.skip {rs : List Rl} {path : ByteArray} {L : Int} {A : Bool} {r : Rl} (h : Alw rs path L A) (hr : spk r path = false) : Alw (rs ++ [r]) path L A := by
  refine ⟨fun e => ⟨(h.none e).1, fun q hq => ?_⟩, fun e => ?_, h.low⟩
  · rcases List.mem_append.1 hq with hq | hq
    · exact (h.none e).2 q hq
    · simp at hq; subst hq; exact hr
  · obtain ⟨⟨x, x1, x2, x3⟩, h2, h3⟩ := h.some e
    refine ⟨⟨x, by simp [x1], x2, x3⟩, fun q hq hs => ?_, h3.trans ⟨fun ⟨y, y1, y2⟩ => ⟨y, by simp [y1], y2⟩, fun ⟨y, y1, y2, y3, y4⟩ => ?_⟩⟩
    · rcases List.mem_append.1 hq with hq | hq
      · exact h2 q hq hs
      · simp at hq; subst hq; rw [hr] at hs; cases hs
    · rcases List.mem_append.1 y1 with hq | hq
      · exact ⟨y, hq, y2, y3, y4⟩
      · simp at hq; subst hq; rw [hr] at y3; cases y3
theorem Alw.short {rs : List Rl} {path : ByteArray} {L : Int} {A : Bool} {r : Rl} (h : Alw rs path L A) (hr : (lng r : Int) < L) : Alw (rs ++ [r]) path L A := by
  refine ⟨fun e => by omega, fun e => ?_, h.low⟩
  obtain ⟨⟨x, x1, x2, x3⟩, h2, h3⟩ := h.some e
  refine ⟨⟨x, by simp [x1], x2, x3⟩, fun q hq hs => ?_, h3.trans ⟨fun ⟨y, y1, y2⟩ => ⟨y, by simp [y1], y2⟩, fun ⟨y, y1, y2, y3, y4⟩ => ?_⟩⟩
  · rcases List.mem_append.1 hq with hq | hq
    · exact h2 q hq hs
    · simp at hq; subst hq; omega
  · rcases List.mem_append.1 y1 with hq | hq
    · exact ⟨y, hq, y2, y3, y4⟩
    · simp at hq; subst hq; omega
theorem Alw.take {rs : List Rl} {path : ByteArray} {L : Int} {A : Bool} {r : Rl} (h : Alw rs path L A) (hr : spk r path = true) (hl : L ≤ (lng r : Int)) : Alw (rs ++ [r]) path (lng r) (r.allow || (A && (lng r : Int) == L)) := by
  refine ⟨fun e => by omega, fun _ => ⟨⟨r, by simp, hr, rfl⟩, fun q hq hs => ?_, ?_⟩, by omega⟩
  · rcases List.mem_append.1 hq with hq | hq
    · by_cases e : L = -1
      · have := (h.none e).2 q hq; rw [hs] at this; cases this
      · have := (h.some e).2.1 q hq hs; omega
    · simp at hq; subst hq; exact Int.le_refl _
  · rw [Bool.or_eq_true, Bool.and_eq_true, beq_iff_eq]
    constructor
    · rintro (h1 | ⟨h1, h2⟩)
      · exact ⟨r, by simp, h1, hr, rfl⟩
      · have e : L ≠ -1 := by omega
        obtain ⟨y, y1, y2, y3, y4⟩ := (h.some e).2.2.1 h1
        exact ⟨y, by simp [y1], y2, y3, by omega⟩
    · rintro ⟨y, y1, y2, y3, y4⟩
      rcases List.mem_append.1 y1 with hq | hq
      · by_cases e : L = -1
        · have := (h.none e).2 y hq; rw [y3] at this; cases this
        · have h5 := (h.some e).2.1 y hq y3
          exact Or.inr ⟨(h.some e).2.2.2 ⟨y, hq, y2, y3, by omega⟩, by omega⟩
      · simp at hq; subst hq; exact Or.inl y2
theorem Alw.done {rs : List Rl} {path : ByteArray} {L : Int} {A : Bool} (h : Alw rs path L A) : A = true ↔ allowP rs path := by
  unfold allowP
  by_cases e : L = -1
  · have := h.none e
    exact ⟨fun _ => Or.inr this.2, fun _ => this.1⟩
  · obtain ⟨⟨x, x1, x2, x3⟩, h2, h3⟩ := h.some e
    rw [h3]
    constructor
    · rintro ⟨r, r1, r2, r3, r4⟩
      exact Or.inl ⟨r, r1, r2, r3, fun q hq hs => by have := h2 q hq hs; omega⟩
    · rintro (⟨r, r1, r2, r3, r4⟩ | h1)
      · exact ⟨r, r1, r2, r3, by have := r4 x x1 x2; have := h2 r r1 r3; omega⟩
      · have := h1 x x1; rw [x2] at this; cases this
end Go.Proofs.YtodlecjbpmggiaaGreatDoor
