/- Events, in slices of one's own and in slices that came in; those that were sent. -/
import Derived.Test.YtelakgbpfnlpiaaChecked
import Derived.Test.YtelakgbpfnlpiaaBox
import Derived.Test.YtelakgbpfnlpiaaTickMul
import Derived.Test.YtelakgbpfnlpiaaDeep
import Derived.Maps.OwnSet
import Derived.Maps.AppendAt
import Derived.Laws.OwnMore
import Derived.WideKeyArgs2
namespace Go.Proofs.Ytelakgbpfnlpiaa
open Go.RowKit Go.Maps Go.WideMaps

structure Ev where
  kind : Int
  time : Int
  id : Int
  host : ByteArray
  path : ByteArray
  prio : Int
  last : Int
def evL (e : Ev) : List Value := [.int .i64 e.kind, .int .i64 e.time, .int .i64 e.id, .string e.host, .string e.path, .int .i64 e.prio, .int .i64 e.last]
def flatE : List Ev → List Value
  | [] => []
  | e :: es => evL e ++ flatE es
theorem flatE_len : ∀ es : List Ev, (flatE es).length = es.length * 7
  | [] => rfl
  | e :: es => by simp [flatE, evL, flatE_len es]; omega
theorem flatE_at : ∀ {es : List Ev} {i : Nat} {e : Ev} (j : Nat), j < 7 → es[i]? = some e → (flatE es)[i * 7 + j]? = (evL e)[j]?
  | [], i, e, j, _, h => by simp at h
  | x :: xs, 0, e, j, hj, h => by
    simp at h
    subst h
    simp only [flatE, Nat.zero_mul, Nat.zero_add]
    rw [List.getElem?_append_left (by simp [evL]; omega)]
  | x :: xs, i + 1, e, j, hj, h => by
    have := flatE_at (es := xs) (i := i) j hj (by simpa using h)
    simp only [flatE]
    rw [List.getElem?_append_right (by simp [evL]; omega)]
    rw [← this]
    congr 1
    simp [evL]
    omega
theorem flatE_append : ∀ (es fs : List Ev), flatE (es ++ fs) = flatE es ++ flatE fs
  | [], fs => rfl
  | x :: xs, fs => by simp [flatE, flatE_append xs fs, List.append_assoc]
theorem flatE_take : ∀ (es : List Ev) (n : Nat), flatE (es.take n) = (flatE es).take (n * 7)
  | [], n => by simp [flatE]
  | x :: xs, 0 => by simp [flatE]
  | x :: xs, n + 1 => by
    rw [show (n + 1) * 7 = 7 + n * 7 by omega]
    simp only [List.take_succ_cons, flatE, flatE_take xs n]
    have h7 : (evL x).length = 7 := rfl
    rw [List.take_append, h7, show 7 + n * 7 - 7 = n * 7 by omega, List.take_of_length_le (l := evL x) (by rw [h7]; omega)]
theorem evL_one (e : Ev) : ∀ v ∈ evL e, v.oneCell' = true := by
  intro v hv
  simp [evL] at hv
  rcases hv with rfl | rfl | rfl | rfl | rfl | rfl | rfl <;> rfl
theorem flatE_one (es : List Ev) : ∀ v ∈ flatE es, v.oneCell' = true := by
  induction es with
  | nil => simp [flatE]
  | cons x xs ih =>
    intro v hv
    simp only [flatE, List.mem_append] at hv
    rcases hv with hv | hv
    · exact evL_one x v hv
    · exact ih v hv

/-- A slice that reads as these events. -/
def Rd (w : World) (a : Option Addr) (es : List Ev) : Prop :=
  ∃ b off, (0 < es.length → a = some ⟨b, off, none⟩) ∧ ∀ i e, es[i]? = some e → ∀ j v, (evL e)[j]? = some v → w.cell? ⟨b, off + i * 7 + j, none⟩ = some v
theorem Rd.later {w w' : World} {a : Option Addr} {es : List Ev} (h : Rd w a es) (hb : Below w.heap.size w w') : Rd w' a es := by
  obtain ⟨b, off, h1, h2⟩ := h
  refine ⟨b, off, h1, fun i e hi j v hv => ?_⟩
  have := h2 i e hi j v hv
  exact (hb.cell (World.block_lt_of_cell? _ _ this)).trans this
theorem Rd.take {w : World} {a : Option Addr} {es : List Ev} (h : Rd w a es) (n : Nat) : Rd w a (es.take n) := by
  obtain ⟨b, off, h1, h2⟩ := h
  refine ⟨b, off, fun h => h1 (by rw [List.length_take] at h; omega), fun i e hi => h2 i e ?_⟩
  rw [List.getElem?_take] at hi
  split at hi
  · exact hi
  · cases hi
theorem Rd.at {w : World} {a : Option Addr} {es : List Ev} (h : Rd w a es) : ∃ b off, (0 < es.length → a = some ⟨b, off, none⟩) ∧ ∀ i e, es[i]? = some e → w.cell? ⟨b, off + i * 7, none⟩ = some (.int .i64 e.kind) ∧ w.cell? ⟨b, off + i * 7 + 1, none⟩ = some (.int .i64 e.time) ∧ w.cell? ⟨b, off + i * 7 + 2, none⟩ = some (.int .i64 e.id) ∧ w.cell? ⟨b, off + i * 7 + 3, none⟩ = some (.string e.host) ∧ w.cell? ⟨b, off + i * 7 + 4, none⟩ = some (.string e.path) ∧ w.cell? ⟨b, off + i * 7 + 5, none⟩ = some (.int .i64 e.prio) ∧ w.cell? ⟨b, off + i * 7 + 6, none⟩ = some (.int .i64 e.last) := by
  obtain ⟨b, off, h1, h2⟩ := h
  exact ⟨b, off, h1, fun i e hi => ⟨h2 i e hi 0 _ rfl, h2 i e hi 1 _ rfl, h2 i e hi 2 _ rfl, h2 i e hi 3 _ rfl, h2 i e hi 4 _ rfl, h2 i e hi 5 _ rfl, h2 i e hi 6 _ rfl⟩⟩
theorem rd_of_own {w : World} {B n cap : Nat} {T : TypeId} {a : Option Addr} {es : List Ev} (h : w.ownsRow B T 7 (.slice a n cap) n (flatE es)) : Rd w a es := by
  have hl := h.1
  rw [flatE_len] at hl
  rcases h.2 with ⟨e, h0⟩ | ⟨g, c, cur, e, _⟩
  · refine ⟨0, 0, fun h => by omega, fun i e hi => ?_⟩
    have := (List.getElem?_eq_some_iff.1 hi).1
    omega
  · have e0 := e
    injection e with e1 e2 e3
    subst e1
    refine ⟨g, 0, fun _ => rfl, fun i e hi j v hv => ?_⟩
    have h1 := (List.getElem?_eq_some_iff.1 hi).1
    have h2 := (List.getElem?_eq_some_iff.1 hv).1
    have h2 : j < 7 := h2
    rw [Nat.zero_add, h.cellAt (i * 7 + j) (by omega), flatE_at j h2 hi]
    exact hv
def wentE (e : Ev) : Bool := e.kind == 1 || e.kind == 2

theorem infoEv : (Try.prog.info? 58).map (fun i => (i.zero, i.size, i.bytes)) = some (some (.agg #[.int .i64 0, .int .i64 0, .int .i64 0, .string ByteArray.empty, .string ByteArray.empty, .int .i64 0, .int .i64 0]), 7, 72) := by kernel_rfl
theorem cell_seven_new (w : World) (l : List Value) (t : TypeId) : ∀ j u, l[j]? = some u → (w.alloc (.cells l.toArray t)).cell? ((⟨w.heap.size, 0, none⟩ : Addr).add j) = some u := by
  intro j u hj
  rw [Go.WideShapes.add_plain]
  have := (Box.new w l.toArray t).cell (0 + j)
  rw [this]
  simpa using hj
theorem own_slice {w : World} {base : Nat} {e : TypeId} {size : Nat} {v : Value} {n : Nat} {xs : List Value} (h : w.ownsRow base e size v n xs) : ∃ a cap, v = .slice a n cap := by
  rcases h.2 with ⟨rfl, rfl⟩ | ⟨g, cap, _, rfl, _⟩
  · exact ⟨_, _, rfl⟩
  · exact ⟨_, _, rfl⟩
end Go.Proofs.Ytelakgbpfnlpiaa
