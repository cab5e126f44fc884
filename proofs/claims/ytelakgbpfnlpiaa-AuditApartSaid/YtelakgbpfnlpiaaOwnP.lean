/- Rows that a call has made itself, several side by side: an append to one leaves the others as they are. No program here. -/
import Derived.WalkKit
import Derived.Laws.OwnMore
import Derived.Maps.AppendAt
import Derived.Below
namespace Go.Proofs.Ytelakgbpfnlpiaa
open Go.RowKit

/-- A row in block g, which begins there. -/
def OwnP (w : World) (B : Nat) (E : TypeId) (size g cap n : Nat) (xs : List Value) : Prop := w.ownsRow B E size (.slice (some ⟨g, 0, none⟩) n cap) n xs
theorem OwnP.lit (w : World) (B : Nat) (E : TypeId) (size : Nat) (cs : Array Value) (n : Nat) (hB : B ≤ w.heap.size) (hm : n ≤ maxLen) (hs : cs.size = n * size) : OwnP (w.alloc (.cells cs E)) B E size w.heap.size n n cs.toList := World.ownsRow_lit w cs n hB hm hs
theorem OwnP.lt {w : World} {B : Nat} {E : TypeId} {size g cap n : Nat} {xs : List Value} (h : OwnP w B E size g cap n xs) : B ≤ g ∧ g < w.heap.size := World.ownsRow.lt h g rfl
theorem OwnP.kept {w w' : World} {B : Nat} {E : TypeId} {size g cap n : Nat} {xs : List Value} (h : OwnP w B E size g cap n xs) {g2 : Nat} (hg : w.grownBy w' (some g2)) (hne : g ≠ g2) : OwnP w' B E size g cap n xs :=
  World.ownsRow.kept h hg (Or.inr (by simpa [Value.ownBlock] using hne))
theorem OwnP.alloc {w : World} {B : Nat} {E : TypeId} {size g cap n : Nat} {xs : List Value} (h : OwnP w B E size g cap n xs) (o : Obj) : OwnP (w.alloc o) B E size g cap n xs := World.ownsRow.alloc h o
theorem OwnP.drew {w : World} {B : Nat} {E : TypeId} {size g cap n : Nat} {xs : List Value} (h : OwnP w B E size g cap n xs) : OwnP w.drew B E size g cap n xs := h
theorem OwnP.later {w w' : World} {B : Nat} {E : TypeId} {size g cap n : Nat} {xs : List Value} (h : OwnP w B E size g cap n xs) (hb : Below w.heap.size w w') : OwnP w' B E size g cap n xs := by
  refine ⟨h.1, ?_⟩
  rcases h.2 with h | ⟨g, c, cur, e, hB, hg, hr⟩
  · exact Or.inl h
  · exact Or.inr ⟨g, c, cur, e, hB, (hb.block g (Array.getElem?_eq_some_iff.1 hg).1).trans hg, hr⟩
theorem OwnP.cap_le {w : World} {B : Nat} {E : TypeId} {size g cap n : Nat} {xs : List Value} (h : OwnP w B E size g cap n xs) : n ≤ cap := by
  rcases h.2 with ⟨e, _⟩ | ⟨g, c, cur, e, _, _, hnc, _⟩
  · cases e
  · injection e with _ _ e3
    rw [e3]
    exact hnc
theorem OwnP.cell {w : World} {B : Nat} {E : TypeId} {size g cap n : Nat} {xs : List Value} (h : OwnP w B E size g cap n xs) (j : Nat) (v : Value) (hv : xs[j]? = some v) : w.cell? ⟨g, j, none⟩ = some v := by
  have := (List.getElem?_eq_some_iff.1 hv).1
  have hl := h.1
  rw [World.ownsRow.cellAt h j (by omega)]
  exact hv

section
variable {P : Program} {ops : Array Oper} {rest : List Oper} {o : Oper} {act : Act} {Q : Exit → Act → World → Prop} {w : World}
theorem plain_own {w : World} {B : Nat} {E : TypeId} {size n : Nat} {v : Value} {xs : List Value} (h : w.ownsRow B E size v n xs) (hn : ¬ v = .slice none 0 0) : ∃ g cap, v = .slice (some ⟨g, 0, none⟩) n cap := by
  rcases h.2 with ⟨e, _⟩ | ⟨g, c, cur, e, _⟩
  · exact absurd e hn
  · exact ⟨g, c, e⟩
theorem wpList_appP (hgd : o.guard = none) (s x : Operand) (T : TypeId) (ho : o.op = .call { callee := .builtin .append, args := #[s, x], argTypes := #[T, T] })
    (B : Nat) (E : TypeId) (i : TypeInfo) (z : Value) (size bytes : Nat) (ht : P.underlying T = some (.slice E)) (hi : P.info? E = some i) (hz : i.zero = some z) (hsize : i.size = size) (hby : i.bytes = bytes) (hzs : z.cells.size = size) (hsz : 0 < size)
    (g cap n : Nat) (xs : List Value) (hs : act.eval s = .slice (some ⟨g, 0, none⟩) n cap) (hown : OwnP w B E size g cap n xs)
    (ad : Addr) (m c : Nat) (news : List Value) (hx : act.eval x = .slice (some ad) m c) (hl : news.length = m * size) (hnews : ∀ j u, news[j]? = some u → w.cell? (ad.add j) = some u) (h1 : ∀ u ∈ news, u.oneCell' = true)
    (h63 : n + m ≤ maxLen) (hbytes : (n + m) * bytes ≤ 140737488355328) (hbase : B ≤ w.heap.size)
    (h : ∀ g' cap' w', OwnP w' B E size g' cap' (n + m) (xs ++ news) → w.grownBy w' (some g) → (g' = g ∨ g' = w.heap.size) → Below B w w' → wpList P ops Q rest (act.put o.dst (.slice (some ⟨g', 0, none⟩) (n + m) cap')) w') : wpList P ops Q (o :: rest) act w := by
  refine wpList_append_own_at _ hgd s x T ho B E i z size bytes ht hi hz hsize hby hzs hsz _ n xs hs hown ad m c news hx hl hnews h1 h63 hbytes hbase ?_
  intro v' w' hown' hg hnil hloc
  obtain ⟨g', cap', rfl⟩ := plain_own hown' (fun e => by
    have := (hnil.1 e).1
    cases this)
  refine h g' cap' w' hown' hg ?_ ((Below.refl _ _).grown hg hbase (fun k hk => (hown.lt.1 : B ≤ g) |> fun hb => by
    have : some g = some k := hk
    injection this with this
    omega))
  simpa [Value.ownBlock] using hloc
end
end Go.Proofs.Ytelakgbpfnlpiaa
