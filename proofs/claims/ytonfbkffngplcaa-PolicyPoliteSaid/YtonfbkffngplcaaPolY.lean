/- From when on something may be sent, by the reference. -/
import Derived.Test.YtonfbkffngplcaaPolE
import Derived.Test.YtonfbkffngplcaaPolB
import Derived.Deep.Cut
import Derived.Deep.CutRange
import Derived.Deep.DeepCutAuto
import Derived.Deep.DrawnRows
import Derived.Maps.AppendAt
import Derived.Maps.OwnSet
namespace Go.Proofs.Ytonfbkffngplcaa
open Go.RowKit

open Go.Maps
theorem infoI : (Try.prog.info? 3).map (fun i => (i.zero, i.size, i.bytes)) = some (some (.int .i64 0), 1, 8) := by kernel_rfl
theorem Box.kept {w w' : World} {b : Nat} {cs : Array Value} {t : TypeId} {row : Option Nat} (h : Box w b cs t) (hg : w.grownBy w' row) (hne : some b ≠ row) : Box w' b cs t := (hg.block b h.lt hne).trans h
theorem own_slice {w : World} {base : Nat} {e : TypeId} {size : Nat} {v : Value} {n : Nat} {xs : List Value} (h : w.ownsRow base e size v n xs) : ∃ a cap, v = .slice a n cap := by
  rcases h.2 with ⟨rfl, rfl⟩ | ⟨g, cap, _, rfl, _⟩
  · exact ⟨_, _, rfl⟩
  · exact ⟨_, _, rfl⟩
theorem row_at {w : World} {base : Nat} {e : TypeId} {al : Option Addr} {capl : Nat} {xs : List Int} (h : w.ownsRow base e 1 (.slice al xs.length capl) xs.length (xs.map (Value.int .i64))) {k : Nat} {x : Int} (hx : xs[k]? = some x) : ∃ g, al = some ⟨g, 0, none⟩ ∧ w.cell? ⟨g, k, none⟩ = some (.int .i64 x) := by
  have hk := (List.getElem?_eq_some_iff.1 hx).1
  rcases h.2 with ⟨_, h0⟩ | ⟨g, cap', cur, hv, _, _, _⟩
  · omega
  · injection hv with ha
    refine ⟨g, ha, ?_⟩
    have := h.cells (g := g) (by rw [ha]; rfl) k (.int .i64 x) (by simp [hx])
    by_cases h0 : k = 0
    · subst h0
      simpa [Addr.add] using this
    · simpa [Addr.add, h0] using this
theorem take_max {xs : List Int} {k : Nat} {x : Int} (h : xs[k]? = some x) : (xs.take (k + 1)).foldl max 0 = max ((xs.take k).foldl max 0) x := by
  rw [List.take_add_one, h, List.foldl_append]; rfl
end Go.Proofs.Ytonfbkffngplcaa
