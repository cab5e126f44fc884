/- Part of a chain: LaidSp. -/
import Derived.Test.YteinblpkcpjpnaaGreatDoorSc37
import Derived.Test.YteinblpkcpjpnaaGreatDoorSc38
import Derived.Test.YteinblpkcpjpnaaGreatDoorRows
/- What the rows list: the package's variable. -/
namespace Go.Proofs.YteinblpkcpjpnaaGreatDoor
open Go.RowKit Go.Deep
set_option maxRecDepth 10000

theorem int_field {P : Program} {enc : TypeId × Value → Unit} {W : World} {base : Nat} {sp : Nat → Bool} {held : Bool} {n o i : Nat} {t : TypeId} {cs : List Value} {xs : List (DataW Unit × List MemPlace)} {v : Int} (ht : P.underlying t = some (.int .i64))
    (h : DataW.trod enc P W base sp held n t ((cs.drop o).take 1) = xs[i]?) (hx : (xs.map (·.1))[i]? = some (.lit (.int .i64 v))) : cs[o]? = some (.int .i64 v) := by
  rw [List.getElem?_map] at hx
  obtain ⟨y, hy, hyx⟩ := Option.map_eq_some_iff.1 hx
  rw [hy] at h
  obtain ⟨m, h1, h2, _⟩ := DataW.trod_int ht h
  rw [h2] at hyx
  simp only [DataW.lit.injEq, Lit.int.injEq, true_and] at hyx
  subst hyx
  exact take_one h1
theorem now_of_laid {W : World} {L : List (String × DataW Unit)} (hL : laidMet Tryz.prog (("decorum/spill.nowhere", Rows.laid_decorum_spill_nowhere) :: L) W) : NowM W := by
  obtain ⟨ps, ⟨g', t', cs, fuel, p, q, hg', ht', hvar, hd, _, _⟩, _⟩ := hL
  obtain rfl := Option.some.inj ((show Tryz.prog.globalNamed "decorum/spill.nowhere" = some 0 by kernel_rfl).symm.trans hg')
  obtain rfl := Option.some.inj ((show (Tryz.prog.globals[0]?).map (·.type) = some 76 by kernel_rfl).symm.trans ht')
  have hv : ∀ i : Nat, W.cell? ⟨0, i, none⟩ = cs[i]? := fun i => World.var?_cell (by kernel_rfl) hvar i
  obtain ⟨xs, n, rfl, hx, hl, hlen, hf⟩ := DataW.trod_struct Tryz.underlying76 hd
  have hx1 : xs.map (·.1) = [DataW.lit (.int .i64 9223372036854775807), .lit (.int .i64 9223372036854775807), .lit (.int .i64 0)] := by
    have h9 := congrArg Prod.fst hx
    unfold Rows.laid_decorum_spill_nowhere at h9
    simp only [DataW.agg.injEq] at h9
    exact h9.symm
  have e0 := int_field (o := 0) (i := 0) (v := 9223372036854775807) Tryz.underlying3 (hf 0 _ rfl) (by rw [hx1]; rfl)
  have e1 := int_field (o := 1) (i := 1) (v := 9223372036854775807) Tryz.underlying3 (hf 1 _ rfl) (by rw [hx1]; rfl)
  have e2 := int_field (o := 2) (i := 2) (v := 0) Tryz.underlying3 (hf 2 _ rfl) (by rw [hx1]; rfl)
  intro i hi
  unfold gNow
  rw [hv]
  rw [Array.getElem?_toList] at e0 e1 e2
  match i, hi with
  | 0, _ => exact e0
  | 1, _ => exact e1
  | 2, _ => exact e2
theorem tabs_of_laid {W : World} (hL : laidMet Tryz.prog Rows.spillNoneRow.laid W) : NowM W := now_of_laid hL
end Go.Proofs.YteinblpkcpjpnaaGreatDoor
