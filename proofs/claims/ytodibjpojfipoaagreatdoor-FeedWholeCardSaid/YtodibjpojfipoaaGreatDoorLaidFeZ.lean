/- From what the rows list to what the contracts ask of the world. -/
import Derived.Test.YtodibjpojfipoaaGreatDoorDtNam
import Derived.Test.YtodibjpojfipoaaGreatDoorRows
import Derived.PinnedBridge
import Derived.Lib.LaidU8
import Derived.Lib.LaidTab
import Derived.Stop.LaidErr
namespace Go.Proofs.YtodibjpojfipoaaGreatDoor
open Go.RowKit
set_option maxRecDepth 10000

def txtData (zs : List (List UInt8)) : DataW Unit := .agg (zs.map fun z => .lit (.string z))
/-- An array of texts that reads as the list holds the list's texts. -/
theorem cells_of_txt {enc : TypeId × Value → Unit} {P : Program} {w : World} {base : Nat} {sp : Nat → Bool} {held : Bool} {fuel : Nat} {t e : TypeId} {n : Nat} {cs : List Value} {zs : List (List UInt8)} {p : List MemPlace}
    (ht : P.underlying t = some (.array n e)) (he : P.underlying e = some .string) (hce : P.cellsOf e = 1) (hct : P.cellsOf t = n)
    (h : DataW.trod enc P w base sp held fuel t cs = some (txtData zs, p)) : cs = zs.map fun z => Value.string ⟨z.toArray⟩ := by
  cases fuel with
  | zero => simp [DataW.trod] at h
  | succ fuel =>
    simp only [DataW.trod, ht, hce, hct, Nat.mul_one] at h
    split at h
    · rename_i hl
      obtain ⟨xs, hm, hx⟩ := Option.map_eq_some_iff.1 h
      have hxs : xs.map (·.1) = zs.map fun z => (DataW.lit (.string z) : DataW Unit) := by
        have := congrArg Prod.fst hx
        simpa [txtData] using this
      have hxl : xs.length = n := by simpa using Lib.mapM_length hm
      have hzl : zs.length = n := by
        have := congrArg List.length hxs
        simp at this
        omega
      apply List.ext_getElem?
      intro i
      by_cases hi : i < n
      · obtain ⟨b, hb, hf⟩ := Lib.mapM_at hm i i (by simp [hi])
        obtain ⟨s, hc, rfl, _⟩ := DataW.trod_string he hf
        have h1 : cs[i]? = some (.string s) := by
          have := congrArg (·[0]?) hc
          simpa [List.getElem?_take, List.getElem?_drop] using this
        have h2 : (xs.map (·.1))[i]? = some (DataW.lit (.string s.data.toList) : DataW Unit) := by simp [hb]
        rw [hxs] at h2
        simp only [List.getElem?_map, Option.map_eq_some_iff, DataW.lit.injEq, Lit.string.injEq] at h2
        obtain ⟨z', hz', h3⟩ := h2
        rw [h1, List.getElem?_map, hz', Option.map_some, h3]
      · rw [List.getElem?_eq_none (by omega), List.getElem?_eq_none (by simp; omega)]
    · cases h
theorem txtIs_of_head {P : Program} {W : World} {name : String} {zs : List (List UInt8)} {rest : List (String × DataW Unit)} {g : Nat} {t e : TypeId} {n : Nat}
    (hg : P.globalNamed name = some g) (hty : (P.globals[g]?).map (·.type) = some t) (ht : P.underlying t = some (.array n e)) (he : P.underlying e = some .string) (hce : P.cellsOf e = 1) (hct : P.cellsOf t = n)
    (h : laidMet P ((name, txtData zs) :: rest) W) : W.var? P name = some (zs.map fun z => Value.string ⟨z.toArray⟩).toArray := by
  obtain ⟨ps, ⟨g', t', cs, fuel, p, q, hg', ht', hvar, hd, _, _⟩, _⟩ := h
  obtain rfl := Option.some.inj (hg.symm.trans hg')
  obtain rfl := Option.some.inj (hty.symm.trans ht')
  rw [hvar, ← cells_of_txt ht he hce hct hd]
def dayZ : List (List UInt8) := [[77, 111, 110, 100, 97, 121], [84, 117, 101, 115, 100, 97, 121], [87, 101, 100, 110, 101, 115, 100, 97, 121], [84, 104, 117, 114, 115, 100, 97, 121], [70, 114, 105, 100, 97, 121], [83, 97, 116, 117, 114, 100, 97, 121], [83, 117, 110, 100, 97, 121]]
def monZ : List (List UInt8) := [[74, 97, 110], [70, 101, 98], [77, 97, 114], [65, 112, 114], [77, 97, 121], [74, 117, 110], [74, 117, 108], [65, 117, 103], [83, 101, 112], [79, 99, 116], [78, 111, 118], [68, 101, 99]]
theorem day_is : (Rows.laid_decorum_date_dayNames : DataW Unit) = txtData dayZ := by kernel_rfl
theorem mon_is : (Rows.laid_decorum_date_monthNames : DataW Unit) = txtData monZ := by kernel_rfl
theorem tabs_of_laid {W : World} (hL : laidMet Tryz.prog Rows.feedClassesRow.laid W) : TabD W := by
  have h3 := laidMet.tail hL
  have h4 := laidMet.tail h3
  have a3 : laidMet Tryz.prog (("decorum/date.dayNames", txtData dayZ) :: [("decorum/date.monthNames", Rows.laid_decorum_date_monthNames), ("unicode/utf8.first", Rows.laid_unicode_utf8_first)]) W := by
    rw [← day_is]
    exact h3
  have a4 : laidMet Tryz.prog (("decorum/date.monthNames", txtData monZ) :: [("unicode/utf8.first", Rows.laid_unicode_utf8_first)]) W := by
    rw [← mon_is]
    exact h4
  have d := txtIs_of_head (n := 7) (t := 120) (e := 9) (g := 0) (by kernel_rfl) (by kernel_rfl) (by kernel_rfl) (by kernel_rfl) (by kernel_rfl) (by kernel_rfl) a3
  have m := txtIs_of_head (n := 12) (t := 122) (e := 9) (g := 1) (by kernel_rfl) (by kernel_rfl) (by kernel_rfl) (by kernel_rfl) (by kernel_rfl) (by kernel_rfl) a4
  have dc : ∀ i : Nat, i < 7 → W.cell? ⟨0, i, none⟩ = dayV[i]? := fun i hi => World.var?_cell (by kernel_rfl) d i
  have mc : ∀ i : Nat, i < 12 → W.cell? ⟨1, i, none⟩ = monV[i]? := fun i hi => World.var?_cell (by kernel_rfl) m i
  exact ⟨⟨World.block_lt_of_cell? _ _ (mc 0 (by decide)), World.block_lt_of_cell? _ _ (dc 0 (by decide))⟩, dc, mc⟩
end Go.Proofs.YtodibjpojfipoaaGreatDoor
