/- From what the rows list of the tables, and the world's shape, to what the contracts ask of the world. -/
import Derived.Test.YtbfdklmljcdonaaDoorHanded
import Derived.Test.YtbfdklmljcdonaaDoorTlFn
import Derived.Test.YtbfdklmljcdonaaDoorRows
import Derived.PinnedBridge
import Derived.Lib.LaidU8
import Derived.Lib.LaidTab
import Derived.OpenShut
import Derived.Stop.LaidErr
namespace Go.Proofs.YtbfdklmljcdonaaDoor
open Go.RowKit Go.ChangeShapes
set_option maxRecDepth 10000
section
variable {enc : TypeId × Value → Unit} {P : Program} {w : World} {base : Nat} {sp : Nat → Bool} {held : Bool}
/-- The cells that read as a datum. -/
def FitsD (enc : TypeId × Value → Unit) (P : Program) (w : World) (base : Nat) (sp : Nat → Bool) (held : Bool) (t : TypeId) (cs : List Value) (d : DataW Unit) : Prop := ∃ n p, DataW.trod enc P w base sp held n t cs = some (d, p)
theorem FitsD.elem {t e : TypeId} {n c : Nat} {cs : List Value} {ds : List (DataW Unit)} (h : FitsD enc P w base sp held t cs (.agg ds)) (ht : P.underlying t = some (.array n e)) (hc : P.cellsOf e = c) (i : Nat) (d : DataW Unit) (hi : i < n) (hd : ds[i]? = some d) :
    FitsD enc P w base sp held e ((cs.drop (i * c)).take c) d := by
  obtain ⟨fuel, p, h⟩ := h
  obtain ⟨xs, m, _, hx, _, hlen, hf⟩ := DataW.trod_array ht h
  injection hx with h1 h2
  injection h1 with h1
  subst h1
  have := hf i hi
  rw [List.getElem?_map] at hd
  cases hx : xs[i]? with
  | none => rw [hx] at hd; cases hd
  | some y =>
    rw [hx] at hd this
    injection hd with hd
    subst hd
    rw [hc] at this
    exact ⟨m, y.2, this⟩
theorem FitsD.field {t u : TypeId} {fs : Array Field} {cs : List Value} {ds : List (DataW Unit)} (h : FitsD enc P w base sp held t cs (.agg ds)) (ht : P.underlying t = some (.struct fs)) (i o c : Nat) {f : Field} (hf : fs[i]? = some f) (hu : f.type = u) (ho : f.offset = o) (hc : P.cellsOf u = c) {d : DataW Unit} (hd : ds[i]? = some d) :
    FitsD enc P w base sp held u ((cs.drop o).take c) d := by
  obtain ⟨fuel, p, h⟩ := h
  obtain ⟨xs, m, _, hx, _, hlen, hfx⟩ := DataW.trod_struct ht h
  injection hx with h1 h2
  injection h1 with h1
  subst h1
  have := hfx i f hf
  rw [List.getElem?_map] at hd
  cases hx : xs[i]? with
  | none => rw [hx] at hd; cases hd
  | some y =>
    rw [hx] at hd this
    injection hd with hd
    subst hd hu ho
    rw [hc] at this
    exact ⟨m, y.2, this⟩
theorem take_oneD {cs : List Value} {o : Nat} {v : Value} (h : (cs.drop o).take 1 = [v]) : cs[o]? = some v := by
  have := congrArg (·[0]?) h
  simpa [List.getElem?_take, List.getElem?_drop] using this
theorem FitsD.int {t : TypeId} {k : IntKind} {cs : List Value} {o : Nat} {z : Int} (h : FitsD enc P w base sp held t ((cs.drop o).take 1) (.lit (.int k z))) (ht : P.underlying t = some (.int k)) : cs[o]? = some (.int k z) := by
  obtain ⟨fuel, p, h⟩ := h
  obtain ⟨v, hc, hx, _⟩ := DataW.trod_int ht h
  injection hx with h1 _
  injection h1 with h1
  injection h1 with _ h1
  subst h1
  exact take_oneD hc
theorem FitsD.bool {t : TypeId} {cs : List Value} {o : Nat} {z : Bool} (h : FitsD enc P w base sp held t ((cs.drop o).take 1) (.lit (.bool z))) (ht : P.underlying t = some .bool) : cs[o]? = some (.bool z) := by
  obtain ⟨fuel, p, h⟩ := h
  obtain ⟨v, hc, hx⟩ := DataW.trod_bool ht h
  injection hx with h1 _
  injection h1 with h1
  injection h1 with h1
  subst h1
  exact take_oneD hc
theorem FitsD.string {t : TypeId} {cs : List Value} {o : Nat} {z : List UInt8} (h : FitsD enc P w base sp held t ((cs.drop o).take 1) (.lit (.string z))) (ht : P.underlying t = some .string) : cs[o]? = some (.string ⟨z.toArray⟩) := by
  obtain ⟨fuel, p, h⟩ := h
  obtain ⟨v, hc, hx, _⟩ := DataW.trod_string ht h
  injection hx with h1 _
  injection h1 with h1
  injection h1 with h1
  subst h1
  exact take_oneD hc
end
theorem sub_atD {cs : List Value} {o m i : Nat} {v : Value} (h : ((cs.drop o).take m)[i]? = some v) : cs[o + i]? = some v := by
  rw [List.getElem?_take] at h
  split at h
  · rwa [List.getElem?_drop] at h
  · cases h
def fmD (f : Fm) : DataW Unit := .agg [.lit (.int .i64 f.kind), .lit (.string f.word), .lit (.int .i64 f.n), .lit (.bool f.text), .lit (.bool f.hs)]
theorem fm_is : (Rows.laid_decorum_tale_formats : DataW Unit) = .agg (fms.map fmD) := by kernel_rfl
theorem pow_is : (Rows.laid_internal_strconv_uint64pow10 : DataW Unit) = Lib.tabData .u64 Lib.pow10Tab := by kernel_rfl
theorem fmC_at : ∀ (i : Nat) (v : Value), fmC[i]? = some v → ∃ (j k : Nat) (f : Fm), i = j * 5 + k ∧ k < 5 ∧ fms[j]? = some f ∧ (fmL f)[k]? = some v := by
  intro i v h
  have key : ∀ (l : List Fm) (i : Nat), (l.flatMap fmL)[i]? = some v → ∃ (j k : Nat) (f : Fm), i = j * 5 + k ∧ k < 5 ∧ l[j]? = some f ∧ (fmL f)[k]? = some v := by
    intro l
    induction l with
    | nil => intro i h; simp at h
    | cons f r ih =>
      intro i h
      rw [List.flatMap_cons] at h
      by_cases hi : i < 5
      · rw [List.getElem?_append_left (by show i < 5; exact hi)] at h
        exact ⟨0, i, f, by omega, hi, rfl, h⟩
      · rw [List.getElem?_append_right (by show 5 ≤ i; omega)] at h
        obtain ⟨j, k, g, e1, e2, e3, e4⟩ := ih _ h
        have e0 : (fmL f).length = 5 := rfl
        rw [e0] at e1
        exact ⟨j + 1, k, g, by omega, e2, e3, e4⟩
  exact key fms i h
theorem fm_cells {W : World} (hL : laidMet Tryd.prog (("decorum/tale.formats", .agg (fms.map fmD)) :: [("unicode/utf8.first", Rows.laid_unicode_utf8_first)]) W) (i : Nat) (v : Value) (hv : fmC[i]? = some v) : W.cell? ⟨0, i, none⟩ = some v := by
  obtain ⟨ps, ⟨g', t', cs, fuel, p, q, hg', ht', hvar, hd, _, _⟩, _⟩ := hL
  obtain rfl := Option.some.inj ((show Tryd.prog.globalNamed "decorum/tale.formats" = some 0 by kernel_rfl).symm.trans hg')
  obtain rfl := Option.some.inj ((show (Tryd.prog.globals[0]?).map (·.type) = some 39 by kernel_rfl).symm.trans ht')
  rw [World.var?_cell hg' hvar i]
  obtain ⟨j, k, f, rfl, hk, hj, hf⟩ := fmC_at i v hv
  have hjn : j < 8 := (List.getElem?_eq_some_iff.1 hj).1
  have F : FitsD _ Tryd.prog W _ _ _ 39 cs.toList (.agg (fms.map fmD)) := ⟨fuel, p, hd⟩
  have E := F.elem (c := 5) Tryd.underlying39 (by kernel_rfl) j (fmD f) hjn (by rw [List.getElem?_map, hj]; rfl)
  rw [← Array.getElem?_toList]
  match k, hk with
  | 0, _ => cases hf; exact sub_atD ((E.field Tryd.underlying38 0 0 1 rfl rfl rfl (by kernel_rfl) rfl).int Tryd.underlying3)
  | 1, _ => cases hf; exact sub_atD ((E.field Tryd.underlying38 1 1 1 rfl rfl rfl (by kernel_rfl) rfl).string Tryd.underlying9)
  | 2, _ => cases hf; exact sub_atD ((E.field Tryd.underlying38 2 2 1 rfl rfl rfl (by kernel_rfl) rfl).int Tryd.underlying3)
  | 3, _ => cases hf; exact sub_atD ((E.field Tryd.underlying38 3 3 1 rfl rfl rfl (by kernel_rfl) rfl).bool Tryd.underlying4)
  | 4, _ => cases hf; exact sub_atD ((E.field Tryd.underlying38 4 4 1 rfl rfl rfl (by kernel_rfl) rfl).bool Tryd.underlying4)
theorem maxlen_of_shape {W : World} (h : W.ShapedOpen Tryd.prog) : ∃ m, W.cell? ⟨1, 0, none⟩ = some (.int .i64 m) :=
  cell_of_shapedOpen_int (zero := #[.int .i64 0]) (t := 3) h (of_decide_eq_true (by kernel_rfl)) (by kernel_rfl) rfl (by kernel_rfl) (by kernel_rfl) Tryd.underlying3
theorem starE : "*" ++ "errors.errorString" = "*errors.errorString" := by decide
theorem row_err (u : TypeId) (h : Tryd.prog.typeName? 3 u = some "*errors.errorString") : u = 128 :=
  typeName_ptr_named (nm := "errors.errorString") (by rw [starE]; kernel_rfl) (by kernel_rfl) (by decide) u (by rw [starE]; exact h)
theorem tabsm_of_laid {W : World} (hL : laidMet Tryd.prog Rows.taleManyUptoRow.laid W) (hs : W.ShapedOpen Tryd.prog) : TabT W := by
  have h3 := laidMet.tail (laidMet.tail hL)
  have h4 := laidMet.tail h3
  have h5 := laidMet.tail h4
  have h6 := laidMet.tail h5
  have h7 := laidMet.tail h6
  have p : Lib.TabIs Tryd.prog W "internal/strconv.uint64pow10" .u64 Lib.pow10Tab := by
    have h3' : laidMet Tryd.prog (("internal/strconv.uint64pow10", Lib.tabData .u64 Lib.pow10Tab) :: [("unicode/utf8.acceptRanges", Rows.laid_unicode_utf8_acceptRanges), ("strconv.ErrRange", Rows.laid_strconv_ErrRange), ("strconv.ErrSyntax", Rows.laid_strconv_ErrSyntax), ("decorum/tale.formats", Rows.laid_decorum_tale_formats), ("unicode/utf8.first", Rows.laid_unicode_utf8_first)]) W := by
      rw [← pow_is]
      exact h3
    exact Lib.tabIs_of_head (n := 20) (t := 100) (e := 87) (g := 2) (by kernel_rfl) (by kernel_rfl) (by kernel_rfl) (by kernel_rfl) (by kernel_rfl) (by kernel_rfl) h3'
  obtain ⟨a1, s1, v1, _⟩ := laid_sentinel (g := 6) (ti := 57) (tp := 128) (te := 130) (ts := 9) h5 (by kernel_rfl) (by kernel_rfl) Tryd.underlying57 (row_err) Tryd.underlying128 Tryd.underlying130 rfl rfl Tryd.underlying9 (by kernel_rfl) (by kernel_rfl)
  obtain ⟨a2, s2, v2, _⟩ := laid_sentinel (g := 5) (ti := 57) (tp := 128) (te := 130) (ts := 9) h6 (by kernel_rfl) (by kernel_rfl) Tryd.underlying57 (row_err) Tryd.underlying128 Tryd.underlying130 rfl rfl Tryd.underlying9 (by kernel_rfl) (by kernel_rfl)
  have h7' : laidMet Tryd.prog (("decorum/tale.formats", .agg (fms.map fmD)) :: [("unicode/utf8.first", Rows.laid_unicode_utf8_first)]) W := by
    rw [← fm_is]
    exact h7
  exact ⟨maxlen_of_shape hs, p, ⟨_, _, World.var?_cell (by kernel_rfl) v2 0⟩, ⟨_, _, World.var?_cell (by kernel_rfl) v1 0⟩, fm_cells h7'⟩
end Go.Proofs.YtbfdklmljcdonaaDoor
