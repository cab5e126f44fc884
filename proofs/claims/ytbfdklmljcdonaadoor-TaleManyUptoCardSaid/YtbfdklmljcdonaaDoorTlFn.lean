/- Package tale: numbers, words, tables. -/
import Derived.Test.YtbfdklmljcdonaaDoorTlHex
import Derived.Test.YtbfdklmljcdonaaDoorTlShelf
import Derived.Test.YtbfdklmljcdonaaDoorApE
import Derived.Test.YtbfdklmljcdonaaDoorRow
import Derived.Shelf.Strconv.ErrVarAll
import Derived.Shelf.Strings.OnBuilder
import Derived.Lib.AppendIntMem
namespace Go.Proofs.YtbfdklmljcdonaaDoor
open Go Go.RowKit
set_option linter.unusedVariables false
set_option linter.unusedSimpArgs false
set_option maxRecDepth 10000

def fmL (f : Fm) : List Value := [.int .i64 f.kind, .string (stB f.word), .int .i64 f.n, .bool f.text, .bool f.hs]
def fmC : List Value := fms.flatMap fmL
/-- The tables that the library and the package lay. -/
structure TabT (w : World) : Prop where
  len : ∃ m, w.cell? ⟨1, 0, none⟩ = some (.int .i64 m)
  pow : Lib.TabIs Tryd.prog w "internal/strconv.uint64pow10" .u64 Lib.pow10Tab
  syn : ∃ tp p, w.cell? ⟨5, 0, none⟩ = some (.iface tp p)
  rng : ∃ tp p, w.cell? ⟨6, 0, none⟩ = some (.iface tp p)
  fm : ∀ i v, fmC[i]? = some v → w.cell? ⟨0, i, none⟩ = some v
theorem TabT.later {w w' : World} (h : TabT w) (hb : Below w.heap.size w w') : TabT w' := by
  have key : ∀ {p : Addr} {v : Value}, w.cell? p = some v → w'.cell? p = some v := fun hc => (hb.cell (World.block_lt_of_cell? _ _ hc)).trans hc
  obtain ⟨m, hm⟩ := h.len
  obtain ⟨t1, p1, h1⟩ := h.syn
  obtain ⟨t2, p2, h2⟩ := h.rng
  exact ⟨⟨m, key hm⟩, (Lib.tabBelow_of_tabIs h.pow) w' hb, ⟨t1, p1, key h1⟩, ⟨t2, p2, key h2⟩, fun i v hv => key (h.fm i v hv)⟩
theorem below_drewN {B : Nat} {a w : World} (h : Below B a w) (n : Nat) : Below B a (w.drewN n) := ⟨h.os, h.tape, h.output, h.size, h.block⟩
theorem below_grow {B : Nat} {a w : World} (h : Below B a w) (hB : B ≤ a.heap.size) (os : Array Obj) : Below B a (Go.Sort.grow w os) :=
  ⟨h.os, h.tape, h.output, by unfold Go.Sort.grow; rw [Array.size_append]; have := h.size; omega, fun k hk => by
    have := h.size
    unfold Go.Sort.grow
    rw [Array.getElem?_append_left (by omega)]
    exact h.block k hk⟩
theorem itoa_at (n : Int) (t : ByteArray) (ht : stB (Lib.itoa n) = t) (hn : Rng n) (w : World) (hT : TabT w) :
    Calls Tryd.prog 18 #[.int .i64 n] w fun e w' => e = .returned (.string t) ∧ Below w.heap.size w w' := by
  refine (Any.strconv_Itoa Tryd.laysM171 n hn.1 hn.2 w hT.pow).mono ?_
  rintro e w' ⟨rfl, k, os, rfl⟩
  refine ⟨?_, below_grow (below_drewN (Below.refl _ _) _) (Nat.le_refl _) os⟩
  rw [← ht]
  rfl
def AtoiP (s : ByteArray) (w : World) (e : Ending) (w' : World) : Prop :=
  Below w.heap.size w w' ∧ ((∃ v, Lib.atoiAll (bl s) = .ok v ∧ e = .returned (.tuple #[.int .i64 v, .nilIface])) ∨ (∃ v t p, numW (bl s) = none ∧ e = .returned (.tuple #[.int .i64 v, .iface t p])))
theorem atoi_at (s : ByteArray) (hs : s.size ≤ 3000000) (w : World) (hT : TabT w) :
    Calls Tryd.prog 38 #[.string s] w (AtoiP s w) := by
  cases h : Lib.atoiAll s.data.toList with
  | ok v =>
    refine (Any.strconv_Atoi_ok Tryd.laysC172 s (by omega) v h w).mono ?_
    rintro e w' ⟨rfl, hw⟩
    refine ⟨?_, Or.inl ⟨v, h, rfl⟩⟩
    rcases hw with rfl | ⟨t, rfl⟩
    · exact Below.refl _ _
    · exact Lib.bytesWorld_below _ _ _
  | «syntax» =>
    obtain ⟨tp, p, hc⟩ := hT.syn
    refine (Any.strconv_Atoi_syntax Tryd.laysC172 s (by omega) h (.iface tp p) w hc (Or.inr ⟨tp, p, rfl⟩)).mono ?_
    rintro e w' ⟨N, rfl, _, _, hb⟩
    exact ⟨hb, Or.inr ⟨0, _, _, by unfold numW bl; rw [h], rfl⟩⟩
  | range =>
    obtain ⟨tp, p, hc⟩ := hT.rng
    refine (Any.strconv_Atoi_range Tryd.laysC172 s (by omega) h (.iface tp p) w hc (Or.inr ⟨tp, p, rfl⟩)).mono ?_
    rintro e w' ⟨N, rfl, _, _, hb⟩
    exact ⟨hb, Or.inr ⟨_, _, _, by unfold numW bl; rw [h], rfl⟩⟩
theorem toList_data (s : ByteArray) : s.toList = s.data.toList := ByteArray.toList_eq s
theorem str_eq (s t : ByteArray) : (s.toList == t.toList) = decide (bl s = bl t) := by
  rw [toList_data, toList_data]
  rw [Bool.eq_iff_iff, beq_iff_eq, decide_eq_true_iff]
  rfl
def NumP (s : ByteArray) (w : World) (e : Ending) (w' : World) : Prop :=
  ∃ v b, e = .returned (.tuple #[.int .i64 v, .bool b]) ∧ Below w.heap.size w w' ∧ numW (bl s) = (if b then some v else none)
set_option maxHeartbeats 2000000 in
theorem number_at (s : ByteArray) (hs : s.size ≤ 3000000) (w : World) (hT : TabT w) :
    Calls Tryd.prog 29 #[.string s] w (NumP s w) := by
  have HT := Lib.hid hT
  clear hT
  go_enter Tryd.func29, Tryd.ntmps29
  go_wp2_with fail
  refine (atoi_at s hs w HT.out).mono ?_
  rintro e w1 ⟨b1, ⟨v, hv, rfl⟩ | ⟨v, t, p, hn, rfl⟩⟩
  · have B1 := Lib.hid b1
    have HV := Lib.hid hv
    have hr : Rng v := Lib.atoiAll_bounds hv
    obtain ⟨x, hx⟩ : ∃ x, stB (Lib.itoa v) = x := ⟨_, rfl⟩
    obtain ⟨q, hq⟩ : ∃ q, (x.toList == s.toList) = q := ⟨_, rfl⟩
    have HQ : Hid (numW (bl s) = if q then some v else none) := Lib.hid (by
      unfold numW
      rw [hv]
      simp only
      rw [← hq, str_eq, ← hx, bl_stB]
      simp only [decide_eq_true_eq])
    clear b1 hv
    go_wp2_with fail
    refine (itoa_at v x hx hr w1 (HT.out.later B1.out)).mono ?_
    rintro e w2 ⟨rfl, b2⟩
    have B2 := Lib.hid (B1.out.trans (b2.mono B1.out.size))
    clear b2 hx
    go_wp2
    go_ret2
    exact ⟨v, q, rfl, B2.out, HQ.out⟩
  · have B1 := Lib.hid b1
    have HN := Lib.hid hn
    clear b1 hn
    go_wp2
    go_ret2
    exact ⟨v, false, rfl, B1.out, HN.out⟩
end Go.Proofs.YtbfdklmljcdonaaDoor
