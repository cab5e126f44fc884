/- Package feed: Reset, From. -/
import Derived.Test.YtodibjpojfipoaaGreatDoorFeRet
import Derived.RangeFuncNested
import Derived.RangeFuncBound
import Derived.RangeFuncCalls
import Derived.RangeFuncLeaves
import Derived.WalkKit
import Derived.OwnWalkIn
import Derived.TacticsInMore
import Derived.LoopNIn
import Derived.LoopIn
import Derived.Shelf.Abstract
import Derived.Shelf.RegionOpen
import Derived.Stop.RegionWithIn
import Derived.Test.YtodibjpojfipoaaGreatDoorFdPrs
/- Package field: Param: the number of the last parameter of a key. -/
namespace Go.Proofs.YtodibjpojfipoaaGreatDoor
open Go Go.RowKit
set_option linter.unusedVariables false
set_option linter.unusedSimpArgs false
set_option maxRecDepth 10000

def bkL {α : Type} (hs : List α) : Nat → List (Nat × α)
  | 0 => []
  | r + 1 => match hs[r]? with
    | some x => (r, x) :: bkL hs r
    | none => bkL hs r
theorem bkL_succ {α : Type} {hs : List α} {r : Nat} {x : α} (h : hs[r]? = some x) : bkL hs (r + 1) = (r, x) :: bkL hs r := by
  show (match hs[r]? with | some x => (r, x) :: bkL hs r | none => bkL hs r) = _
  rw [h]
theorem bkL_len {α : Type} {hs : List α} : ∀ r : Nat, r ≤ hs.length → (bkL hs r).length = r
  | 0, _ => rfl
  | r + 1, h => by
    rw [bkL_succ (List.getElem?_eq_getElem (by omega)), List.length_cons, bkL_len r (by omega)]
structure HdAt (w : World) (g off : Nat) (hs : List (ByteArray × ByteArray)) : Prop where
  lt : g < w.heap.size
  nm : ∀ i x, hs[i]? = some x → w.cell? ⟨g, off + i * 2, none⟩ = some (.string x.1)
  vl : ∀ i x, hs[i]? = some x → w.cell? ⟨g, off + i * 2 + 1, none⟩ = some (.string x.2)
attribute [local go_sem] Oper.semAt_some
abbrev HdX := { x : Nat × (ByteArray × ByteArray) // x.1 ≤ 1000000 ∧ x.2.1.size ≤ 1000000 ∧ x.2.2.size ≤ 1000000 }
def inM : Value → Nat
  | .int _ s => (s + 1).toNat
  | _ => 0
set_option maxRecDepth 100000 in
set_option maxHeartbeats 2000000 in
theorem backH_in (n : Nat) (hn : 1 ≤ n) (sa : Option Addr) (l Bn g off c : Nat) (hs : List (ByteArray × ByteArray)) (hl : hs.length ≤ 1000000) (hz : ∀ x ∈ hs, x.1.size ≤ 1000000 ∧ x.2.size ≤ 1000000) (J Jx : List HdX → World → Prop)
    (w0 W : World) (hW : Below w0.heap.size w0 W) (hA : hs ≠ [] → HdAt w0 g off hs) (hSa : hs ≠ [] → sa = some ⟨g, off, none⟩)
    (hY : ∀ pre x W, J pre W → pre.length < hs.length → YieldAt Fence.wide (n - 1) Tryz.prog l #[.int .i64 (x.1.1 : Int), .agg #[.string x.1.2.1, .string x.1.2.2]] W fun e W' =>
      (e = .returned (.bool true) ∧ J (pre ++ [x]) W' ∧ Below w0.heap.size W W') ∨ (e = .returned (.bool false) ∧ Jx (pre ++ [x]) W'))
    (hBn : w0.cell? ⟨Bn, 0, none⟩ = some (.slice sa hs.length c)) (hBl : Bn < w0.heap.size) (h0 : J [] W) :
    CallsIn Fence.wide n Tryz.prog 97 #[.func (.yield l) #[] #[], .pointer (some ⟨Bn, 0, none⟩)] W fun e W' => (∃ v, e = .returned v) ∧
      ((∃ ys, ys.map Subtype.val = bkL hs hs.length ∧ J ys W') ∨ (∃ pre, pre.map Subtype.val <+: bkL hs hs.length ∧ Jx pre W')) := by
  refine callsIn_of_wp Tryz.func97 rfl trivial ?_ rfl
  simp only [Tryz.ntmps97, List.size_toArray, List.length_cons, List.length_nil, Nat.reduceAdd, Nat.reduceSub, Array.replicate_succ, Array.replicate_zero, List.push_toArray, List.append_toArray, List.nil_append, List.cons_append]
  obtain ⟨m, hm⟩ : ∃ m, hs.length = m := ⟨_, rfl⟩
  have HM := Lib.hid hm
  rw [hm] at hBn hl
  have cB : W.cell? ⟨Bn, 0, none⟩ = some (.slice sa m c) := (hW.cell hBl).trans hBn
  have wm : IntKind.i64.wrap ((m : Int) - 1) = (m : Int) - 1 := by rw [IntKind.wrap_i64]; omega
  have HW := Lib.hid hW
  clear hW hm
  gi_wp2
  gi_loopw [3] (fun vn wr => ∃ (pre : List HdX) (r : Nat), vn = .int .i64 ((r : Int) - 1) ∧ r ≤ m ∧ Hid (pre.map Subtype.val ++ bkL hs r = bkL hs m) ∧ Hid (J pre wr) ∧ Hid (Below w0.heap.size w0 wr)) (fun vn _ => inM vn)
  case atStart => exact ⟨[], m, rfl, by omega, Lib.hid rfl, Lib.hid h0, HW⟩
  case round =>
    obtain ⟨pre, r, rfl, hr, HX, HJ, HB⟩ := hrel
    have cR : wr.cell? ⟨Bn, 0, none⟩ = some (.slice sa m c) := (HB.out.cell hBl).trans hBn
    clear cB
    cases r with
    | zero =>
      have HXX : Hid (pre.map Subtype.val = bkL hs m) := Lib.hid (by rw [← HX.out]; simp [bkL])
      gi_wp2
      go_end0
      exact ⟨⟨_, rfl⟩, .inl ⟨pre, by rw [HXX.out, HM.out], HJ.out⟩⟩
    | succ r =>
      have hlt : r < hs.length := by rw [HM.out]; omega
      obtain ⟨y, hy⟩ : ∃ y, hs[r]? = some y := ⟨_, List.getElem?_eq_getElem hlt⟩
      obtain ⟨x, hx⟩ : ∃ x : HdX, x.1 = (r, y) := ⟨⟨(r, y), ⟨by show r ≤ 1000000; omega, hz y (List.mem_of_getElem? hy)⟩⟩, rfl⟩
      have HX2 : Hid ((pre ++ [x]).map Subtype.val ++ bkL hs r = bkL hs m) := Lib.hid (by rw [← HX.out, bkL_succ hy]; simp [hx])
      have hne : hs ≠ [] := fun h => by rw [h] at hlt; simp at hlt
      have HA := hA hne
      rw [hSa hne] at cR
      have n1 : wr.cell? ⟨g, off + r * 2, none⟩ = some (.string y.1) := (HB.out.cell HA.lt).trans (HA.nm r y hy)
      have n2 : wr.cell? ⟨g, off + r * 2 + 1, none⟩ = some (.string y.2) := (HB.out.cell HA.lt).trans (HA.vl r y hy)
      have HYR := Lib.hid (hY pre x wr HJ.out (by
        have h9 := congrArg List.length HX2.out
        rw [List.length_append, List.length_map, List.length_append, bkL_len r (by omega), bkL_len m (by rw [HM.out]; omega)] at h9
        simp at h9
        rw [HM.out]
        omega))
      rw [hx] at HYR
      dsimp only at HYR
      have e1 : ((r + 1 : Nat) : Int) - 1 = (r : Int) := by omega
      have wr1 : IntKind.i64.wrap ((r : Int) - 1) = (r : Int) - 1 := by rw [IntKind.wrap_i64]; omega
      have wr0 : IntKind.i64.wrap (r : Int) = (r : Int) := by rw [IntKind.wrap_i64]; omega
      have g0 : decide ((0 : Int) ≤ (r : Int)) = true := decide_eq_true (by omega)
      have hrm : r < m := by omega
      clear hx hy hne HA hlt
      rw [e1]
      obtain ⟨fn, tmps, assign, body, hy, hRR⟩ := HYR.out
      gi_wp2
      refine hRR.mono ?_
      rintro e W3 (⟨rfl, hJ3, hb3⟩ | ⟨rfl, hJx3⟩)
      · have HJ3 := Lib.hid hJ3
        have HB3 := Lib.hid (HB.out.trans hb3)
        clear hJ3 hb3 HYR hy hRR n1 n2 cR
        gi_wp2
        go_roundw
        case rel => exact ⟨pre ++ [x], r, rfl, by omega, HX2, HJ3, HB3⟩
        case measure => simp [inM]
      · have HJX := Lib.hid hJx3
        clear hJx3 HYR hy hRR n1 n2 cR
        gi_wp2
        refine bodyPost_ret (results_none rfl _ _ _) rfl ?_
        exact ⟨⟨_, rfl⟩, .inr ⟨pre ++ [x], ⟨_, by rw [HM.out]; exact HX2.out⟩, HJX.out⟩⟩
end Go.Proofs.YtodibjpojfipoaaGreatDoor
/- Package feed: parameters, from the last. -/
namespace Go.Proofs.YtodibjpojfipoaaGreatDoor
open Go Go.RowKit
set_option linter.unusedVariables false
set_option linter.unusedSimpArgs false
set_option maxRecDepth 10000

structure PbAt (w : World) (g off : Nat) (hs : List PB) : Prop where
  lt : g < w.heap.size
  at_ : ∀ i x, hs[i]? = some x → ∀ j v, (pbL x)[j]? = some v → w.cell? ⟨g, off + i * 4 + j, none⟩ = some v
attribute [local go_sem] Oper.semAt_some
abbrev PbX := { x : Nat × PB // x.1 ≤ 1000000 }
set_option maxRecDepth 100000 in
set_option maxHeartbeats 2000000 in
theorem backPb_in (n : Nat) (hn : 1 ≤ n) (sa : Option Addr) (l Bn g off c : Nat) (hs : List PB) (hl : hs.length ≤ 1000000) (J Jx : List PbX → World → Prop)
    (w0 W : World) (hW : Below w0.heap.size w0 W) (hA : hs ≠ [] → PbAt w0 g off hs) (hSa : hs ≠ [] → sa = some ⟨g, off, none⟩)
    (hY : ∀ pre x W, J pre W → pre.length < hs.length → YieldAt Fence.wide (n - 1) Tryz.prog l #[.int .i64 (x.1.1 : Int), .agg #[.string x.1.2.key, .int .i64 x.1.2.v.k, .int .i64 x.1.2.v.n, .string x.1.2.v.s]] W fun e W' =>
      (e = .returned (.bool true) ∧ J (pre ++ [x]) W' ∧ Below w0.heap.size W W') ∨ (e = .returned (.bool false) ∧ Jx (pre ++ [x]) W'))
    (hBn : w0.cell? ⟨Bn, 0, none⟩ = some (.slice sa hs.length c)) (hBl : Bn < w0.heap.size) (h0 : J [] W) :
    CallsIn Fence.wide n Tryz.prog 118 #[.func (.yield l) #[] #[], .pointer (some ⟨Bn, 0, none⟩)] W fun e W' => (∃ v, e = .returned v) ∧
      ((∃ ys, ys.map Subtype.val = bkL hs hs.length ∧ J ys W') ∨ (∃ pre, pre.map Subtype.val <+: bkL hs hs.length ∧ Jx pre W')) := by
  refine callsIn_of_wp Tryz.func118 rfl trivial ?_ rfl
  simp only [Tryz.ntmps118, List.size_toArray, List.length_cons, List.length_nil, Nat.reduceAdd, Nat.reduceSub, Array.replicate_succ, Array.replicate_zero, List.push_toArray, List.append_toArray, List.nil_append, List.cons_append]
  obtain ⟨m, hm⟩ : ∃ m, hs.length = m := ⟨_, rfl⟩
  have HM := Lib.hid hm
  rw [hm] at hBn hl
  have cB : W.cell? ⟨Bn, 0, none⟩ = some (.slice sa m c) := (hW.cell hBl).trans hBn
  have wm : IntKind.i64.wrap ((m : Int) - 1) = (m : Int) - 1 := by rw [IntKind.wrap_i64]; omega
  have HW := Lib.hid hW
  clear hW hm
  gi_wp2
  gi_loopw [3] (fun vn wr => ∃ (pre : List PbX) (r : Nat), vn = .int .i64 ((r : Int) - 1) ∧ r ≤ m ∧ Hid (pre.map Subtype.val ++ bkL hs r = bkL hs m) ∧ Hid (J pre wr) ∧ Hid (Below w0.heap.size w0 wr)) (fun vn _ => inM vn)
  case atStart => exact ⟨[], m, rfl, by omega, Lib.hid rfl, Lib.hid h0, HW⟩
  case round =>
    obtain ⟨pre, r, rfl, hr, HX, HJ, HB⟩ := hrel
    have cR : wr.cell? ⟨Bn, 0, none⟩ = some (.slice sa m c) := (HB.out.cell hBl).trans hBn
    clear cB
    cases r with
    | zero =>
      have HXX : Hid (pre.map Subtype.val = bkL hs m) := Lib.hid (by rw [← HX.out]; simp [bkL])
      gi_wp2
      go_end0
      exact ⟨⟨_, rfl⟩, .inl ⟨pre, by rw [HXX.out, HM.out], HJ.out⟩⟩
    | succ r =>
      have hlt : r < hs.length := by rw [HM.out]; omega
      obtain ⟨y, hy⟩ : ∃ y, hs[r]? = some y := ⟨_, List.getElem?_eq_getElem hlt⟩
      obtain ⟨x, hx⟩ : ∃ x : PbX, x.1 = (r, y) := ⟨⟨(r, y), by show r ≤ 1000000; omega⟩, rfl⟩
      have HX2 : Hid ((pre ++ [x]).map Subtype.val ++ bkL hs r = bkL hs m) := Lib.hid (by rw [← HX.out, bkL_succ hy]; simp [hx])
      have hne : hs ≠ [] := fun h => by rw [h] at hlt; simp at hlt
      have HA := hA hne
      rw [hSa hne] at cR
      have n1 : wr.cell? ⟨g, off + r * 4, none⟩ = some (.string y.key) := (HB.out.cell HA.lt).trans (HA.at_ r y hy 0 _ rfl)
      have n2 : wr.cell? ⟨g, off + r * 4 + 1, none⟩ = some (.int .i64 y.v.k) := (HB.out.cell HA.lt).trans (HA.at_ r y hy 1 _ rfl)
      have n3 : wr.cell? ⟨g, off + r * 4 + 2, none⟩ = some (.int .i64 y.v.n) := (HB.out.cell HA.lt).trans (HA.at_ r y hy 2 _ rfl)
      have n4 : wr.cell? ⟨g, off + r * 4 + 3, none⟩ = some (.string y.v.s) := (HB.out.cell HA.lt).trans (HA.at_ r y hy 3 _ rfl)
      have HYR := Lib.hid (hY pre x wr HJ.out (by
        have h9 := congrArg List.length HX2.out
        rw [List.length_append, List.length_map, List.length_append, bkL_len r (by omega), bkL_len m (by rw [HM.out]; omega)] at h9
        simp at h9
        rw [HM.out]
        omega))
      rw [hx] at HYR
      dsimp only at HYR
      have e1 : ((r + 1 : Nat) : Int) - 1 = (r : Int) := by omega
      have wr1 : IntKind.i64.wrap ((r : Int) - 1) = (r : Int) - 1 := by rw [IntKind.wrap_i64]; omega
      have wr0 : IntKind.i64.wrap (r : Int) = (r : Int) := by rw [IntKind.wrap_i64]; omega
      have g0 : decide ((0 : Int) ≤ (r : Int)) = true := decide_eq_true (by omega)
      have hrm : r < m := by omega
      clear hx hy hne HA hlt
      rw [e1]
      obtain ⟨fn, tmps, assign, body, hy, hRR⟩ := HYR.out
      gi_wp2
      refine hRR.mono ?_
      rintro e W3 (⟨rfl, hJ3, hb3⟩ | ⟨rfl, hJx3⟩)
      · have HJ3 := Lib.hid hJ3
        have HB3 := Lib.hid (HB.out.trans hb3)
        clear hJ3 hb3 HYR hy hRR n1 n2 n3 n4 cR
        gi_wp2
        go_roundw
        case rel => exact ⟨pre ++ [x], r, rfl, by omega, HX2, HJ3, HB3⟩
        case measure => simp [inM]
      · have HJX := Lib.hid hJx3
        clear hJx3 HYR hy hRR n1 n2 n3 n4 cR
        gi_wp2
        refine bodyPost_ret (results_none rfl _ _ _) rfl ?_
        exact ⟨⟨_, rfl⟩, .inr ⟨pre ++ [x], ⟨_, by rw [HM.out]; exact HX2.out⟩, HJX.out⟩⟩
end Go.Proofs.YtodibjpojfipoaaGreatDoor
/- Package feed: items, from the last. -/
namespace Go.Proofs.YtodibjpojfipoaaGreatDoor
open Go Go.RowKit
set_option linter.unusedVariables false
set_option linter.unusedSimpArgs false
set_option maxRecDepth 10000

structure IxAt (w : World) (g off : Nat) (hs : List IX) : Prop where
  lt : g < w.heap.size
  at_ : ∀ i x, hs[i]? = some x → ∀ j v, (ixL x)[j]? = some v → w.cell? ⟨g, off + i * 5 + j, none⟩ = some v
attribute [local go_sem] Oper.semAt_some
abbrev IxX := { x : Nat × IX // x.1 ≤ 1000000 }
set_option maxRecDepth 100000 in
set_option maxHeartbeats 2000000 in
theorem backIx_in (n : Nat) (hn : 1 ≤ n) (sa : Option Addr) (l Bn g off c : Nat) (hs : List IX) (hl : hs.length ≤ 1000000) (J Jx : List IxX → World → Prop)
    (w0 W : World) (hW : Below w0.heap.size w0 W) (hA : hs ≠ [] → IxAt w0 g off hs) (hSa : hs ≠ [] → sa = some ⟨g, off, none⟩)
    (hY : ∀ pre x W, J pre W → pre.length < hs.length → YieldAt Fence.wide (n - 1) Tryz.prog l #[.int .i64 (x.1.1 : Int), .agg #[.string x.1.2.k.key, .int .i64 x.1.2.k.v.k, .int .i64 x.1.2.k.v.n, .string x.1.2.k.v.s, .slice x.1.2.a x.1.2.n x.1.2.cap]] W fun e W' =>
      (e = .returned (.bool true) ∧ J (pre ++ [x]) W' ∧ Below w0.heap.size W W') ∨ (e = .returned (.bool false) ∧ Jx (pre ++ [x]) W'))
    (hBn : w0.cell? ⟨Bn, 0, none⟩ = some (.slice sa hs.length c)) (hBl : Bn < w0.heap.size) (h0 : J [] W) :
    CallsIn Fence.wide n Tryz.prog 117 #[.func (.yield l) #[] #[], .pointer (some ⟨Bn, 0, none⟩)] W fun e W' => (∃ v, e = .returned v) ∧
      ((∃ ys, ys.map Subtype.val = bkL hs hs.length ∧ J ys W') ∨ (∃ pre, pre.map Subtype.val <+: bkL hs hs.length ∧ Jx pre W')) := by
  refine callsIn_of_wp Tryz.func117 rfl trivial ?_ rfl
  simp only [Tryz.ntmps117, List.size_toArray, List.length_cons, List.length_nil, Nat.reduceAdd, Nat.reduceSub, Array.replicate_succ, Array.replicate_zero, List.push_toArray, List.append_toArray, List.nil_append, List.cons_append]
  obtain ⟨m, hm⟩ : ∃ m, hs.length = m := ⟨_, rfl⟩
  have HM := Lib.hid hm
  rw [hm] at hBn hl
  have cB : W.cell? ⟨Bn, 0, none⟩ = some (.slice sa m c) := (hW.cell hBl).trans hBn
  have wm : IntKind.i64.wrap ((m : Int) - 1) = (m : Int) - 1 := by rw [IntKind.wrap_i64]; omega
  have HW := Lib.hid hW
  clear hW hm
  gi_wp2
  gi_loopw [3] (fun vn wr => ∃ (pre : List IxX) (r : Nat), vn = .int .i64 ((r : Int) - 1) ∧ r ≤ m ∧ Hid (pre.map Subtype.val ++ bkL hs r = bkL hs m) ∧ Hid (J pre wr) ∧ Hid (Below w0.heap.size w0 wr)) (fun vn _ => inM vn)
  case atStart => exact ⟨[], m, rfl, by omega, Lib.hid rfl, Lib.hid h0, HW⟩
  case round =>
    obtain ⟨pre, r, rfl, hr, HX, HJ, HB⟩ := hrel
    have cR : wr.cell? ⟨Bn, 0, none⟩ = some (.slice sa m c) := (HB.out.cell hBl).trans hBn
    clear cB
    cases r with
    | zero =>
      have HXX : Hid (pre.map Subtype.val = bkL hs m) := Lib.hid (by rw [← HX.out]; simp [bkL])
      gi_wp2
      go_end0
      exact ⟨⟨_, rfl⟩, .inl ⟨pre, by rw [HXX.out, HM.out], HJ.out⟩⟩
    | succ r =>
      have hlt : r < hs.length := by rw [HM.out]; omega
      obtain ⟨y, hy⟩ : ∃ y, hs[r]? = some y := ⟨_, List.getElem?_eq_getElem hlt⟩
      obtain ⟨x, hx⟩ : ∃ x : IxX, x.1 = (r, y) := ⟨⟨(r, y), by show r ≤ 1000000; omega⟩, rfl⟩
      have HX2 : Hid ((pre ++ [x]).map Subtype.val ++ bkL hs r = bkL hs m) := Lib.hid (by rw [← HX.out, bkL_succ hy]; simp [hx])
      have hne : hs ≠ [] := fun h => by rw [h] at hlt; simp at hlt
      have HA := hA hne
      rw [hSa hne] at cR
      have n1 : wr.cell? ⟨g, off + r * 5, none⟩ = some (.string y.k.key) := (HB.out.cell HA.lt).trans (HA.at_ r y hy 0 _ rfl)
      have n2 : wr.cell? ⟨g, off + r * 5 + 1, none⟩ = some (.int .i64 y.k.v.k) := (HB.out.cell HA.lt).trans (HA.at_ r y hy 1 _ rfl)
      have n3 : wr.cell? ⟨g, off + r * 5 + 2, none⟩ = some (.int .i64 y.k.v.n) := (HB.out.cell HA.lt).trans (HA.at_ r y hy 2 _ rfl)
      have n4 : wr.cell? ⟨g, off + r * 5 + 3, none⟩ = some (.string y.k.v.s) := (HB.out.cell HA.lt).trans (HA.at_ r y hy 3 _ rfl)
      have n5 : wr.cell? ⟨g, off + r * 5 + 4, none⟩ = some (.slice y.a y.n y.cap) := (HB.out.cell HA.lt).trans (HA.at_ r y hy 4 _ rfl)
      have HYR := Lib.hid (hY pre x wr HJ.out (by
        have h9 := congrArg List.length HX2.out
        rw [List.length_append, List.length_map, List.length_append, bkL_len r (by omega), bkL_len m (by rw [HM.out]; omega)] at h9
        simp at h9
        rw [HM.out]
        omega))
      rw [hx] at HYR
      dsimp only at HYR
      have e1 : ((r + 1 : Nat) : Int) - 1 = (r : Int) := by omega
      have wr1 : IntKind.i64.wrap ((r : Int) - 1) = (r : Int) - 1 := by rw [IntKind.wrap_i64]; omega
      have wr0 : IntKind.i64.wrap (r : Int) = (r : Int) := by rw [IntKind.wrap_i64]; omega
      have g0 : decide ((0 : Int) ≤ (r : Int)) = true := decide_eq_true (by omega)
      have hrm : r < m := by omega
      clear hx hy hne HA hlt
      rw [e1]
      obtain ⟨fn, tmps, assign, body, hy, hRR⟩ := HYR.out
      gi_wp2
      refine hRR.mono ?_
      rintro e W3 (⟨rfl, hJ3, hb3⟩ | ⟨rfl, hJx3⟩)
      · have HJ3 := Lib.hid hJ3
        have HB3 := Lib.hid (HB.out.trans hb3)
        clear hJ3 hb3 HYR hy hRR n1 n2 n3 n4 n5 cR
        gi_wp2
        go_roundw
        case rel => exact ⟨pre ++ [x], r, rfl, by omega, HX2, HJ3, HB3⟩
        case measure => simp [inM]
      · have HJX := Lib.hid hJx3
        clear hJx3 HYR hy hRR n1 n2 n3 n4 n5 cR
        gi_wp2
        refine bodyPost_ret (results_none rfl _ _ _) rfl ?_
        exact ⟨⟨_, rfl⟩, .inr ⟨pre ++ [x], ⟨_, by rw [HM.out]; exact HX2.out⟩, HJX.out⟩⟩
end Go.Proofs.YtodibjpojfipoaaGreatDoor
/- Package feed: value: the last header of a name. -/
namespace Go.Proofs.YtodibjpojfipoaaGreatDoor
open Go Go.RowKit Go.Shelf
set_option linter.unusedVariables false
set_option linter.unusedSimpArgs false
set_option maxRecDepth 10000

theorem backH_at (a : Option Addr) (n c : Nat) (w : World) :
    Calls Tryz.prog 59 #[.slice a n c] w fun e w' => e = .returned (.func (.func 97) #[] #[.pointer (some ⟨w.heap.size, 0, none⟩)]) ∧ w' = w.alloc (.cells #[.slice a n c] 31) := by
  have hmf : ∀ (fn : Fn) (first cap : Array Value) (w : World), (Instr.makeFunc fn first cap).run Tryz.prog w = .ok (.func fn first cap) w := fun _ _ _ _ => rfl
  go_enter Tryz.func59, Tryz.ntmps59
  go_wp2
  go_ret
  exact ⟨rfl, rfl⟩
theorem backH_stops (n : Nat) (hn : 1 ≤ n) (sa : Option Addr) (Bn g off c : Nat) (hs : List (ByteArray × ByteArray)) (hl : hs.length ≤ 1000000) (hz : ∀ x ∈ hs, x.1.size ≤ 1000000 ∧ x.2.size ≤ 1000000) (w : World) (hA : hs ≠ [] → HdAt w g off hs) (hSa : hs ≠ [] → sa = some ⟨g, off, none⟩) (hBn : w.cell? ⟨Bn, 0, none⟩ = some (.slice sa hs.length c)) (hBl : Bn < w.heap.size) :
    SeqStopsK Fence.wide n Tryz.prog 97 #[.pointer (some ⟨Bn, 0, none⟩)] (fun x : HdX => #[.int .i64 (x.1.1 : Int), .agg #[.string x.1.2.1, .string x.1.2.2]]) (Below w.heap.size) (fun ys => ys.map Subtype.val = bkL hs hs.length) (fun pre => pre.map Subtype.val <+: bkL hs hs.length) hs.length w := fun l J Jx W hW hJ _ hY h0 =>
  backH_in n hn sa l Bn g off c hs hl hz J Jx w W hW hA hSa hY hBn hBl h0
theorem neq_toListV {x y : ByteArray} (h : x ≠ y) : (x.toList == y.toList) = false := by
  rw [ByteArray.toList_eq, ByteArray.toList_eq]
  simp only [beq_eq_false_iff_ne, ne_eq]
  intro e
  exact h (ByteArray.ext (Array.toList_inj.1 e))
theorem eq_of_toList {a b : ByteArray} (h : (a.toList == b.toList) = true) : a = b := by
  by_cases he : a = b
  · exact he
  · have := neq_toListV he
    rw [h] at this
    cases this
def valB (k : ByteArray) : List (Nat × (ByteArray × ByteArray)) → ByteArray
  | [] => ByteArray.empty
  | x :: r => if lowB x.2.1 = k then strL (trL (btL x.2.2)) else valB k r
theorem valB_none {k : ByteArray} : ∀ {L : List (Nat × (ByteArray × ByteArray))}, (∀ z ∈ L, lowB z.2.1 ≠ k) → valB k L = ByteArray.empty
  | [], _ => rfl
  | x :: r, h => by
    unfold valB
    rw [if_neg (h x (by simp))]
    exact valB_none (fun z hz => h z (by simp [hz]))
theorem valB_yes {k : ByteArray} : ∀ {L : List (Nat × (ByteArray × ByteArray))} {x : Nat × (ByteArray × ByteArray)} {r : List (Nat × (ByteArray × ByteArray))}, (∀ z ∈ L, lowB z.2.1 ≠ k) → lowB x.2.1 = k → valB k (L ++ x :: r) = strL (trL (btL x.2.2))
  | [], x, r, _, hx => by
    rw [List.nil_append]
    unfold valB
    rw [if_pos hx]
  | y :: t, x, r, h, hx => by
    rw [List.cons_append]
    unfold valB
    rw [if_neg (h y (by simp))]
    exact valB_yes (fun z hz => h z (by simp [hz])) hx
theorem box_keptV {W W' : World} {b B : Nat} {cs : Array Value} {t : TypeId} {row : Option Nat} (h : Box W b cs t) (hg : W.grownBy W' row) (hr : ∀ r, row = some r → B ≤ r ∧ ∃ o : Obj, W.heap[r]? = some o ∧ o.isCells = false) : Box W' b cs t := by
  refine (hg.block b h.lt (fun e => ?_)).trans h
  obtain ⟨_, o, ho, hc⟩ := hr b e.symm
  have h2 : W.heap[b]? = some (.cells cs t (0, 0)) := h
  rw [h2] at ho
  injection ho with ho
  subst ho
  cases hc
structure VaI (w : World) (k : ByteArray) (r3 r4 : Nat) (pre : List HdX) (W : World) : Prop where
  no : ∀ z ∈ pre, lowB z.1.2.1 ≠ k
  b3 : Box W r3 #[.string k] 9
  b4 : Box W r4 #[.string ByteArray.empty] 9
  bel : Below w.heap.size w W
structure VaX (w : World) (k : ByteArray) (r4 : Nat) (pre : List HdX) (W : World) : Prop where
  yes : ∃ p x, pre = p ++ [x] ∧ (∀ z ∈ p, lowB z.1.2.1 ≠ k) ∧ lowB x.1.2.1 = k ∧ Box W r4 #[.string (strL (trL (btL x.1.2.2)))] 9
  bel : Below w.heap.size w W
structure VaA (w : World) (v : Value) (k : ByteArray) (n c r3 r4 sb : Nat) (x : HdX) (a : Act) (W : World) : Prop where
  ex : ∃ b, w.heap.size ≤ b ∧ r4 < b ∧ Box W b #[.string x.1.2.1, .string x.1.2.2] 37 ∧
    a = { tmps := #[v, .string k, undef, .pointer (some ⟨r3, 0, none⟩), .pointer (some ⟨r4, 0, none⟩), undef, .pointer (some ⟨b, 0, none⟩), v, .func (.func 97) #[] #[.pointer (some ⟨sb, 0, none⟩)], .int .i64 (x.1.1 : Int), .agg #[.string x.1.2.1, .string x.1.2.2], undef, undef, undef, undef, undef, undef, undef, undef], defers := [] }
theorem VaI.kept {w : World} {k : ByteArray} {r3 r4 B : Nat} {pre : List HdX} {W W' : World} {row : Option Nat} (hB : w.heap.size ≤ B) (h : VaI w k r3 r4 pre W) (hg : W.grownBy W' row) (hr : ∀ r, row = some r → B ≤ r ∧ ∃ o : Obj, W.heap[r]? = some o ∧ o.isCells = false) : VaI w k r3 r4 pre W' :=
  ⟨h.no, box_keptV h.b3 hg hr, box_keptV h.b4 hg hr, h.bel.grown hg h.bel.size (fun k hk => Nat.le_trans hB (hr k hk).1)⟩
theorem VaI.below {w : World} {k : ByteArray} {r3 r4 : Nat} {pre : List HdX} {W W' : World} (h : VaI w k r3 r4 pre W) (hb : Below W.heap.size W W') : VaI w k r3 r4 pre W' := ⟨h.no, h.b3.later hb, h.b4.later hb, h.bel.trans (hb.mono h.bel.size)⟩
theorem VaX.kept {w : World} {k : ByteArray} {r4 B : Nat} {pre : List HdX} {W W' : World} {row : Option Nat} (hB : w.heap.size ≤ B) (h : VaX w k r4 pre W) (hg : W.grownBy W' row) (hr : ∀ r, row = some r → B ≤ r ∧ ∃ o : Obj, W.heap[r]? = some o ∧ o.isCells = false) : VaX w k r4 pre W' :=
  ⟨by obtain ⟨p, x, e, h1, h2, h3⟩ := h.yes; exact ⟨p, x, e, h1, h2, box_keptV h3 hg hr⟩, h.bel.grown hg h.bel.size (fun k hk => Nat.le_trans hB (hr k hk).1)⟩
theorem VaA.kept {w : World} {v : Value} {k : ByteArray} {n c r3 r4 sb B : Nat} {x : HdX} {a : Act} {W W' : World} {row : Option Nat} (h : VaA w v k n c r3 r4 sb x a W) (hg : W.grownBy W' row) (hr : ∀ r, row = some r → B ≤ r ∧ ∃ o : Obj, W.heap[r]? = some o ∧ o.isCells = false) : VaA w v k n c r3 r4 sb x a W' := by
  obtain ⟨b, h1, h2, h3, h4⟩ := h.ex
  exact ⟨b, h1, h2, box_keptV h3 hg hr, h4⟩
theorem codeIn_forgetV {P : Program} {F : Fence} {n : Nat} {c : Code} {Q : Exit → Act → World → Prop} {a : Act} {w : World} (S : World → Prop) (h : S w) (k : ∀ w', S w' → Code.wpIn F n P c Q a w') : Code.wpIn F n P c Q a w := k w h
theorem keeps_belowV {W W' : World} (h : Below W.heap.size W W') : KeepsOthers W W' := ⟨h.size, fun k o hk _ => (h.block k (Array.getElem?_eq_some_iff.1 hk).1).trans hk⟩
attribute [local go_sem] Oper.semAt_some
set_option maxRecDepth 100000 in
set_option maxHeartbeats 4000000 in
theorem fvalue_at (sa : Option Addr) (g off c : Nat) (hs : List (ByteArray × ByteArray)) (hl : hs.length ≤ 1000000) (hz : ∀ x ∈ hs, x.1.size ≤ 1000000 ∧ x.2.size ≤ 1000000) (k : ByteArray) (w : World) (hA : hs ≠ [] → HdAt w g off hs) (hSa : hs ≠ [] → sa = some ⟨g, off, none⟩) :
    Calls Tryz.prog 29 #[.slice sa hs.length c, .string k] w fun e w' => e = .returned (.string (valB k (bkL hs hs.length))) ∧ Below w.heap.size w w' := by
  refine (callsIn_wide (n := 9)).1 ?_
  refine callsIn_of_wp_marks Tryz.func29 rfl trivial ?_ rfl
  simp only [Tryz.ntmps29, List.size_toArray, List.length_cons, List.length_nil, Nat.reduceAdd, Nat.reduceSub, Array.replicate_succ, Array.replicate_zero, List.push_toArray, List.append_toArray, List.nil_append, List.cons_append]
  gi_wp2_with fail
  refine ⟨trivial, ?_⟩
  refine (callsIn_wide.2 (backH_at _ _ _ _)).mono ?_
  rintro e w' ⟨rfl, rfl⟩
  gi_wp2
  refine codeIn_forgetV (fun W => Hid (VaI w k w.heap.size (w.heap.size + 1) [] W) ∧ Hid (W.cell? ⟨w.heap.size + 1 + 1, 0, none⟩ = some (.slice sa hs.length c) ∧ w.heap.size + 1 + 1 < W.heap.size)) ⟨Lib.hid ⟨fun z hz => (by cases hz), ?_, ?_, ?_⟩, Lib.hid ⟨?_, ?_⟩⟩ ?_
  · exact ((Box.new w _ _).alloc _).alloc _
  · have h := Box.new (w.alloc (.cells #[.string k] 9)) #[.string ⟨#[]⟩] 9
    rw [World.size_alloc] at h
    exact h.alloc _
  · exact (((Below.refl _ w).alloc (Nat.le_refl _) _).alloc (by simp) _).alloc (by simp; omega) _
  · have h := Box.new ((w.alloc (.cells #[.string k] 9)).alloc (.cells #[.string ⟨#[]⟩] 9)) #[.slice sa hs.length c] 31
    rw [World.size_alloc, World.size_alloc] at h
    rw [h.cell 0]
    rfl
  · simp
  obtain ⟨r3, hr3⟩ : ∃ b, w.heap.size = b := ⟨_, rfl⟩
  obtain ⟨r4, hr4⟩ : ∃ b, r3 + 1 = b := ⟨_, rfl⟩
  obtain ⟨sb, hsb⟩ : ∃ b, r4 + 1 = b := ⟨_, rfl⟩
  have HNE : Hid (w.heap.size = r3 ∧ r3 + 1 = r4 ∧ r4 + 1 = sb) := Lib.hid ⟨hr3, hr4, hsb⟩
  rw [hr3, hr4, hsb]
  clear hr3 hr4 hsb
  rintro w1 ⟨H0, HS⟩
  have hA1 : hs ≠ [] → HdAt w1 g off hs := fun h => ⟨Nat.lt_of_lt_of_le (hA h).lt H0.out.bel.size, fun i x hx => (H0.out.bel.cell (hA h).lt).trans ((hA h).nm i x hx), fun i x hx => (H0.out.bel.cell (hA h).lt).trans ((hA h).vl i x hx)⟩
  refine wpIn_rangeFunc_ownH rfl (by omega) (gf := 97) (lb := #[.pointer (some ⟨sb, 0, none⟩)]) rfl trivial (enters_of Tryz.func97 (by kernel_rfl) rfl)
    (backH_stops (9 - 1) (by omega) sa sb g off c hs hl hz w1 hA1 hSa HS.out.1 HS.out.2) belowK_t (belowK_b (Nat.le_refl _)) (Below.refl _ _) (fun _ => rfl)
    (fun pre W => VaI w k r3 r4 pre W ∧ w1.heap.size ≤ W.heap.size) (fun c pre W => c = .ret ∧ VaX w k r4 pre W)
    (fun pre A B row hs hg hr => ⟨hs.1.kept H0.out.bel.size hg hr, Nat.le_trans hs.2 hg.size⟩)
    (fun cc pre A B row hs hg hr => ⟨hs.1, hs.2.kept H0.out.bel.size hg hr⟩) ⟨H0.out, Nat.le_refl _⟩
    (VaA w (.slice sa hs.length c) k hs.length c r3 r4 sb) (fun x a' u A B row hs hg hr => hs.kept hg hr) ?assign ?body ?done ?stop
  case assign =>
    rintro l pre x W K ⟨hI, hsz⟩ hK
    have HI := Lib.hid hI
    have HK := Lib.hid hK
    have HZ := Lib.hid hsz
    clear hI hK hsz
    gi_wp2
    refine HK.out _ _ ((keeps_belowV ((Below.refl _ _).alloc (Nat.le_refl _) _)).from _) ((Below.refl _ W).alloc HZ.out _) ⟨HI.out.kept (B := w.heap.size) (row := none) (Nat.le_refl _) (World.grownBy_alloc W _ none) (fun r e => by cases e), by rw [World.size_alloc]; have := HZ.out; omega⟩ ?_
    exact ⟨⟨W.heap.size, HI.out.bel.size, HI.out.b4.lt, Box.new W _ _, rfl⟩⟩
  case body =>
    rintro l pre x a' W hl9 _ ⟨hI, hsz⟩ hA9 hlen
    obtain ⟨b, hb1, hb2, hbx, rfl⟩ := hA9.ex
    have hxz := x.2
    obtain ⟨xi, hxi⟩ : ∃ v : Int, (x.1.1 : Int) = v := ⟨_, rfl⟩
    obtain ⟨xn, hxn⟩ : ∃ v, x.1.2.1 = v := ⟨_, rfl⟩
    obtain ⟨xv, hxv⟩ : ∃ v, x.1.2.2 = v := ⟨_, rfl⟩
    rw [hxn, hxv] at hxz hbx
    rw [hxi, hxn, hxv]
    have HXN := Lib.hid hxn
    have HXV := Lib.hid hxv
    have HI := Lib.hid hI
    have HZ := Lib.hid hsz
    have HBX := Lib.hid hbx
    obtain ⟨t, ht⟩ : ∃ t, lowB xn = t := ⟨_, rfl⟩
    have HT := Lib.hid ht
    have LW := Lib.hid (fun W : World => lower_at xn t ht (by omega) W)
    have TR := Lib.hid (fun W : World => ftrimmed_at xv (by omega) W)
    have c3 := hI.b3.cell 0
    have x0 := hbx.cell 0
    have x1 := hbx.cell 1
    clear hI hsz hA9 hxi hxn hxv ht hbx hlen
    gi_wp2_with fail
    gi_region_with (refine ⟨trivial, ?_⟩; refine (CallsIn.inRound l (callsIn_wide.2 (LW.out _))).mono ?_; rintro e w4 ⟨rfl, hb⟩; have HB4 := Lib.hid hb; clear hb; have y3 := (HI.out.b3.drew.later HB4.out).cell 0)
    all_goals
      have HBW : Hid (Below W.heap.size W w4) := Lib.hid (((Below.refl W.heap.size W).drew).trans (HB4.out.mono (Nat.le_refl _)))
      have HI4 := Lib.hid (HI.out.below HBW.out)
      have HBX4 := Lib.hid (HBX.out.later HBW.out)
      clear HB4 HI c3 x0 x1 y3
      cases hq : (t.toList == k.toList) with
      | true =>
        have HQ : Hid (t = k) := Lib.hid (eq_of_toList hq)
        have x1 := HBX4.out.cell 1
        clear hq
        gi_wp2_with fail
        refine ⟨trivial, ?_⟩
        refine (CallsIn.inRound l (callsIn_wide.2 (TR.out _))).mono ?_
        rintro e w5 ⟨rfl, hb⟩
        have HI5 := Lib.hid (HI4.out.below hb)
        have HB5 := Lib.hid (HBW.out.trans (hb.mono HBW.out.size))
        have c4 := HI5.out.b4.cell 0
        have f4 := HI5.out.b4.free 0
        have l4 := HI5.out.b4.lt
        clear hb x1 HI4 HBW
        gi_wp2
        refine ⟨((keeps_belowV HB5.out).trans (KeepsOthers.setCell _ _ _)).from _, rfl, ⟨⟨pre, x, rfl, HI5.out.no, by rw [HXN.out, HT.out]; exact HQ.out, ?_⟩, HI5.out.bel.setCell (p := ⟨r4, 0, none⟩) (show w.heap.size ≤ r4 by have := HNE.out; omega) _⟩⟩
        rw [HXV.out]
        exact HI5.out.b4.set 0 _
      | false =>
        have HQ : Hid (t ≠ k) := Lib.hid (fun h => by rw [h] at hq; simp at hq)
        clear hq
        gi_wp2
        exact ⟨(keeps_belowV HBW.out).from _, HBW.out.mono HZ.out, ⟨⟨fun z hz => by
          rcases List.mem_append.1 hz with hz | hz
          · exact HI4.out.no z hz
          · rw [List.mem_singleton] at hz
            rw [hz, HXN.out, HT.out]
            exact HQ.out, HI4.out.b3, HI4.out.b4, HI4.out.bel⟩, Nat.le_trans HZ.out HBW.out.size⟩⟩
  case done =>
    rintro D xs W hD hS ⟨hI, hsz⟩ hK
    have HI := Lib.hid hI
    have HK := Lib.hid hK
    have c4 := hI.b4.cell 0
    have f4 := hI.b4.free 0
    have l4 := hI.b4.lt
    clear hI hK
    gi_wp2
    have hK2 : (W.setCell ⟨r4, 0, none⟩ (.string ⟨#[]⟩)).heap[D]? = some (.deferred (some [])) := (KeepsOthers.setCell W ⟨r4, 0, none⟩ (.string ⟨#[]⟩)).same D _ HK.out rfl
    have hg := grownBy_putObj' (W.setCell ⟨r4, 0, none⟩ (.string ⟨#[]⟩)) D (.deferred none)
    have hr : ∀ r, some D = some r → w1.heap.size ≤ r ∧ ∃ o : Obj, (W.setCell ⟨r4, 0, none⟩ (.string ⟨#[]⟩)).heap[r]? = some o ∧ o.isCells = false := fun r e => by
      injection e with e
      subst e
      exact ⟨hD, _, hK2, rfl⟩
    have g4 := box_keptV (B := w1.heap.size) (HI.out.b4.set 0 (.string ⟨#[]⟩)) hg hr
    have hb := (HI.out.bel.setCell (p := ⟨r4, 0, none⟩) (show w.heap.size ≤ r4 by have := HNE.out; omega) (.string ⟨#[]⟩)).grown hg (by rw [World.size_setCell]; exact HI.out.bel.size) (fun k hk => Nat.le_trans H0.out.bel.size (hr k hk).1)
    refine ⟨by simp, .inl ⟨_, _, rfl, run_takeDeferred hK2, ?_⟩⟩
    have s4 := g4.cell 0
    have hv : valB k (bkL hs hs.length) = ByteArray.empty := by
      rw [← hS]
      refine valB_none (fun z hz => ?_)
      obtain ⟨y, hy, rfl⟩ := List.mem_map.1 hz
      exact HI.out.no y hy
    rw [hv]
    exact ⟨.string ⟨#[]⟩, by simp [results, Tryz.results29, go_sem, s4], rfl, hb⟩
  case stop =>
    rintro D c pre W hD hSp ⟨rfl, hX⟩ hK
    have HX := Lib.hid hX
    have HK := Lib.hid hK
    obtain ⟨p, x, hpre, hall, hyes, hb4⟩ := hX.yes
    clear hX hK
    gi_wp2
    have hg := grownBy_putObj' W D (.deferred none)
    have hr : ∀ r, some D = some r → w1.heap.size ≤ r ∧ ∃ o : Obj, W.heap[r]? = some o ∧ o.isCells = false := fun r e => by
      injection e with e
      subst e
      exact ⟨hD, _, HK.out, rfl⟩
    have g4 := box_keptV (B := w1.heap.size) hb4 hg hr
    have hb := HX.out.bel.grown hg HX.out.bel.size (fun k hk => Nat.le_trans H0.out.bel.size (hr k hk).1)
    refine ⟨by simp, .inl ⟨_, _, rfl, run_takeDeferred HK.out, ?_⟩⟩
    have s4 := g4.cell 0
    subst hpre
    obtain ⟨r, hr9⟩ := hSp
    have hv : valB k (bkL hs hs.length) = strL (trL (btL x.1.2.2)) := by
      rw [← hr9, List.map_append, List.append_assoc]
      refine valB_yes (fun z hz => ?_) hyes
      obtain ⟨y, hy, rfl⟩ := List.mem_map.1 hz
      exact hall y hy
    rw [hv]
    exact ⟨.string (strL (trL (btL x.1.2.2))), by simp [results, Tryz.results29, go_sem, s4], rfl, hb⟩
end Go.Proofs.YtodibjpojfipoaaGreatDoor
/- Package field: Number: the number of the last item of a key. -/
namespace Go.Proofs.YtodibjpojfipoaaGreatDoor
open Go Go.RowKit Go.Shelf
set_option linter.unusedVariables false
set_option linter.unusedSimpArgs false
set_option maxRecDepth 10000

theorem backI_at (a : Option Addr) (n c : Nat) (w : World) :
    Calls Tryz.prog 94 #[.slice a n c] w fun e w' => e = .returned (.func (.func 117) #[] #[.pointer (some ⟨w.heap.size, 0, none⟩)]) ∧ w' = w.alloc (.cells #[.slice a n c] 65) := by
  have hmf : ∀ (fn : Fn) (first cap : Array Value) (w : World), (Instr.makeFunc fn first cap).run Tryz.prog w = .ok (.func fn first cap) w := fun _ _ _ _ => rfl
  go_enter Tryz.func94, Tryz.ntmps94
  go_wp2
  go_ret
  exact ⟨rfl, rfl⟩
theorem backI_stops (n : Nat) (hn : 1 ≤ n) (sa : Option Addr) (Bn g off c : Nat) (hs : List IX) (hl : hs.length ≤ 1000000) (w : World) (hA : hs ≠ [] → IxAt w g off hs) (hSa : hs ≠ [] → sa = some ⟨g, off, none⟩) (hBn : w.cell? ⟨Bn, 0, none⟩ = some (.slice sa hs.length c)) (hBl : Bn < w.heap.size) :
    SeqStopsK Fence.wide n Tryz.prog 117 #[.pointer (some ⟨Bn, 0, none⟩)] (fun x : IxX => #[.int .i64 (x.1.1 : Int), .agg #[.string x.1.2.k.key, .int .i64 x.1.2.k.v.k, .int .i64 x.1.2.k.v.n, .string x.1.2.k.v.s, .slice x.1.2.a x.1.2.n x.1.2.cap]]) (Below w.heap.size) (fun ys => ys.map Subtype.val = bkL hs hs.length) (fun pre => pre.map Subtype.val <+: bkL hs hs.length) hs.length w := fun l J Jx W hW hJ _ hY h0 =>
  backIx_in n hn sa l Bn g off c hs hl J Jx w W hW hA hSa hY hBn hBl h0
def nmI (p : PB) : Int × Bool := (if p.v.k = 1 then p.v.n else 0, decide (p.v.k = 1))
def nbI (k : ByteArray) : List (Nat × IX) → Int × Bool
  | [] => (0, false)
  | x :: r => if x.2.k.key = k then nmI x.2.k else nbI k r
theorem nbI_none {k : ByteArray} : ∀ {L : List (Nat × IX)}, (∀ z ∈ L, z.2.k.key ≠ k) → nbI k L = (0, false)
  | [], _ => rfl
  | x :: r, h => by
    unfold nbI
    rw [if_neg (h x (by simp))]
    exact nbI_none (fun z hz => h z (by simp [hz]))
theorem nbI_yes {k : ByteArray} : ∀ {L : List (Nat × IX)} {x : Nat × IX} {r : List (Nat × IX)}, (∀ z ∈ L, z.2.k.key ≠ k) → x.2.k.key = k → nbI k (L ++ x :: r) = nmI x.2.k
  | [], x, r, _, hx => by
    rw [List.nil_append]
    unfold nbI
    rw [if_pos hx]
  | y :: t, x, r, h, hx => by
    rw [List.cons_append]
    unfold nbI
    rw [if_neg (h y (by simp))]
    exact nbI_yes (fun z hz => h z (by simp [hz])) hx
structure NbI (w : World) (k : ByteArray) (r3 r4 r5 : Nat) (pre : List IxX) (W : World) : Prop where
  no : ∀ z ∈ pre, z.1.2.k.key ≠ k
  b3 : Box W r3 #[.string k] 9
  b4 : Box W r4 #[.int .i64 0] 3
  b5 : Box W r5 #[.bool false] 4
  bel : Below w.heap.size w W
structure NbX (w : World) (k : ByteArray) (r4 r5 : Nat) (pre : List IxX) (W : World) : Prop where
  yes : ∃ p x, pre = p ++ [x] ∧ (∀ z ∈ p, z.1.2.k.key ≠ k) ∧ x.1.2.k.key = k ∧ Box W r4 #[.int .i64 (nmI x.1.2.k).1] 3 ∧ Box W r5 #[.bool (nmI x.1.2.k).2] 4
  bel : Below w.heap.size w W
structure NbA (w : World) (v : Value) (k : ByteArray) (n c r3 r4 r5 sb : Nat) (x : IxX) (a : Act) (W : World) : Prop where
  ex : ∃ b, w.heap.size ≤ b ∧ r5 < b ∧ Box W b #[.string x.1.2.k.key, .int .i64 x.1.2.k.v.k, .int .i64 x.1.2.k.v.n, .string x.1.2.k.v.s, .slice x.1.2.a x.1.2.n x.1.2.cap] 73 ∧
    a = { tmps := #[v, .string k, undef, .pointer (some ⟨r3, 0, none⟩), .pointer (some ⟨r4, 0, none⟩), .pointer (some ⟨r5, 0, none⟩), undef, .pointer (some ⟨b, 0, none⟩), v, .func (.func 117) #[] #[.pointer (some ⟨sb, 0, none⟩)], .int .i64 (x.1.1 : Int), .agg #[.string x.1.2.k.key, .int .i64 x.1.2.k.v.k, .int .i64 x.1.2.k.v.n, .string x.1.2.k.v.s, .slice x.1.2.a x.1.2.n x.1.2.cap], undef, undef, undef, undef, undef, undef, undef, undef, undef], defers := [] }
theorem NbI.kept {w : World} {k : ByteArray} {r3 r4 r5 B : Nat} {pre : List IxX} {W W' : World} {row : Option Nat} (hB : w.heap.size ≤ B) (h : NbI w k r3 r4 r5 pre W) (hg : W.grownBy W' row) (hr : ∀ r, row = some r → B ≤ r ∧ ∃ o : Obj, W.heap[r]? = some o ∧ o.isCells = false) : NbI w k r3 r4 r5 pre W' :=
  ⟨h.no, box_keptV h.b3 hg hr, box_keptV h.b4 hg hr, box_keptV h.b5 hg hr, h.bel.grown hg h.bel.size (fun k hk => Nat.le_trans hB (hr k hk).1)⟩
theorem NbI.below {w : World} {k : ByteArray} {r3 r4 r5 : Nat} {pre : List IxX} {W W' : World} (h : NbI w k r3 r4 r5 pre W) (hb : Below W.heap.size W W') : NbI w k r3 r4 r5 pre W' := ⟨h.no, h.b3.later hb, h.b4.later hb, h.b5.later hb, h.bel.trans (hb.mono h.bel.size)⟩
theorem NbX.kept {w : World} {k : ByteArray} {r4 r5 B : Nat} {pre : List IxX} {W W' : World} {row : Option Nat} (hB : w.heap.size ≤ B) (h : NbX w k r4 r5 pre W) (hg : W.grownBy W' row) (hr : ∀ r, row = some r → B ≤ r ∧ ∃ o : Obj, W.heap[r]? = some o ∧ o.isCells = false) : NbX w k r4 r5 pre W' :=
  ⟨by obtain ⟨p, x, e, h1, h2, h3, h4⟩ := h.yes; exact ⟨p, x, e, h1, h2, box_keptV h3 hg hr, box_keptV h4 hg hr⟩, h.bel.grown hg h.bel.size (fun k hk => Nat.le_trans hB (hr k hk).1)⟩
theorem NbA.kept {w : World} {v : Value} {k : ByteArray} {n c r3 r4 r5 sb B : Nat} {x : IxX} {a : Act} {W W' : World} {row : Option Nat} (h : NbA w v k n c r3 r4 r5 sb x a W) (hg : W.grownBy W' row) (hr : ∀ r, row = some r → B ≤ r ∧ ∃ o : Obj, W.heap[r]? = some o ∧ o.isCells = false) : NbA w v k n c r3 r4 r5 sb x a W' := by
  obtain ⟨b, h1, h2, h3, h4⟩ := h.ex
  exact ⟨b, h1, h2, box_keptV h3 hg hr, h4⟩
attribute [local go_sem] Oper.semAt_some
set_option maxRecDepth 100000 in
set_option maxHeartbeats 4000000 in
theorem fnumber1_at (sa : Option Addr) (g off c : Nat) (hs : List IX) (hl : hs.length ≤ 1000000) (k : ByteArray) (w : World) (hA : hs ≠ [] → IxAt w g off hs) (hSa : hs ≠ [] → sa = some ⟨g, off, none⟩) :
    Calls Tryz.prog 57 #[.slice sa hs.length c, .string k] w fun e w' => e = .returned (.tuple #[.int .i64 (nbI k (bkL hs hs.length)).1, .bool (nbI k (bkL hs hs.length)).2]) ∧ Below w.heap.size w w' := by
  refine (callsIn_wide (n := 9)).1 ?_
  refine callsIn_of_wp_marks Tryz.func57 rfl trivial ?_ rfl
  simp only [Tryz.ntmps57, List.size_toArray, List.length_cons, List.length_nil, Nat.reduceAdd, Nat.reduceSub, Array.replicate_succ, Array.replicate_zero, List.push_toArray, List.append_toArray, List.nil_append, List.cons_append]
  gi_wp2_with fail
  refine ⟨trivial, ?_⟩
  refine (callsIn_wide.2 (backI_at _ _ _ _)).mono ?_
  rintro e w' ⟨rfl, rfl⟩
  gi_wp2
  refine codeIn_forgetV (fun W => Hid (NbI w k w.heap.size (w.heap.size + 1) (w.heap.size + 1 + 1) [] W) ∧ Hid (W.cell? ⟨w.heap.size + 1 + 1 + 1, 0, none⟩ = some (.slice sa hs.length c) ∧ w.heap.size + 1 + 1 + 1 < W.heap.size)) ⟨Lib.hid ⟨fun z hz => (by cases hz), ?_, ?_, ?_, ?_⟩, Lib.hid ⟨?_, ?_⟩⟩ ?_
  · exact (((Box.new w _ _).alloc _).alloc _).alloc _
  · have h := Box.new (w.alloc (.cells #[.string k] 9)) #[.int .i64 0] 3
    rw [World.size_alloc] at h
    exact (h.alloc _).alloc _
  · have h := Box.new ((w.alloc (.cells #[.string k] 9)).alloc (.cells #[.int .i64 0] 3)) #[.bool false] 4
    rw [World.size_alloc, World.size_alloc] at h
    exact h.alloc _
  · exact ((((Below.refl _ w).alloc (Nat.le_refl _) _).alloc (by simp) _).alloc (by simp; omega) _).alloc (by simp; omega) _
  · have h := Box.new (((w.alloc (.cells #[.string k] 9)).alloc (.cells #[.int .i64 0] 3)).alloc (.cells #[.bool false] 4)) #[.slice sa hs.length c] 65
    rw [World.size_alloc, World.size_alloc, World.size_alloc] at h
    rw [h.cell 0]
    rfl
  · simp
  obtain ⟨r3, hr3⟩ : ∃ b, w.heap.size = b := ⟨_, rfl⟩
  obtain ⟨r4, hr4⟩ : ∃ b, r3 + 1 = b := ⟨_, rfl⟩
  obtain ⟨r5, hr5⟩ : ∃ b, r4 + 1 = b := ⟨_, rfl⟩
  obtain ⟨sb, hsb⟩ : ∃ b, r5 + 1 = b := ⟨_, rfl⟩
  have HNE : Hid (w.heap.size = r3 ∧ r3 + 1 = r4 ∧ r4 + 1 = r5 ∧ r5 + 1 = sb) := Lib.hid ⟨hr3, hr4, hr5, hsb⟩
  rw [hr3, hr4, hr5, hsb]
  clear hr3 hr4 hr5 hsb
  rintro w1 ⟨H0, HS⟩
  have hA1 : hs ≠ [] → IxAt w1 g off hs := fun h => ⟨Nat.lt_of_lt_of_le (hA h).lt H0.out.bel.size, fun i x hx j v hv => (H0.out.bel.cell (hA h).lt).trans ((hA h).at_ i x hx j v hv)⟩
  refine wpIn_rangeFunc_ownH rfl (by omega) (gf := 117) (lb := #[.pointer (some ⟨sb, 0, none⟩)]) rfl trivial (enters_of Tryz.func117 (by kernel_rfl) rfl)
    (backI_stops (9 - 1) (by omega) sa sb g off c hs hl w1 hA1 hSa HS.out.1 HS.out.2) belowK_t (belowK_b (Nat.le_refl _)) (Below.refl _ _) (fun _ => rfl)
    (fun pre W => NbI w k r3 r4 r5 pre W ∧ w1.heap.size ≤ W.heap.size) (fun c pre W => c = .ret ∧ NbX w k r4 r5 pre W)
    (fun pre A B row hs hg hr => ⟨hs.1.kept H0.out.bel.size hg hr, Nat.le_trans hs.2 hg.size⟩)
    (fun cc pre A B row hs hg hr => ⟨hs.1, hs.2.kept H0.out.bel.size hg hr⟩) ⟨H0.out, Nat.le_refl _⟩
    (NbA w (.slice sa hs.length c) k hs.length c r3 r4 r5 sb) (fun x a' u A B row hs hg hr => hs.kept hg hr) ?assign ?body ?done ?stop
  case assign =>
    rintro l pre x W K ⟨hI, hsz⟩ hK
    have HI := Lib.hid hI
    have HK := Lib.hid hK
    have HZ := Lib.hid hsz
    clear hI hK hsz
    gi_wp2
    refine HK.out _ _ ((keeps_belowV ((Below.refl _ _).alloc (Nat.le_refl _) _)).from _) ((Below.refl _ W).alloc HZ.out _) ⟨HI.out.kept (B := w.heap.size) (row := none) (Nat.le_refl _) (World.grownBy_alloc W _ none) (fun r e => by cases e), by rw [World.size_alloc]; have := HZ.out; omega⟩ ?_
    exact ⟨⟨W.heap.size, HI.out.bel.size, HI.out.b5.lt, Box.new W _ _, rfl⟩⟩
  case body =>
    rintro l pre x a' W hl9 _ ⟨hI, hsz⟩ hA9 hlen
    obtain ⟨b, hb1, hb2, hbx, rfl⟩ := hA9.ex
    have hxz := x.2
    obtain ⟨xi, hxi⟩ : ∃ v : Int, (x.1.1 : Int) = v := ⟨_, rfl⟩
    obtain ⟨p, hp⟩ : ∃ p, x.1.2.k = p := ⟨_, rfl⟩
    obtain ⟨xa, hxa⟩ : ∃ v, x.1.2.a = v := ⟨_, rfl⟩
    obtain ⟨xn, hxn⟩ : ∃ v, x.1.2.n = v := ⟨_, rfl⟩
    obtain ⟨xc, hxc⟩ : ∃ v, x.1.2.cap = v := ⟨_, rfl⟩
    rw [hp, hxa, hxn, hxc] at hbx
    rw [hxi, hp, hxa, hxn, hxc]
    obtain ⟨pk, pk1, pn, ps⟩ := p
    have HP := Lib.hid hp
    have HI := Lib.hid hI
    have HZ := Lib.hid hsz
    have c3 := hI.b3.cell 0
    have x0 := hbx.cell 0
    have x1 := hbx.cell 1
    have x2 := hbx.cell 2
    have x3 := hbx.cell 3
    have c4 := hI.b4.cell 0
    have f4 := hI.b4.free 0
    have l4 := hI.b4.lt
    have c5 := hI.b5.cell 0
    have f5 := hI.b5.free 0
    have l5 := hI.b5.lt
    clear hI hsz hA9 hxi hp hxa hxn hxc hbx hlen
    have hn45 : r4 ≠ r5 := by have := HNE.out; omega
    by_cases hk : pk = k
    · have HQ := Lib.hid hk
      have hq : (pk.toList == k.toList) = true := by rw [hk]; simp
      have ND := Lib.hid (fun W => fnum_at pk1 pn ps W)
      obtain ⟨N, hN⟩ : ∃ N, (if pk1 = 1 then pn else 0) = N := ⟨_, rfl⟩
      obtain ⟨B, hB⟩ : ∃ B, decide (pk1 = 1) = B := ⟨_, rfl⟩
      have HNM : Hid (nmI ⟨pk, ⟨pk1, pn, ps⟩⟩ = (N, B)) := Lib.hid (by rw [← hN, ← hB]; rfl)
      rw [hN, hB] at ND
      clear hN hB
      clear hk c4 f4 l4 c5 f5 l5
      gi_wp2_with fail
      refine ⟨trivial, ?_⟩
      refine (CallsIn.inRound l (callsIn_wide.2 (ND.out _))).mono ?_
      rintro e w5 ⟨rfl, hb⟩
      have HI5 := Lib.hid (HI.out.below hb)
      have HB5 := Lib.hid hb
      have c4 := HI5.out.b4.cell 0
      have f4 := HI5.out.b4.free 0
      have l4 := HI5.out.b4.lt
      have c5 := HI5.out.b5.cell 0
      have f5 := HI5.out.b5.free 0
      have l5 := HI5.out.b5.lt
      clear hb x0 x1 x2 x3 c3
      gi_wp2
      refine ⟨(((keeps_belowV HB5.out).trans (KeepsOthers.setCell _ _ _)).trans (KeepsOthers.setCell _ _ _)).from _, rfl, ⟨⟨pre, x, rfl, HI5.out.no, by rw [HP.out]; exact HQ.out, ?_, ?_⟩, (HI5.out.bel.setCell (p := ⟨r4, 0, none⟩) (show w.heap.size ≤ r4 by have := HNE.out; omega) _).setCell (p := ⟨r5, 0, none⟩) (show w.heap.size ≤ r5 by have := HNE.out; omega) _⟩⟩
      · rw [HP.out, HNM.out]
        exact Box.other (a := ⟨r5, 0, none⟩) (HI5.out.b4.set 0 _) hn45 _
      · rw [HP.out, HNM.out]
        exact Box.set (HI5.out.b5.other (a := ⟨r4, 0, none⟩) (Ne.symm hn45) _) 0 _
    · have HQ := Lib.hid hk
      have hq : (pk.toList == k.toList) = false := neq_toListV hk
      clear hk
      gi_wp2
      exact ⟨(KeepsOthers.refl _).from _, Below.refl _ _, ⟨⟨fun z hz => by
        rcases List.mem_append.1 hz with hz | hz
        · exact HI.out.no z hz
        · rw [List.mem_singleton] at hz
          rw [hz, HP.out]
          exact HQ.out, HI.out.b3, HI.out.b4, HI.out.b5, HI.out.bel⟩, HZ.out⟩⟩
  case done =>
    rintro D xs W hD hS ⟨hI, hsz⟩ hK
    have HI := Lib.hid hI
    have HK := Lib.hid hK
    have c4 := hI.b4.cell 0
    have f4 := hI.b4.free 0
    have l4 := hI.b4.lt
    have c5 := hI.b5.cell 0
    have f5 := hI.b5.free 0
    have l5 := hI.b5.lt
    have hn45 : r4 ≠ r5 := by have := HNE.out; omega
    clear hI hK
    gi_wp2
    obtain ⟨W2, hW2⟩ : ∃ W2, (W.setCell ⟨r4, 0, none⟩ (.int .i64 0)).setCell ⟨r5, 0, none⟩ (.bool false) = W2 := ⟨_, rfl⟩
    have hK2 : W2.heap[D]? = some (.deferred (some [])) := by rw [← hW2]; exact ((KeepsOthers.setCell W ⟨r4, 0, none⟩ (.int .i64 0)).trans (KeepsOthers.setCell _ ⟨r5, 0, none⟩ (.bool false))).same D _ HK.out rfl
    have q4 : Box W2 r4 #[.int .i64 0] 3 := by rw [← hW2]; exact Box.other (a := ⟨r5, 0, none⟩) (HI.out.b4.set 0 (.int .i64 0)) hn45 _
    have q5 : Box W2 r5 #[.bool false] 4 := by rw [← hW2]; exact Box.set (HI.out.b5.other (a := ⟨r4, 0, none⟩) (Ne.symm hn45) _) 0 (.bool false)
    have qb : Below w.heap.size w W2 := by rw [← hW2]; exact (HI.out.bel.setCell (p := ⟨r4, 0, none⟩) (show w.heap.size ≤ r4 by have := HNE.out; omega) _).setCell (p := ⟨r5, 0, none⟩) (show w.heap.size ≤ r5 by have := HNE.out; omega) _
    rw [hW2]
    have hg := grownBy_putObj' W2 D (.deferred none)
    have hr : ∀ r, some D = some r → w1.heap.size ≤ r ∧ ∃ o : Obj, W2.heap[r]? = some o ∧ o.isCells = false := fun r e => by
      injection e with e
      subst e
      exact ⟨hD, _, hK2, rfl⟩
    have g4 := box_keptV (B := w1.heap.size) q4 hg hr
    have g5 := box_keptV (B := w1.heap.size) q5 hg hr
    have hb := qb.grown hg qb.size (fun k hk => Nat.le_trans H0.out.bel.size (hr k hk).1)
    refine ⟨by simp, .inl ⟨_, _, rfl, run_takeDeferred hK2, ?_⟩⟩
    have s4 := g4.cell 0
    have s5 := g5.cell 0
    have hv : nbI k (bkL hs hs.length) = (0, false) := by
      rw [← hS]
      refine nbI_none (fun z hz => ?_)
      obtain ⟨y, hy, rfl⟩ := List.mem_map.1 hz
      exact HI.out.no y hy
    rw [hv]
    exact ⟨.tuple #[.int .i64 0, .bool false], by simp [results, Tryz.results57, go_sem, s4, s5], rfl, hb⟩
  case stop =>
    rintro D c pre W hD hSp ⟨rfl, hX⟩ hK
    have HX := Lib.hid hX
    have HK := Lib.hid hK
    obtain ⟨p, x, hpre, hall, hyes, hb4, hb5⟩ := hX.yes
    clear hX hK
    gi_wp2
    have hg := grownBy_putObj' W D (.deferred none)
    have hr : ∀ r, some D = some r → w1.heap.size ≤ r ∧ ∃ o : Obj, W.heap[r]? = some o ∧ o.isCells = false := fun r e => by
      injection e with e
      subst e
      exact ⟨hD, _, HK.out, rfl⟩
    have g4 := box_keptV (B := w1.heap.size) hb4 hg hr
    have g5 := box_keptV (B := w1.heap.size) hb5 hg hr
    have hb := HX.out.bel.grown hg HX.out.bel.size (fun k hk => Nat.le_trans H0.out.bel.size (hr k hk).1)
    refine ⟨by simp, .inl ⟨_, _, rfl, run_takeDeferred HK.out, ?_⟩⟩
    have s4 := g4.cell 0
    have s5 := g5.cell 0
    subst hpre
    obtain ⟨r, hr9⟩ := hSp
    have hv : nbI k (bkL hs hs.length) = nmI x.1.2.k := by
      rw [← hr9, List.map_append, List.append_assoc]
      refine nbI_yes (fun z hz => ?_) hyes
      obtain ⟨y, hy, rfl⟩ := List.mem_map.1 hz
      exact hall y hy
    rw [hv]
    exact ⟨.tuple #[.int .i64 (nmI x.1.2.k).1, .bool (nmI x.1.2.k).2], by simp [results, Tryz.results57, go_sem, s4, s5], rfl, hb⟩
end Go.Proofs.YtodibjpojfipoaaGreatDoor
namespace Go.Proofs.YtodibjpojfipoaaGreatDoor
open Go Go.RowKit Go.Shelf
set_option linter.unusedVariables false
set_option linter.unusedSimpArgs false
set_option maxRecDepth 10000

theorem backP_at (a : Option Addr) (n c : Nat) (w : World) :
    Calls Tryz.prog 96 #[.slice a n c] w fun e w' => e = .returned (.func (.func 118) #[] #[.pointer (some ⟨w.heap.size, 0, none⟩)]) ∧ w' = w.alloc (.cells #[.slice a n c] 71) := by
  have hmf : ∀ (fn : Fn) (first cap : Array Value) (w : World), (Instr.makeFunc fn first cap).run Tryz.prog w = .ok (.func fn first cap) w := fun _ _ _ _ => rfl
  go_enter Tryz.func96, Tryz.ntmps96
  go_wp2
  go_ret
  exact ⟨rfl, rfl⟩
theorem backP_stops (n : Nat) (hn : 1 ≤ n) (sa : Option Addr) (Bn g off c : Nat) (hs : List PB) (hl : hs.length ≤ 1000000) (w : World) (hA : hs ≠ [] → PbAt w g off hs) (hSa : hs ≠ [] → sa = some ⟨g, off, none⟩) (hBn : w.cell? ⟨Bn, 0, none⟩ = some (.slice sa hs.length c)) (hBl : Bn < w.heap.size) :
    SeqStopsK Fence.wide n Tryz.prog 118 #[.pointer (some ⟨Bn, 0, none⟩)] (fun x : PbX => #[.int .i64 (x.1.1 : Int), .agg #[.string x.1.2.key, .int .i64 x.1.2.v.k, .int .i64 x.1.2.v.n, .string x.1.2.v.s]]) (Below w.heap.size) (fun ys => ys.map Subtype.val = bkL hs hs.length) (fun pre => pre.map Subtype.val <+: bkL hs hs.length) hs.length w := fun l J Jx W hW hJ _ hY h0 =>
  backPb_in n hn sa l Bn g off c hs hl J Jx w W hW hA hSa hY hBn hBl h0
def npI (k : ByteArray) : List (Nat × PB) → Int × Bool
  | [] => (0, false)
  | x :: r => if x.2.key = k then nmI x.2 else npI k r
theorem npI_none {k : ByteArray} : ∀ {L : List (Nat × PB)}, (∀ z ∈ L, z.2.key ≠ k) → npI k L = (0, false)
  | [], _ => rfl
  | x :: r, h => by
    unfold npI
    rw [if_neg (h x (by simp))]
    exact npI_none (fun z hz => h z (by simp [hz]))
theorem npI_yes {k : ByteArray} : ∀ {L : List (Nat × PB)} {x : Nat × PB} {r : List (Nat × PB)}, (∀ z ∈ L, z.2.key ≠ k) → x.2.key = k → npI k (L ++ x :: r) = nmI x.2
  | [], x, r, _, hx => by
    rw [List.nil_append]
    unfold npI
    rw [if_pos hx]
  | y :: t, x, r, h, hx => by
    rw [List.cons_append]
    unfold npI
    rw [if_neg (h y (by simp))]
    exact npI_yes (fun z hz => h z (by simp [hz])) hx
structure NpI (w : World) (k : ByteArray) (r3 r4 r5 : Nat) (pre : List PbX) (W : World) : Prop where
  no : ∀ z ∈ pre, z.1.2.key ≠ k
  b3 : Box W r3 #[.string k] 9
  b4 : Box W r4 #[.int .i64 0] 3
  b5 : Box W r5 #[.bool false] 4
  bel : Below w.heap.size w W
structure NpX (w : World) (k : ByteArray) (r4 r5 : Nat) (pre : List PbX) (W : World) : Prop where
  yes : ∃ p x, pre = p ++ [x] ∧ (∀ z ∈ p, z.1.2.key ≠ k) ∧ x.1.2.key = k ∧ Box W r4 #[.int .i64 (nmI x.1.2).1] 3 ∧ Box W r5 #[.bool (nmI x.1.2).2] 4
  bel : Below w.heap.size w W
structure NpA (w : World) (u v : Value) (k : ByteArray) (n c r2 r3 r4 r5 sb : Nat) (x : PbX) (a : Act) (W : World) : Prop where
  ex : ∃ b, w.heap.size ≤ b ∧ r5 < b ∧ Box W b #[.string x.1.2.key, .int .i64 x.1.2.v.k, .int .i64 x.1.2.v.n, .string x.1.2.v.s] 110 ∧
    a = { tmps := #[u, .string k, .pointer (some ⟨r2, 0, none⟩), .pointer (some ⟨r3, 0, none⟩), .pointer (some ⟨r4, 0, none⟩), .pointer (some ⟨r5, 0, none⟩), undef, .pointer (some ⟨b, 0, none⟩), .pointer (some ⟨r2, 4, none⟩), v, .func (.func 118) #[] #[.pointer (some ⟨sb, 0, none⟩)], .int .i64 (x.1.1 : Int), .agg #[.string x.1.2.key, .int .i64 x.1.2.v.k, .int .i64 x.1.2.v.n, .string x.1.2.v.s], undef, undef, undef, undef, undef, undef, undef, undef, undef], defers := [] }
theorem NpI.kept {w : World} {k : ByteArray} {r3 r4 r5 B : Nat} {pre : List PbX} {W W' : World} {row : Option Nat} (hB : w.heap.size ≤ B) (h : NpI w k r3 r4 r5 pre W) (hg : W.grownBy W' row) (hr : ∀ r, row = some r → B ≤ r ∧ ∃ o : Obj, W.heap[r]? = some o ∧ o.isCells = false) : NpI w k r3 r4 r5 pre W' :=
  ⟨h.no, box_keptV h.b3 hg hr, box_keptV h.b4 hg hr, box_keptV h.b5 hg hr, h.bel.grown hg h.bel.size (fun k hk => Nat.le_trans hB (hr k hk).1)⟩
theorem NpI.below {w : World} {k : ByteArray} {r3 r4 r5 : Nat} {pre : List PbX} {W W' : World} (h : NpI w k r3 r4 r5 pre W) (hb : Below W.heap.size W W') : NpI w k r3 r4 r5 pre W' := ⟨h.no, h.b3.later hb, h.b4.later hb, h.b5.later hb, h.bel.trans (hb.mono h.bel.size)⟩
theorem NpX.kept {w : World} {k : ByteArray} {r4 r5 B : Nat} {pre : List PbX} {W W' : World} {row : Option Nat} (hB : w.heap.size ≤ B) (h : NpX w k r4 r5 pre W) (hg : W.grownBy W' row) (hr : ∀ r, row = some r → B ≤ r ∧ ∃ o : Obj, W.heap[r]? = some o ∧ o.isCells = false) : NpX w k r4 r5 pre W' :=
  ⟨by obtain ⟨p, x, e, h1, h2, h3, h4⟩ := h.yes; exact ⟨p, x, e, h1, h2, box_keptV h3 hg hr, box_keptV h4 hg hr⟩, h.bel.grown hg h.bel.size (fun k hk => Nat.le_trans hB (hr k hk).1)⟩
theorem NpA.kept {w : World} {u v : Value} {k : ByteArray} {n c r2 r3 r4 r5 sb B : Nat} {x : PbX} {a : Act} {W W' : World} {row : Option Nat} (h : NpA w u v k n c r2 r3 r4 r5 sb x a W) (hg : W.grownBy W' row) (hr : ∀ r, row = some r → B ≤ r ∧ ∃ o : Obj, W.heap[r]? = some o ∧ o.isCells = false) : NpA w u v k n c r2 r3 r4 r5 sb x a W' := by
  obtain ⟨b, h1, h2, h3, h4⟩ := h.ex
  exact ⟨b, h1, h2, box_keptV h3 hg hr, h4⟩
attribute [local go_sem] Oper.semAt_some
set_option maxRecDepth 100000 in
set_option maxHeartbeats 4000000 in
theorem fparam_at (ik i3 : ByteArray) (i1 i2 : Int) (sa : Option Addr) (g off c : Nat) (hs : List PB) (hl : hs.length ≤ 1000000) (k : ByteArray) (w : World) (hA : hs ≠ [] → PbAt w g off hs) (hSa : hs ≠ [] → sa = some ⟨g, off, none⟩) :
    Calls Tryz.prog 58 #[.agg #[.string ik, .int .i64 i1, .int .i64 i2, .string i3, .slice sa hs.length c], .string k] w fun e w' => e = .returned (.tuple #[.int .i64 (npI k (bkL hs hs.length)).1, .bool (npI k (bkL hs hs.length)).2]) ∧ Below w.heap.size w w' := by
  refine (callsIn_wide (n := 9)).1 ?_
  refine callsIn_of_wp_marks Tryz.func58 rfl trivial ?_ rfl
  simp only [Tryz.ntmps58, List.size_toArray, List.length_cons, List.length_nil, Nat.reduceAdd, Nat.reduceSub, Array.replicate_succ, Array.replicate_zero, List.push_toArray, List.append_toArray, List.nil_append, List.cons_append]
  gi_wp2_with fail
  refine ⟨trivial, ?_⟩
  refine (callsIn_wide.2 (backP_at _ _ _ _)).mono ?_
  rintro e w' ⟨rfl, rfl⟩
  gi_wp2
  obtain ⟨w00, hw0⟩ : ∃ w0, w.alloc (.cells #[.string ik, .int .i64 i1, .int .i64 i2, .string i3, .slice sa hs.length c] 73) = w0 := ⟨_, rfl⟩
  have hz0 : w00.heap.size = w.heap.size + 1 := by rw [← hw0]; exact World.size_alloc _ _
  have B0 : Hid (Below w.heap.size w w00) := Lib.hid (by rw [← hw0]; exact (Below.refl _ w).alloc (Nat.le_refl _) _)
  rw [hw0]
  refine codeIn_forgetV (fun W => Hid (NpI w k (w.heap.size + 1) (w.heap.size + 1 + 1) (w.heap.size + 1 + 1 + 1) [] W) ∧ Hid (W.cell? ⟨w.heap.size + 1 + 1 + 1 + 1, 0, none⟩ = some (.slice sa hs.length c) ∧ w.heap.size + 1 + 1 + 1 + 1 < W.heap.size)) ⟨Lib.hid ⟨fun z hz => (by cases hz), ?_, ?_, ?_, ?_⟩, Lib.hid ⟨?_, ?_⟩⟩ ?_
  · rw [← hz0]
    exact (((Box.new w00 _ _).alloc _).alloc _).alloc _
  · have h := Box.new (w00.alloc (.cells #[.string k] 9)) #[.int .i64 0] 3
    rw [World.size_alloc, hz0] at h
    exact (h.alloc _).alloc _
  · have h := Box.new ((w00.alloc (.cells #[.string k] 9)).alloc (.cells #[.int .i64 0] 3)) #[.bool false] 4
    rw [World.size_alloc, World.size_alloc, hz0] at h
    exact h.alloc _
  · exact (((B0.out.alloc (by omega) _).alloc (by simp; omega) _).alloc (by simp; omega) _).alloc (by simp; omega) _
  · have h := Box.new (((w00.alloc (.cells #[.string k] 9)).alloc (.cells #[.int .i64 0] 3)).alloc (.cells #[.bool false] 4)) #[.slice sa hs.length c] 71
    rw [World.size_alloc, World.size_alloc, World.size_alloc, hz0] at h
    rw [h.cell 0]
    rfl
  · simp [hz0]
  clear hw0 hz0 B0
  obtain ⟨r2, hr2⟩ : ∃ b, w.heap.size = b := ⟨_, rfl⟩
  obtain ⟨r3, hr3⟩ : ∃ b, r2 + 1 = b := ⟨_, rfl⟩
  obtain ⟨r4, hr4⟩ : ∃ b, r3 + 1 = b := ⟨_, rfl⟩
  obtain ⟨r5, hr5⟩ : ∃ b, r4 + 1 = b := ⟨_, rfl⟩
  obtain ⟨sb, hsb⟩ : ∃ b, r5 + 1 = b := ⟨_, rfl⟩
  have HNE : Hid (w.heap.size = r2 ∧ r2 + 1 = r3 ∧ r3 + 1 = r4 ∧ r4 + 1 = r5 ∧ r5 + 1 = sb) := Lib.hid ⟨hr2, hr3, hr4, hr5, hsb⟩
  rw [hr2, hr3, hr4, hr5, hsb]
  clear hr2 hr3 hr4 hr5 hsb
  rintro w1 ⟨H0, HS⟩
  have hA1 : hs ≠ [] → PbAt w1 g off hs := fun h => ⟨Nat.lt_of_lt_of_le (hA h).lt H0.out.bel.size, fun i x hx j v hv => (H0.out.bel.cell (hA h).lt).trans ((hA h).at_ i x hx j v hv)⟩
  refine wpIn_rangeFunc_ownH rfl (by omega) (gf := 118) (lb := #[.pointer (some ⟨sb, 0, none⟩)]) rfl trivial (enters_of Tryz.func118 (by kernel_rfl) rfl)
    (backP_stops (9 - 1) (by omega) sa sb g off c hs hl w1 hA1 hSa HS.out.1 HS.out.2) belowK_t (belowK_b (Nat.le_refl _)) (Below.refl _ _) (fun _ => rfl)
    (fun pre W => NpI w k r3 r4 r5 pre W ∧ w1.heap.size ≤ W.heap.size) (fun c pre W => c = .ret ∧ NpX w k r4 r5 pre W)
    (fun pre A B row hs hg hr => ⟨hs.1.kept H0.out.bel.size hg hr, Nat.le_trans hs.2 hg.size⟩)
    (fun cc pre A B row hs hg hr => ⟨hs.1, hs.2.kept H0.out.bel.size hg hr⟩) ⟨H0.out, Nat.le_refl _⟩
    (NpA w (.agg #[.string ik, .int .i64 i1, .int .i64 i2, .string i3, .slice sa hs.length c]) (.slice sa hs.length c) k hs.length c r2 r3 r4 r5 sb) (fun x a' u A B row hs hg hr => hs.kept hg hr) ?assign ?body ?done ?stop
  case assign =>
    rintro l pre x W K ⟨hI, hsz⟩ hK
    have HI := Lib.hid hI
    have HK := Lib.hid hK
    have HZ := Lib.hid hsz
    clear hI hK hsz
    gi_wp2
    refine HK.out _ _ ((keeps_belowV ((Below.refl _ _).alloc (Nat.le_refl _) _)).from _) ((Below.refl _ W).alloc HZ.out _) ⟨HI.out.kept (B := w.heap.size) (row := none) (Nat.le_refl _) (World.grownBy_alloc W _ none) (fun r e => by cases e), by rw [World.size_alloc]; have := HZ.out; omega⟩ ?_
    exact ⟨⟨W.heap.size, HI.out.bel.size, HI.out.b5.lt, Box.new W _ _, rfl⟩⟩
  case body =>
    rintro l pre x a' W hl9 _ ⟨hI, hsz⟩ hA9 hlen
    obtain ⟨b, hb1, hb2, hbx, rfl⟩ := hA9.ex
    have hxz := x.2
    obtain ⟨xi, hxi⟩ : ∃ v : Int, (x.1.1 : Int) = v := ⟨_, rfl⟩
    obtain ⟨p, hp⟩ : ∃ p, x.1.2 = p := ⟨_, rfl⟩
    rw [hp] at hbx
    rw [hxi, hp]
    obtain ⟨pk, pk1, pn, ps⟩ := p
    have HP := Lib.hid hp
    have HI := Lib.hid hI
    have HZ := Lib.hid hsz
    have c3 := hI.b3.cell 0
    have x0 := hbx.cell 0
    have x1 := hbx.cell 1
    have x2 := hbx.cell 2
    have x3 := hbx.cell 3
    have c4 := hI.b4.cell 0
    have f4 := hI.b4.free 0
    have l4 := hI.b4.lt
    have c5 := hI.b5.cell 0
    have f5 := hI.b5.free 0
    have l5 := hI.b5.lt
    clear hI hsz hA9 hxi hp hbx hlen
    have hn45 : r4 ≠ r5 := by have := HNE.out; omega
    by_cases hk : pk = k
    · have HQ := Lib.hid hk
      have hq : (pk.toList == k.toList) = true := by rw [hk]; simp
      have ND := Lib.hid (fun W => fnum_at pk1 pn ps W)
      obtain ⟨N, hN⟩ : ∃ N, (if pk1 = 1 then pn else 0) = N := ⟨_, rfl⟩
      obtain ⟨B, hB⟩ : ∃ B, decide (pk1 = 1) = B := ⟨_, rfl⟩
      have HNM : Hid (nmI ⟨pk, ⟨pk1, pn, ps⟩⟩ = (N, B)) := Lib.hid (by rw [← hN, ← hB]; rfl)
      rw [hN, hB] at ND
      clear hN hB
      clear hk c4 f4 l4 c5 f5 l5
      gi_wp2_with fail
      refine ⟨trivial, ?_⟩
      refine (CallsIn.inRound l (callsIn_wide.2 (ND.out _))).mono ?_
      rintro e w5 ⟨rfl, hb⟩
      have HI5 := Lib.hid (HI.out.below hb)
      have HB5 := Lib.hid hb
      have c4 := HI5.out.b4.cell 0
      have f4 := HI5.out.b4.free 0
      have l4 := HI5.out.b4.lt
      have c5 := HI5.out.b5.cell 0
      have f5 := HI5.out.b5.free 0
      have l5 := HI5.out.b5.lt
      clear hb x0 x1 x2 x3 c3
      gi_wp2
      refine ⟨(((keeps_belowV HB5.out).trans (KeepsOthers.setCell _ _ _)).trans (KeepsOthers.setCell _ _ _)).from _, rfl, ⟨⟨pre, x, rfl, HI5.out.no, by rw [HP.out]; exact HQ.out, ?_, ?_⟩, (HI5.out.bel.setCell (p := ⟨r4, 0, none⟩) (show w.heap.size ≤ r4 by have := HNE.out; omega) _).setCell (p := ⟨r5, 0, none⟩) (show w.heap.size ≤ r5 by have := HNE.out; omega) _⟩⟩
      · rw [HP.out, HNM.out]
        exact Box.other (a := ⟨r5, 0, none⟩) (HI5.out.b4.set 0 _) hn45 _
      · rw [HP.out, HNM.out]
        exact Box.set (HI5.out.b5.other (a := ⟨r4, 0, none⟩) (Ne.symm hn45) _) 0 _
    · have HQ := Lib.hid hk
      have hq : (pk.toList == k.toList) = false := neq_toListV hk
      clear hk
      gi_wp2
      exact ⟨(KeepsOthers.refl _).from _, Below.refl _ _, ⟨⟨fun z hz => by
        rcases List.mem_append.1 hz with hz | hz
        · exact HI.out.no z hz
        · rw [List.mem_singleton] at hz
          rw [hz, HP.out]
          exact HQ.out, HI.out.b3, HI.out.b4, HI.out.b5, HI.out.bel⟩, HZ.out⟩⟩
  case done =>
    rintro D xs W hD hS ⟨hI, hsz⟩ hK
    have HI := Lib.hid hI
    have HK := Lib.hid hK
    have c4 := hI.b4.cell 0
    have f4 := hI.b4.free 0
    have l4 := hI.b4.lt
    have c5 := hI.b5.cell 0
    have f5 := hI.b5.free 0
    have l5 := hI.b5.lt
    have hn45 : r4 ≠ r5 := by have := HNE.out; omega
    clear hI hK
    gi_wp2
    obtain ⟨W2, hW2⟩ : ∃ W2, (W.setCell ⟨r4, 0, none⟩ (.int .i64 0)).setCell ⟨r5, 0, none⟩ (.bool false) = W2 := ⟨_, rfl⟩
    have hK2 : W2.heap[D]? = some (.deferred (some [])) := by rw [← hW2]; exact ((KeepsOthers.setCell W ⟨r4, 0, none⟩ (.int .i64 0)).trans (KeepsOthers.setCell _ ⟨r5, 0, none⟩ (.bool false))).same D _ HK.out rfl
    have q4 : Box W2 r4 #[.int .i64 0] 3 := by rw [← hW2]; exact Box.other (a := ⟨r5, 0, none⟩) (HI.out.b4.set 0 (.int .i64 0)) hn45 _
    have q5 : Box W2 r5 #[.bool false] 4 := by rw [← hW2]; exact Box.set (HI.out.b5.other (a := ⟨r4, 0, none⟩) (Ne.symm hn45) _) 0 (.bool false)
    have qb : Below w.heap.size w W2 := by rw [← hW2]; exact (HI.out.bel.setCell (p := ⟨r4, 0, none⟩) (show w.heap.size ≤ r4 by have := HNE.out; omega) _).setCell (p := ⟨r5, 0, none⟩) (show w.heap.size ≤ r5 by have := HNE.out; omega) _
    rw [hW2]
    have hg := grownBy_putObj' W2 D (.deferred none)
    have hr : ∀ r, some D = some r → w1.heap.size ≤ r ∧ ∃ o : Obj, W2.heap[r]? = some o ∧ o.isCells = false := fun r e => by
      injection e with e
      subst e
      exact ⟨hD, _, hK2, rfl⟩
    have g4 := box_keptV (B := w1.heap.size) q4 hg hr
    have g5 := box_keptV (B := w1.heap.size) q5 hg hr
    have hb := qb.grown hg qb.size (fun k hk => Nat.le_trans H0.out.bel.size (hr k hk).1)
    refine ⟨by simp, .inl ⟨_, _, rfl, run_takeDeferred hK2, ?_⟩⟩
    have s4 := g4.cell 0
    have s5 := g5.cell 0
    have hv : npI k (bkL hs hs.length) = (0, false) := by
      rw [← hS]
      refine npI_none (fun z hz => ?_)
      obtain ⟨y, hy, rfl⟩ := List.mem_map.1 hz
      exact HI.out.no y hy
    rw [hv]
    exact ⟨.tuple #[.int .i64 0, .bool false], by simp [results, Tryz.results58, go_sem, s4, s5], rfl, hb⟩
  case stop =>
    rintro D c pre W hD hSp ⟨rfl, hX⟩ hK
    have HX := Lib.hid hX
    have HK := Lib.hid hK
    obtain ⟨p, x, hpre, hall, hyes, hb4, hb5⟩ := hX.yes
    clear hX hK
    gi_wp2
    have hg := grownBy_putObj' W D (.deferred none)
    have hr : ∀ r, some D = some r → w1.heap.size ≤ r ∧ ∃ o : Obj, W.heap[r]? = some o ∧ o.isCells = false := fun r e => by
      injection e with e
      subst e
      exact ⟨hD, _, HK.out, rfl⟩
    have g4 := box_keptV (B := w1.heap.size) hb4 hg hr
    have g5 := box_keptV (B := w1.heap.size) hb5 hg hr
    have hb := HX.out.bel.grown hg HX.out.bel.size (fun k hk => Nat.le_trans H0.out.bel.size (hr k hk).1)
    refine ⟨by simp, .inl ⟨_, _, rfl, run_takeDeferred HK.out, ?_⟩⟩
    have s4 := g4.cell 0
    have s5 := g5.cell 0
    subst hpre
    obtain ⟨r, hr9⟩ := hSp
    have hv : npI k (bkL hs hs.length) = nmI x.1.2 := by
      rw [← hr9, List.map_append, List.append_assoc]
      refine npI_yes (fun z hz => ?_) hyes
      obtain ⟨y, hy, rfl⟩ := List.mem_map.1 hz
      exact hall y hy
    rw [hv]
    exact ⟨.tuple #[.int .i64 (nmI x.1.2).1, .bool (nmI x.1.2).2], by simp [results, Tryz.results58, go_sem, s4, s5], rfl, hb⟩
end Go.Proofs.YtodibjpojfipoaaGreatDoor
namespace Go.Proofs.YtodibjpojfipoaaGreatDoor
open Go Go.RowKit
set_option linter.unusedVariables false
set_option linter.unusedSimpArgs false
set_option maxRecDepth 10000

theorem flat_get {α : Type} (f : α → List Value) (c : Nat) (hf : ∀ x, (f x).length = c) : ∀ (L : List α) (i : Nat) (x : α), L[i]? = some x → ∀ (j : Nat) (v : Value), (f x)[j]? = some v → (L.flatMap f)[i * c + j]? = some v
  | [], i, x, h, j, v, hv => by simp at h
  | y :: L, 0, x, h, j, v, hv => by
    have e : y = x := by simpa using h
    subst e
    have hj := (List.getElem?_eq_some_iff.1 hv).1
    rw [List.flatMap_cons, Nat.zero_mul, Nat.zero_add, List.getElem?_append_left hj]
    exact hv
  | y :: L, i + 1, x, h, j, v, hv => by
    rw [List.getElem?_cons_succ] at h
    have := flat_get f c hf L i x h j v hv
    rw [List.flatMap_cons, List.getElem?_append_right (by rw [hf, Nat.succ_mul]; omega), hf]
    have e : (i + 1) * c + j - c = i * c + j := by rw [Nat.succ_mul]; omega
    rw [e]
    exact this
theorem ixAt_of {w : World} {B n cap g : Nat} {a : Option Addr} {L : List IX} (h : ItsM w B a n cap L) (ha : a = some ⟨g, 0, none⟩) : IxAt w g 0 L := by
  subst ha
  refine ⟨h.own.lt.2, fun i x hx j v hv => ?_⟩
  rw [Nat.zero_add]
  exact h.own.cell (flat_get ixL 5 (fun _ => rfl) L i x hx j v hv)
theorem pbAt_of {w : World} {B n cap g : Nat} {a : Option Addr} {ps : List PB} (h : Own w B 110 4 a n cap (pbV ps)) (ha : a = some ⟨g, 0, none⟩) : PbAt w g 0 ps := by
  subst ha
  refine ⟨h.lt.2, fun i x hx j v hv => ?_⟩
  rw [Nat.zero_add]
  exact h.cell (flat_get pbL 4 (fun _ => rfl) ps i x hx j v hv)
/-! ### What is told, over lists -/
def numV (v : FVal) : Int × Bool := (if v.kind = 1 then v.n else 0, decide (v.kind = 1))
def revF (k : List Int) : List FPar → Int × Bool
  | [] => (0, false)
  | p :: r => if p.1 = k then numV p.2 else revF k r
def lastF (k : List Int) (l : List FPar) : Int × Bool := revF k l.reverse
def kvF (x : FItem) : FPar := (x.key, x.v)
theorem npI_rev (k : ByteArray) (hs : List PB) : ∀ n, n ≤ hs.length → npI k (bkL hs n) = revF (btL k) (((hs.take n).map PB.f).reverse)
  | 0, _ => by simp [bkL, npI, revF]
  | n + 1, h => by
    obtain ⟨x, hx⟩ : ∃ x, hs[n]? = some x := ⟨_, List.getElem?_eq_getElem (by omega)⟩
    have e : hs.take (n + 1) = hs.take n ++ [x] := by rw [List.take_add_one, hx]; rfl
    rw [bkL_succ hx, e, List.map_append, List.reverse_append]
    show npI k ((n, x) :: bkL hs n) = revF (btL k) (PB.f x :: ((hs.take n).map PB.f).reverse)
    unfold npI revF
    by_cases hk : x.key = k
    · rw [if_pos hk, if_pos (show (PB.f x).1 = btL k by rw [← hk]; rfl)]
      rfl
    · rw [if_neg hk, if_neg (show ¬ (PB.f x).1 = btL k from fun h => hk (btL_inj h)), npI_rev k hs n (by omega)]
theorem nbI_rev (k : ByteArray) (hs : List IX) : ∀ n, n ≤ hs.length → nbI k (bkL hs n) = revF (btL k) (((hs.take n).map fun x => kvF x.f).reverse)
  | 0, _ => by simp [bkL, nbI, revF]
  | n + 1, h => by
    obtain ⟨x, hx⟩ : ∃ x, hs[n]? = some x := ⟨_, List.getElem?_eq_getElem (by omega)⟩
    have e : hs.take (n + 1) = hs.take n ++ [x] := by rw [List.take_add_one, hx]; rfl
    rw [bkL_succ hx, e, List.map_append, List.reverse_append]
    show nbI k ((n, x) :: bkL hs n) = revF (btL k) (kvF (IX.f x) :: ((hs.take n).map fun x => kvF x.f).reverse)
    unfold nbI revF
    by_cases hk : x.k.key = k
    · rw [if_pos hk, if_pos (show (kvF (IX.f x)).1 = btL k by rw [← hk]; rfl)]
      rfl
    · rw [if_neg hk, if_neg (show ¬ (kvF (IX.f x)).1 = btL k from fun h => hk (btL_inj h)), nbI_rev k hs n (by omega)]
theorem npI_last (k : ByteArray) (hs : List PB) : npI k (bkL hs hs.length) = lastF (btL k) (hs.map PB.f) := by
  rw [npI_rev k hs _ (Nat.le_refl _), List.take_length]
  rfl
theorem nbI_last (k : ByteArray) (hs : List IX) : nbI k (bkL hs hs.length) = lastF (btL k) ((hs.map IX.f).map kvF) := by
  rw [nbI_rev k hs _ (Nat.le_refl _), List.take_length, List.map_map]
  rfl
def lpG : Int × Bool → List FItem → Int × Bool
  | z, [] => z
  | z, x :: r => lpG (if (lastF [114] x.ps).2 = true ∧ (lastF [116] x.ps).2 = true ∧ (lastF [114] x.ps).1 ≤ 0 ∧ 0 ≤ (lastF [116] x.ps).1 then (max z.1 (lastF [116] x.ps).1, true) else z) r
def remK : List Int := [114, 101, 109, 97, 105, 110, 105, 110, 103]
def resK : List Int := [114, 101, 115, 101, 116]
def limG (l : List FItem) : Int × Bool :=
  if (lastF remK (l.map kvF)).2 = true ∧ (lastF resK (l.map kvF)).2 = true ∧ (lastF remK (l.map kvF)).1 ≤ 0 then ((lastF resK (l.map kvF)).1, true) else lpG (0, false) l
def limT (l : List Int) : Int × Bool := limG ((parseF l).getD [])
theorem parsF_cnt : ∀ (f : Nat) (l : List Int) (ps : List FPar) (r : List Int), parsF f l = some (ps, r) → ps.length + r.length ≤ l.length := by
  intro f
  induction f with
  | zero => intro l ps r h; cases h
  | succ f ih =>
    intro l ps r h
    cases hc : cutS [59] l with
    | none =>
      rw [parsF_end _ _ hc] at h
      injection h with h
      injection h with h1 h2
      rw [← h1, h2]
      simp
    | some t =>
      rw [parsF_step _ _ _ hc] at h
      have h3 := congrArg List.length (cutS_some hc)
      simp at h3
      have h2 := dw_len sp1 t
      cases hp : pairF (t.dropWhile sp1) with
      | none => rw [hp] at h; cases h
      | some pr =>
        obtain ⟨p, r'⟩ := pr
        rw [hp] at h
        dsimp only at h
        have h1 := pairF_len hp
        cases hg : parsF f r' with
        | none => rw [hg] at h; cases h
        | some q =>
          rw [hg, Option.map_some] at h
          injection h with h
          injection h with h4 h5
          have := ih r' q.1 q.2 hg
          rw [← h4, ← h5, List.length_cons]
          omega
theorem itemF_cnt {l r : List Int} {i : FItem} (h : itemF l = some (i, r)) : i.ps.length ≤ l.length := by
  unfold itemF at h
  cases hh : headF l with
  | none => rw [hh] at h; cases h
  | some p =>
    obtain ⟨kv, t⟩ := p
    rw [hh] at h
    dsimp only at h
    have h1 := headF_len hh
    cases hg : parsF (t.length + 1) t with
    | none => rw [hg] at h; cases h
    | some q =>
      rw [hg, Option.map_some] at h
      injection h with h
      injection h with h4 h5
      have := parsF_cnt _ t q.1 q.2 hg
      rw [← h4]
      show q.1.length ≤ _
      omega
theorem collF_cnt : ∀ (f n : Nat) (l : List Int) (is : List FItem), collF f n l = some is → ∀ x ∈ is, x.ps.length ≤ l.length := by
  intro f
  induction f with
  | zero => intro n l is h; cases h
  | succ f ih =>
    intro n l is h x hx
    unfold collF at h
    cases hi : itemF l with
    | none => rw [hi] at h; cases h
    | some p =>
      obtain ⟨i, r⟩ := p
      have h1 := itemF_cnt hi
      have h2 := itemF_len hi
      rw [hi] at h
      dsimp only at h
      split at h
      · cases h
      · have h3 := dw_len blI r
        split at h
        · injection h with h
          subst h
          rw [List.mem_singleton] at hx
          rw [hx]
          exact h1
        · rename_i r' he
          rw [he] at h3
          rw [List.length_cons] at h3
          have h4 := dw_len blI r'
          cases hg : collF f (n + 1) (r'.dropWhile blI) with
          | none => rw [hg] at h; cases h
          | some is' =>
            rw [hg, Option.map_some] at h
            injection h with h
            rw [← h] at hx
            rcases List.mem_cons.1 hx with hx | hx
            · rw [hx]
              exact h1
            · have := ih _ _ _ hg x hx
              omega
        · cases h
theorem parseF_cnt {l : List Int} {is : List FItem} (h : parseF l = some is) : ∀ x ∈ is, x.ps.length ≤ l.length := by
  have h3 := dw_len sp1 l
  unfold parseF at h
  split at h
  · injection h with h
    subst h
    intro x hx
    cases hx
  · intro x hx
    have := collF_cnt _ _ _ _ h x hx
    omega
theorem below_dn {w wr : World} (h : Below w.heap.size w wr) (k : Nat) : Below w.heap.size w (wr.drewN k) := ⟨h.os, h.tape, h.output, h.size, h.block⟩
set_option maxHeartbeats 4000000 in
theorem flimit_at (s : ByteArray) (hs : s.size ≤ 1000000) (w : World) : Calls Tryz.prog 28 #[.string s] w fun e w' => e = .returned (.tuple #[.int .i64 (limT (btL s)).1, .bool (limT (btL s)).2]) ∧ Below w.heap.size w w' := by
  obtain ⟨Z, hZ⟩ : ∃ Z, limT (btL s) = Z := ⟨_, rfl⟩
  have HZ := Lib.hid hZ
  rw [hZ]
  clear hZ
  have PS := Lib.hid (fparse_at s hs)
  have HSZ := Lib.hid hs
  clear hs
  go_enter Tryz.func28, Tryz.ntmps28
  go_wp2_with fail
  refine (PS.out _).mono ?_
  rintro e w1 ⟨ok, L, n, a, cap, rfl, hP, hn, hI, hno, hb⟩
  have HB1 := Lib.hid hb
  have HI := Lib.hid hI
  have hL := hI.len
  have HCN : Hid (∀ x ∈ L, x.ps.length ≤ 1000000) := Lib.hid (fun x hx => by
    cases ok with
    | true =>
      have := parseF_cnt hP x.f (List.mem_map_of_mem hx)
      rw [btL_length] at this
      have h2 : x.f.ps.length = x.ps.length := by show (x.ps.map PB.f).length = _; rw [List.length_map]
      have := HSZ.out
      omega
    | false => rw [hno rfl] at hx; cases hx)
  have HG : Hid (limG (L.map IX.f) = Z) := Lib.hid (by
    rw [← HZ.out]
    unfold limT
    rw [hP]
    cases ok with
    | true => rfl
    | false => rw [hno rfl]; rfl)
  clear hP hno hI hb PS HZ
  subst hL
  have HSA : Hid (∃ g, (L ≠ [] → a = some ⟨g, 0, none⟩) ∧ (L ≠ [] → IxAt w1 g 0 L)) := Lib.hid (by
    by_cases h0 : L = []
    · exact ⟨0, fun h => absurd h0 h, fun h => absurd h0 h⟩
    · have : 0 < L.length := by cases L with | nil => exact absurd rfl h0 | cons => simp
      obtain ⟨g, ha, _⟩ := HI.out.own.some_ this
      exact ⟨g, fun _ => ha, fun _ => ixAt_of HI.out ha⟩)
  obtain ⟨g, hsa, hat⟩ := HSA.out
  have HS := Lib.hid hsa
  have HA := Lib.hid hat
  clear hsa hat HSA
  have LN := Lib.hid (show L.length ≤ 1000000 by omega)
  have N1 := Lib.hid (fun (k : ByteArray) (W : World) (hW : Below w1.heap.size w1 W) => fnumber1_at a g 0 cap L LN.out k W (fun h => ⟨Nat.lt_of_lt_of_le (HA.out h).lt hW.size, fun i x hx j v hv => (hW.cell (HA.out h).lt).trans ((HA.out h).at_ i x hx j v hv)⟩) HS.out)
  obtain ⟨ra, hra⟩ : ∃ z, lastF remK ((L.map IX.f).map kvF) = z := ⟨_, rfl⟩
  obtain ⟨rb, hrb⟩ : ∃ z, lastF resK ((L.map IX.f).map kvF) = z := ⟨_, rfl⟩
  have HG2 : Hid ((if ra.2 = true ∧ rb.2 = true ∧ ra.1 ≤ 0 then (rb.1, true) else lpG (0, false) (L.map IX.f)) = Z) := Lib.hid (by
    rw [← HG.out, ← hra, ← hrb]
    rfl)
  have hra' : nbI ⟨#[114, 101, 109, 97, 105, 110, 105, 110, 103]⟩ (bkL L L.length) = ra := by rw [nbI_last, ← hra]; rfl
  have hrb' : nbI ⟨#[114, 101, 115, 101, 116]⟩ (bkL L L.length) = rb := by rw [nbI_last, ← hrb]; rfl
  have NA := Lib.hid (N1.out ⟨#[114, 101, 109, 97, 105, 110, 105, 110, 103]⟩)
  have NB := Lib.hid (N1.out ⟨#[114, 101, 115, 101, 116]⟩)
  rw [hra'] at NA
  rw [hrb'] at NB
  clear hra hrb hra' hrb' N1 HG
  obtain ⟨r0, r1⟩ := ra
  obtain ⟨q0, q1⟩ := rb
  dsimp only at NA NB HG2
  obtain ⟨m, hm⟩ : ∃ m, L.length = m := ⟨_, rfl⟩
  have HM := Lib.hid hm
  rw [hm] at NA NB hn ⊢
  clear hm
  go_wp2_with fail
  refine (NA.out _ (Below.refl _ _)).mono ?_
  rintro e w2 ⟨rfl, hb⟩
  have HB2 := Lib.hid hb
  clear hb NA
  go_wp2_with fail
  refine (NB.out _ HB2.out).mono ?_
  rintro e w3 ⟨rfl, hb⟩
  have HB3 := Lib.hid (HB2.out.trans (hb.mono HB2.out.size))
  clear hb HB2 NB
  have HBW := Lib.hid (HB1.out.trans (HB3.out.mono HB1.out.size))
  have HI3 := Lib.hid (HI.out.later HB3.out)
  clear HB1 HB3 HI HA
  go_upto_region 4 with fail
  obtain ⟨Q, hQ⟩ : ∃ q : Bool, decide (r1 = true ∧ q1 = true ∧ r0 ≤ 0) = q := ⟨_, rfl⟩
  have HQ := Lib.hid hQ
  clear hQ
  go_cut [40] from 18 (fun v wx => v = .bool Q ∧ wx = w3)
  case first =>
    cases r1 with
    | false =>
      have e : Q = false := by rw [← HQ.out]; simp
      subst e
      go_wp2
      go_meet
      exact ⟨rfl, rfl⟩
    | true =>
      cases q1 with
      | false =>
        have e : Q = false := by rw [← HQ.out]; simp
        subst e
        go_wp2
        go_meet
        exact ⟨rfl, rfl⟩
      | true =>
        have e : decide (r0 ≤ 0) = Q := by rw [← HQ.out]; simp
        have E := Lib.hid e
        cases Q with
        | true =>
          go_wp2
          go_meet
          exact ⟨rfl, rfl⟩
        | false =>
          go_wp2
          go_meet
          exact ⟨rfl, rfl⟩
  case rest =>
  obtain ⟨rfl, he⟩ := hcut
  have he := he.symm
  subst he
  cases Q with
  | true =>
    have HG3 : Hid ((q0, true) = Z) := Lib.hid (by rw [← HG2.out, if_pos (of_decide_eq_true HQ.out)])
    clear HG2 HQ
    go_wp2
    go_ret2
    exact ⟨by rw [← HG3.out]; rfl, HBW.out⟩
  | false =>
    have HG3 : Hid (lpG (0, false) (L.map IX.f) = Z) := Lib.hid (by rw [← HG2.out, if_neg (of_decide_eq_false HQ.out)])
    clear HG2 HQ
    go_wp2_with fail
    go_loopw [10, 11, 44] (fun mm ff j wr => ∃ (i : Nat) (x : Int) (f : Bool), i ≤ m ∧ mm = .int .i64 x ∧ ff = .bool f ∧ j = .int .i64 (i : Int) ∧ Hid (lpG (x, f) ((L.drop i).map IX.f) = Z) ∧ Hid (Below w.heap.size w wr) ∧ Hid (Below w3.heap.size w3 wr)) (fun _ _ j _ => m - (intOf j).toNat)
    case atStart => exact ⟨0, 0, false, by omega, rfl, rfl, rfl, HG3, HBW, Lib.hid (Below.refl _ _)⟩
    case round =>
      clear HG3 HBW
      obtain ⟨i, x, f, hi, rfl, rfl, rfl, HP, HB, HC⟩ := hrel
      by_cases hlt : i < m
      · have kd : decide ((i : Int) < (m : Int)) = true := decide_eq_true (by omega)
        obtain ⟨z, hz⟩ : ∃ z, L[i]? = some z := ⟨_, List.getElem?_eq_getElem (by rw [HM.out]; exact hlt)⟩
        have hzm : z ∈ L := List.mem_of_getElem? hz
        have HIr := Lib.hid (HI3.out.later HC.out)
        obtain ⟨g2, ha, _⟩ := HIr.out.own.some_ (by rw [← HM.out] at hlt; omega)
        have AT := ixAt_of HIr.out ha
        have k0 := AT.at_ i z hz 0 _ rfl
        have k1 := AT.at_ i z hz 1 _ rfl
        have k2 := AT.at_ i z hz 2 _ rfl
        have k3 := AT.at_ i z hz 3 _ rfl
        have k4 := AT.at_ i z hz 4 _ rfl
        have hpar := HIr.out.par z hzm
        have hdr : L.drop i = z :: L.drop (i + 1) := by
          obtain ⟨hb, he⟩ := List.getElem?_eq_some_iff.1 hz
          rw [← he]
          exact List.drop_eq_getElem_cons hb
        simp only [Nat.zero_add, Nat.add_zero] at k0 k1 k2 k3 k4
        obtain ⟨⟨key, ⟨vk, vn, vs⟩⟩, ps, nn, pa, pc⟩ := z
        dsimp only at k0 k1 k2 k3 k4 hpar
        obtain ⟨hp1, hp2, _⟩ := hpar
        obtain ⟨a1, ha1⟩ : ∃ z, lastF [114] (ps.map PB.f) = z := ⟨_, rfl⟩
        obtain ⟨b1, hb1⟩ : ∃ z, lastF [116] (ps.map PB.f) = z := ⟨_, rfl⟩
        have HP2 : Hid (lpG (if a1.2 = true ∧ b1.2 = true ∧ a1.1 ≤ 0 ∧ 0 ≤ b1.1 then (max x b1.1, true) else (x, f)) ((L.drop (i + 1)).map IX.f) = Z) := Lib.hid (by
          rw [← HP.out, hdr, ← ha1, ← hb1]
          rfl)
        have hnn : ps.length ≤ 1000000 := HCN.out _ hzm
        subst hp2
        have HSP : Hid (∃ g, (ps ≠ [] → pa = some ⟨g, 0, none⟩) ∧ (ps ≠ [] → PbAt wr g 0 ps)) := Lib.hid (by
          by_cases h0 : ps = []
          · exact ⟨0, fun h => absurd h0 h, fun h => absurd h0 h⟩
          · have : 0 < ps.length := by cases ps with | nil => exact absurd rfl h0 | cons => simp
            obtain ⟨g, ha, _⟩ := hp1.some_ this
            exact ⟨g, fun _ => ha, fun _ => pbAt_of hp1 ha⟩)
        obtain ⟨gp, hsp, hpt⟩ := HSP.out
        have PR := Lib.hid (fun (kk : ByteArray) (W : World) (hW : Below wr.heap.size wr W) => fparam_at key vs vk vn pa gp 0 pc ps hnn kk W (fun h => ⟨Nat.lt_of_lt_of_le (hpt h).lt hW.size, fun i x hx j v hv => (hW.cell (hpt h).lt).trans ((hpt h).at_ i x hx j v hv)⟩) hsp)
        have PA := Lib.hid (PR.out ⟨#[114]⟩)
        have PB' := Lib.hid (PR.out ⟨#[116]⟩)
        have ea : npI ⟨#[114]⟩ (bkL ps ps.length) = a1 := by rw [npI_last, ← ha1]; rfl
        have eb : npI ⟨#[116]⟩ (bkL ps ps.length) = b1 := by rw [npI_last, ← hb1]; rfl
        rw [ea] at PA
        rw [eb] at PB'
        have ix0 : (0 : Int) ≤ (i : Int) := by omega
        have ix1 : (i : Int) < (m : Int) := by omega
        subst ha
        clear PR ea eb ha1 hb1 hsp hpt HSP hp1 hdr hzm hz AT HIr HP HI3
        obtain ⟨a0, a2⟩ := a1
        obtain ⟨b0, b2⟩ := b1
        dsimp only at PA PB' HP2
        obtain ⟨pn, hpn⟩ : ∃ q, ps.length = q := ⟨_, rfl⟩
        have HPN := Lib.hid hpn
        rw [hpn] at PA PB' k4
        clear hpn hnn
        go_upto_region 10 with fail
        refine code_forget (fun W => Hid (Box W wr.heap.size #[.string key, .int .i64 vk, .int .i64 vn, .string vs, .slice pa pn pc] 73) ∧ Hid (Below wr.heap.size wr W)) ⟨Lib.hid (Box.new wr _ _), Lib.hid ((Below.refl wr.heap.size wr).alloc (Nat.le_refl _) _)⟩ ?_
        obtain ⟨xb, hxb⟩ : ∃ x, wr.heap.size = x := ⟨_, rfl⟩
        have HXB := Lib.hid hxb
        rintro w4 ⟨BX, BL⟩
        rw [hxb] at BX ⊢
        clear hxb k0 k1 k2 k3 k4
        have x0 := BX.out.cell 0
        have x1 := BX.out.cell 1
        have x2 := BX.out.cell 2
        have x3 := BX.out.cell 3
        have x4 := BX.out.cell 4
        go_wp2_with fail
        refine (PA.out _ BL.out).mono ?_
        rintro e w5 ⟨rfl, hb⟩
        have BX5 := Lib.hid (BX.out.later hb)
        have BL5 := Lib.hid (BL.out.trans (hb.mono BL.out.size))
        clear hb x0 x1 x2 x3 x4 BX BL PA
        have x0 := BX5.out.cell 0
        have x1 := BX5.out.cell 1
        have x2 := BX5.out.cell 2
        have x3 := BX5.out.cell 3
        have x4 := BX5.out.cell 4
        go_wp2_with fail
        refine (PB'.out _ BL5.out).mono ?_
        rintro e w6 ⟨rfl, hb⟩
        have BL6 := Lib.hid (BL5.out.trans (hb.mono BL5.out.size))
        have HB6 := Lib.hid (HB.out.trans (BL6.out.mono HB.out.size))
        have HC6 := Lib.hid (HC.out.trans (BL6.out.mono HC.out.size))
        clear hb x0 x1 x2 x3 x4 BX5 BL5 BL6 PB' HB HC
        by_cases hall : a2 = true ∧ b2 = true ∧ a0 ≤ 0 ∧ 0 ≤ b0
        · have HP3 : Hid (lpG (max x b0, true) ((L.drop (i + 1)).map IX.f) = Z) := Lib.hid (by rw [← HP2.out]; exact congrArg (fun z => lpG z _) (if_pos hall).symm)
          obtain ⟨rfl, rfl, h1, h2⟩ := hall
          have d1 : decide (a0 ≤ 0) = true := decide_eq_true h1
          have d2 : decide (0 ≤ b0) = true := decide_eq_true h2
          clear HP2 h1 h2
          go_wp2
          go_roundw
          case rel => exact ⟨i + 1, max x b0, true, by omega, rfl, rfl, by go_num, HP3, HB6, HC6⟩
          case measure => simp [intOf]; omega
        · have HP3 : Hid (lpG (x, f) ((L.drop (i + 1)).map IX.f) = Z) := Lib.hid (by rw [← HP2.out]; exact congrArg (fun z => lpG z _) (if_neg hall).symm)
          clear HP2
          cases a2 with
          | false =>
            clear hall
            go_wp2
            go_roundw
            case rel => exact ⟨i + 1, x, f, by omega, rfl, rfl, by go_num, HP3, HB6, HC6⟩
            case measure => simp [intOf]; omega
          | true =>
            cases b2 with
            | false =>
              clear hall
              go_wp2
              go_roundw
              case rel => exact ⟨i + 1, x, f, by omega, rfl, rfl, by go_num, HP3, HB6, HC6⟩
              case measure => simp [intOf]; omega
            | true =>
              by_cases h1 : a0 ≤ 0
              · have d1 : decide (a0 ≤ 0) = true := decide_eq_true h1
                have d2 : decide (0 ≤ b0) = false := decide_eq_false (fun h2 => hall ⟨rfl, rfl, h1, h2⟩)
                clear hall h1
                go_wp2
                go_roundw
                case rel => exact ⟨i + 1, x, f, by omega, rfl, rfl, by go_num, HP3, HB6, HC6⟩
                case measure => simp [intOf]; omega
              · have d1 : decide (a0 ≤ 0) = false := decide_eq_false h1
                clear hall h1
                go_wp2
                go_roundw
                case rel => exact ⟨i + 1, x, f, by omega, rfl, rfl, by go_num, HP3, HB6, HC6⟩
                case measure => simp [intOf]; omega
      · have kd : decide ((i : Int) < (m : Int)) = false := decide_eq_false (by omega)
        have e : L.drop i = [] := List.drop_eq_nil_of_le (by rw [HM.out]; omega)
        have HE : Hid ((x, f) = Z) := Lib.hid (by rw [← HP.out, e]; rfl)
        clear e HP
        go_wp2
        go_ret2
        exact ⟨by rw [← HE.out]; rfl, HB.out⟩
end Go.Proofs.YtodibjpojfipoaaGreatDoor
namespace Go.Proofs.YtodibjpojfipoaaGreatDoor
open Go Go.RowKit
set_option linter.unusedVariables false
set_option linter.unusedSimpArgs false
set_option maxRecDepth 10000

abbrev HL := List (ByteArray × ByteArray)
def valH (k : ByteArray) (hs : HL) : ByteArray := valB k (bkL hs hs.length)
theorem trL_le (l : List Int) : (trL l).length ≤ l.length := by
  unfold trL
  rw [rdw_rev]
  have h1 := dw_len blI ((l.reverse.dropWhile blI).reverse)
  have h2 := dw_len blI l.reverse
  simp only [List.length_reverse] at h1 h2
  omega
theorem valB_size (k : ByteArray) (B : Nat) : ∀ L : List (Nat × (ByteArray × ByteArray)), (∀ z ∈ L, z.2.2.size ≤ B) → (valB k L).size ≤ B
  | [], _ => by unfold valB; exact Nat.zero_le _
  | x :: r, h => by
    unfold valB
    split
    · have h1 := h x (by simp)
      have h2 := trL_le (btL x.2.2)
      rw [btL_length] at h2
      have h3 : (strL (trL (btL x.2.2))).size = (trL (btL x.2.2)).length := by simp [strL, ByteArray.size]
      omega
    · exact valB_size k B r (fun z hz => h z (by simp [hz]))
theorem bkL_mem {α : Type} {hs : List α} : ∀ (n : Nat) (z : Nat × α), z ∈ bkL hs n → z.2 ∈ hs
  | 0, z, h => by simp [bkL] at h
  | n + 1, z, h => by
    by_cases hn : n < hs.length
    · obtain ⟨x, hx⟩ : ∃ x, hs[n]? = some x := ⟨_, List.getElem?_eq_getElem hn⟩
      rw [bkL_succ hx] at h
      rcases List.mem_cons.1 h with h | h
      · subst h
        exact List.mem_of_getElem? hx
      · exact bkL_mem n z h
    · have e : bkL hs (n + 1) = bkL hs n := by show (match hs[n]? with | some x => (n, x) :: bkL hs n | none => bkL hs n) = _; rw [List.getElem?_eq_none (by omega)]
      rw [e] at h
      exact bkL_mem n z h
theorem valH_size (k : ByteArray) (hs : HL) (hz : ∀ x ∈ hs, x.1.size ≤ 1000000 ∧ x.2.size ≤ 1000000) : (valH k hs).size ≤ 1000000 :=
  valB_size k _ _ (fun z h => (hz _ (bkL_mem _ z h)).2)
def kRl : ByteArray := ⟨#[114, 97, 116, 101, 108, 105, 109, 105, 116]⟩
def kXm : ByteArray := ⟨#[120, 45, 114, 97, 116, 101, 108, 105, 109, 105, 116, 45, 114, 101, 109, 97, 105, 110, 105, 110, 103]⟩
def kXr : ByteArray := ⟨#[120, 45, 114, 97, 116, 101, 108, 105, 109, 105, 116, 45, 114, 101, 115, 101, 116]⟩
def kRa : ByteArray := ⟨#[114, 101, 116, 114, 121, 45, 97, 102, 116, 101, 114]⟩
/-- How many seconds. -/
def secO (hs : HL) : Option Int := if (limT (btL (valH kRl hs))).2 = true then some (limT (btL (valH kRl hs))).1 else oldF (btL (valH kXm hs)) (btL (valH kXr hs))
def resO (now : Int) (hs : HL) : Option Int := match secO hs with
  | none => none
  | some n => if n < 0 then none else some (afterI now n)
set_option maxHeartbeats 4000000 in
theorem freset_at (sa : Option Addr) (g off c : Nat) (hs : HL) (hl : hs.length ≤ 1000000) (hz : ∀ x ∈ hs, x.1.size ≤ 1000000 ∧ x.2.size ≤ 1000000) (now : Int) (w : World) (hA : hs ≠ [] → HdAt w g off hs) (hSa : hs ≠ [] → sa = some ⟨g, off, none⟩) :
    Calls Tryz.prog 13 #[.slice sa hs.length c, .int .i64 now] w (OptP (resO now hs) w) := by
  obtain ⟨R, hR⟩ : ∃ R, resO now hs = R := ⟨_, rfl⟩
  have HR := Lib.hid hR
  rw [hR]
  clear hR
  have V := Lib.hid (fun (k : ByteArray) (W : World) (hW : Below w.heap.size w W) => fvalue_at sa g off c hs hl hz k W (fun h => ⟨Nat.lt_of_lt_of_le (hA h).lt hW.size, fun i x hx => (hW.cell (hA h).lt).trans ((hA h).nm i x hx), fun i x hx => (hW.cell (hA h).lt).trans ((hA h).vl i x hx)⟩) hSa)
  have V1 := Lib.hid (V.out ⟨#[114, 97, 116, 101, 108, 105, 109, 105, 116]⟩)
  have V2 := Lib.hid (V.out ⟨#[120, 45, 114, 97, 116, 101, 108, 105, 109, 105, 116, 45, 114, 101, 109, 97, 105, 110, 105, 110, 103]⟩)
  have V3 := Lib.hid (V.out ⟨#[120, 45, 114, 97, 116, 101, 108, 105, 109, 105, 116, 45, 114, 101, 115, 101, 116]⟩)
  have hz1 := valH_size ⟨#[114, 97, 116, 101, 108, 105, 109, 105, 116]⟩ hs hz
  obtain ⟨v1, hv1⟩ : ∃ v, valH ⟨#[114, 97, 116, 101, 108, 105, 109, 105, 116]⟩ hs = v := ⟨_, rfl⟩
  obtain ⟨v2, hv2⟩ : ∃ v, valH ⟨#[120, 45, 114, 97, 116, 101, 108, 105, 109, 105, 116, 45, 114, 101, 109, 97, 105, 110, 105, 110, 103]⟩ hs = v := ⟨_, rfl⟩
  obtain ⟨v3, hv3⟩ : ∃ v, valH ⟨#[120, 45, 114, 97, 116, 101, 108, 105, 109, 105, 116, 45, 114, 101, 115, 101, 116]⟩ hs = v := ⟨_, rfl⟩
  have e1 : valB ⟨#[114, 97, 116, 101, 108, 105, 109, 105, 116]⟩ (bkL hs hs.length) = v1 := hv1
  have e2 : valB ⟨#[120, 45, 114, 97, 116, 101, 108, 105, 109, 105, 116, 45, 114, 101, 109, 97, 105, 110, 105, 110, 103]⟩ (bkL hs hs.length) = v2 := hv2
  have e3 : valB ⟨#[120, 45, 114, 97, 116, 101, 108, 105, 109, 105, 116, 45, 114, 101, 115, 101, 116]⟩ (bkL hs hs.length) = v3 := hv3
  rw [e1] at V1
  rw [e2] at V2
  rw [e3] at V3
  rw [hv1] at hz1
  have LM := Lib.hid (fun W : World => flimit_at v1 hz1 W)
  have OL := Lib.hid (fun W : World => fold_at v2 v3 W)
  obtain ⟨⟨z0, z1⟩, hzz⟩ : ∃ z, limT (btL v1) = z := ⟨_, rfl⟩
  obtain ⟨o, ho⟩ : ∃ o, oldF (btL v2) (btL v3) = o := ⟨_, rfl⟩
  rw [hzz] at LM
  rw [ho] at OL
  have HS : Hid (secO hs = if z1 = true then some z0 else o) := Lib.hid (by
    unfold secO
    rw [show valH kRl hs = v1 from hv1, show valH kXm hs = v2 from hv2, show valH kXr hs = v3 from hv3, hzz, ho])
  have HR2 : Hid ((match (if z1 = true then some z0 else o) with
    | none => none
    | some n => if n < 0 then none else some (afterI now n)) = R) := Lib.hid (by rw [← HR.out]; unfold resO; rw [HS.out])
  clear hv1 hv2 hv3 e1 e2 e3 hzz ho HR HS V hz1 hl hz hA hSa
  obtain ⟨N, hN⟩ : ∃ N, hs.length = N := ⟨_, rfl⟩
  rw [hN] at V1 V2 V3 ⊢
  clear hN
  dsimp only at LM
  go_enter Tryz.func13, Tryz.ntmps13
  go_wp2_with fail
  refine (V1.out _ (Below.refl _ _)).mono ?_
  rintro e w1 ⟨rfl, hb⟩
  have HB1 := Lib.hid hb
  clear hb V1
  go_wp2_with fail
  refine (LM.out _).mono ?_
  rintro e w2 ⟨rfl, hb⟩
  have HB2 := Lib.hid (HB1.out.trans (hb.mono HB1.out.size))
  clear hb HB1 LM
  cases z1 with
  | true =>
    clear OL V2 V3
    by_cases hn : z0 < 0
    · have hd : decide (z0 < 0) = true := decide_eq_true hn
      have HO : Hid (R = none) := Lib.hid (by rw [← HR2.out]; exact if_pos hn)
      clear hn HR2
      go_wp2
      go_ret2
      exact ⟨by rw [HO.out]; rfl, HB2.out⟩
    · have hd : decide (z0 < 0) = false := decide_eq_false hn
      have HO : Hid (R = some (afterI now z0)) := Lib.hid (by rw [← HR2.out]; exact if_neg hn)
      clear hn HR2
      go_wp2_with fail
      refine (fafter_at now z0 _).mono ?_
      rintro e w9 ⟨rfl, hw⟩
      subst w9
      obtain ⟨af, haf⟩ : ∃ a, afterI now z0 = a := ⟨_, rfl⟩
      rw [haf] at HO ⊢
      clear haf
      go_wp2
      go_ret2
      exact ⟨by rw [HO.out]; rfl, HB2.out⟩
  | false =>
    go_wp2_with fail
    refine (V2.out _ HB2.out).mono ?_
    rintro e w3 ⟨rfl, hb⟩
    have HB3 := Lib.hid (HB2.out.trans (hb.mono HB2.out.size))
    clear hb HB2 V2
    go_wp2_with fail
    refine (V3.out _ HB3.out).mono ?_
    rintro e w4 ⟨rfl, hb⟩
    have HB4 := Lib.hid (HB3.out.trans (hb.mono HB3.out.size))
    clear hb HB3 V3
    go_wp2_with fail
    refine (OL.out _).mono ?_
    rintro e w5 ⟨rfl, hb⟩
    have HB5 := Lib.hid (HB4.out.trans (hb.mono HB4.out.size))
    clear hb HB4 OL
    cases o with
    | none =>
      have HO : Hid (R = none) := Lib.hid (by rw [← HR2.out]; rfl)
      clear HR2
      go_wp2
      go_ret2
      exact ⟨by rw [HO.out]; rfl, HB5.out⟩
    | some n =>
      by_cases hn : n < 0
      · have hd : decide (n < 0) = true := decide_eq_true hn
        have HO : Hid (R = none) := Lib.hid (by rw [← HR2.out]; exact if_pos hn)
        clear hn HR2
        go_wp2
        go_ret2
        exact ⟨by rw [HO.out]; rfl, HB5.out⟩
      · have hd : decide (n < 0) = false := decide_eq_false hn
        have HO : Hid (R = some (afterI now n)) := Lib.hid (by rw [← HR2.out]; exact if_neg hn)
        clear hn HR2
        go_wp2_with fail
        refine (fafter_at now n _).mono ?_
        rintro e w9 ⟨rfl, hw⟩
        subst w9
        obtain ⟨af, haf⟩ : ∃ a, afterI now n = a := ⟨_, rfl⟩
        rw [haf] at HO ⊢
        clear haf
        go_wp2
        go_ret2
        exact ⟨by rw [HO.out]; rfl, HB5.out⟩
def retO (Y now : Int) (hs : HL) : Option Int := retF Y now (btL (strL (trL (btL (valH kRa hs)))))
set_option maxHeartbeats 4000000 in
theorem ffrom_at (st : Int) (sa : Option Addr) (g off c : Nat) (hs : HL) (hl : hs.length ≤ 1000000) (hz : ∀ x ∈ hs, x.1.size ≤ 1000000 ∧ x.2.size ≤ 1000000) (now Y : Int) (hY : YearIs (nowD (capI now / 1000)) Y) (w : World) (hT : TabD w) (hA : hs ≠ [] → HdAt w g off hs) (hSa : hs ≠ [] → sa = some ⟨g, off, none⟩) :
    Calls Tryz.prog 15 #[.int .i64 st, .slice sa hs.length c, .int .i64 now] w fun e w' => e = .returned (.agg #[.int .i64 (classI st), .int .i64 ((retO Y now hs).getD 0), .int .i64 ((resO now hs).getD 0)]) ∧ Below w.heap.size w w' := by
  have hA' : ∀ (W : World), Below w.heap.size w W → hs ≠ [] → HdAt W g off hs := fun W hW h => ⟨Nat.lt_of_lt_of_le (hA h).lt hW.size, fun i x hx => (hW.cell (hA h).lt).trans ((hA h).nm i x hx), fun i x hx => (hW.cell (hA h).lt).trans ((hA h).vl i x hx)⟩
  have V1 := Lib.hid (fun (W : World) (hW : Below w.heap.size w W) => fvalue_at sa g off c hs hl hz ⟨#[114, 101, 116, 114, 121, 45, 97, 102, 116, 101, 114]⟩ W (hA' W hW) hSa)
  have RS := Lib.hid (fun (W : World) (hW : Below w.heap.size w W) => freset_at sa g off c hs hl hz now W (hA' W hW) hSa)
  have hz1 := valH_size ⟨#[114, 101, 116, 114, 121, 45, 97, 102, 116, 101, 114]⟩ hs hz
  obtain ⟨v1, hv1⟩ : ∃ v, valH ⟨#[114, 101, 116, 114, 121, 45, 97, 102, 116, 101, 114]⟩ hs = v := ⟨_, rfl⟩
  have e1 : valB ⟨#[114, 101, 116, 114, 121, 45, 97, 102, 116, 101, 114]⟩ (bkL hs hs.length) = v1 := hv1
  rw [e1] at V1
  rw [hv1] at hz1
  have RT := Lib.hid (fun (W : World) (hW : Below w.heap.size w W) => fretry_at v1 (by omega) now Y hY W (hT.later hW))
  obtain ⟨a, ha⟩ : ∃ a, retF Y now (btL (strL (trL (btL v1)))) = a := ⟨_, rfl⟩
  obtain ⟨b, hb⟩ : ∃ b, resO now hs = b := ⟨_, rfl⟩
  have HRT : Hid (retO Y now hs = a) := Lib.hid (by unfold retO; rw [show valH kRa hs = v1 from hv1, ha])
  rw [ha] at RT
  rw [hb] at RS ⊢
  rw [HRT.out]
  clear ha hb hv1 e1 hz1 hl hz hA hSa hT hY hA' HRT
  obtain ⟨N, hN⟩ : ∃ N, hs.length = N := ⟨_, rfl⟩
  rw [hN] at V1 RS ⊢
  clear hN
  obtain ⟨cs, hcs⟩ : ∃ x, classI st = x := ⟨_, rfl⟩
  have CL := Lib.hid (fun W : World => fclass_at st W)
  rw [hcs] at CL ⊢
  clear hcs
  go_enter Tryz.func15, Tryz.ntmps15
  go_upto_region 1 with fail
  refine code_forget (fun W => Hid (Box W w.heap.size #[.int .i64 0, .int .i64 0, .int .i64 0] 25) ∧ Hid (Below w.heap.size w W)) ⟨Lib.hid (Box.new w _ _), Lib.hid ((Below.refl w.heap.size w).alloc (Nat.le_refl _) _)⟩ ?_
  obtain ⟨rb, hrb⟩ : ∃ x, w.heap.size = x := ⟨_, rfl⟩
  have HRB := Lib.hid hrb
  rintro w1 ⟨BX, HB1⟩
  rw [hrb] at BX ⊢
  clear hrb
  go_wp2_with fail
  refine (V1.out _ HB1.out).mono ?_
  rintro e w2 ⟨rfl, hb⟩
  have HB2 := Lib.hid (HB1.out.trans (hb.mono HB1.out.size))
  have BX2 := Lib.hid (BX.out.later hb)
  clear hb HB1 BX V1
  go_wp2_with fail
  refine (RT.out _ HB2.out).mono ?_
  rintro e w3 ⟨rfl, hb⟩
  have HB3 := Lib.hid (HB2.out.trans (hb.mono HB2.out.size))
  have BX3 := Lib.hid (BX2.out.later hb)
  clear hb HB2 BX2 RT
  obtain ⟨a0, ha0⟩ : ∃ x, a.getD 0 = x := ⟨_, rfl⟩
  obtain ⟨a1, ha1⟩ : ∃ x, a.isSome = x := ⟨_, rfl⟩
  rw [ha0, ha1]
  have HA0 := Lib.hid ha0
  clear ha0 ha1
  go_wp2_with fail
  refine (RS.out _ HB3.out).mono ?_
  rintro e w4 ⟨rfl, hb⟩
  have HB4 := Lib.hid (HB3.out.trans (hb.mono HB3.out.size))
  have BX4 := Lib.hid (BX3.out.later hb)
  clear hb HB3 BX3 RS
  obtain ⟨b0, hb0⟩ : ∃ x, b.getD 0 = x := ⟨_, rfl⟩
  obtain ⟨b1, hb1⟩ : ∃ x, b.isSome = x := ⟨_, rfl⟩
  rw [hb0, hb1]
  have HB0 := Lib.hid hb0
  clear hb0 hb1
  go_wp2_with fail
  refine (CL.out _).mono ?_
  rintro e w5 ⟨rfl, hw⟩
  subst w5
  have c0 := BX4.out.cell 0
  have c1 := BX4.out.cell 1
  have c2 := BX4.out.cell 2
  have f0 := BX4.out.free 0
  have f1 := BX4.out.free 1
  have f2 := BX4.out.free 2
  have l0 := BX4.out.lt
  go_wp2
  have BX5 := Lib.hid (((BX4.out.set 0 (.int .i64 cs)).set 1 (.int .i64 a0)).set 2 (.int .i64 b0))
  have hrw : w.heap.size ≤ rb := by rw [HRB.out]; exact Nat.le_refl _
  have HB6 := Lib.hid (((HB4.out.setCell (p := ⟨rb, 0, none⟩) hrw (.int .i64 cs)).setCell (p := ⟨rb, 1, none⟩) hrw (.int .i64 a0)).setCell (p := ⟨rb, 2, none⟩) hrw (.int .i64 b0))
  obtain ⟨w9, hw9⟩ : ∃ W, ((w4.setCell ⟨rb, 0, none⟩ (.int .i64 cs)).setCell ⟨rb, 1, none⟩ (.int .i64 a0)).setCell ⟨rb, 2, none⟩ (.int .i64 b0) = W := ⟨_, rfl⟩
  rw [hw9] at BX5 HB6 ⊢
  have s0 := BX5.out.cell 0
  have s1 := BX5.out.cell 1
  have s2 := BX5.out.cell 2
  exact bodyPost_ret (v := .agg #[.int .i64 cs, .int .i64 a0, .int .i64 b0]) (by simp [results, Tryz.results15, go_sem, s0, s1, s2]) rfl ⟨by rw [HA0.out, HB0.out], HB6.out⟩
end Go.Proofs.YtodibjpojfipoaaGreatDoor
