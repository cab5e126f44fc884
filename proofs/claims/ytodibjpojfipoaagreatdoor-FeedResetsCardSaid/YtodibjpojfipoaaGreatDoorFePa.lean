/- Package field: Param: the number of the last parameter of a key. -/
import Derived.Test.YtodibjpojfipoaaGreatDoorFeRet
import Derived.RangeFuncNested
import Derived.RangeFuncBound
import Derived.RangeFuncCalls
import Derived.RangeFuncLeaves
import Derived.WalkKit
import Derived.OwnWalkIn
import Derived.TacticsInMore
import Derived.LoopNIn
import Derived.LoopIn
import Derived.Shelf.Abstract
import Derived.Shelf.RegionOpen
import Derived.Stop.RegionWithIn
/- Package feed: the headers of a response, from the last. -/
namespace Go.Proofs.YtodibjpojfipoaaGreatDoor
open Go Go.RowKit
set_option linter.unusedVariables false
set_option linter.unusedSimpArgs false
set_option maxRecDepth 10000

def bkL {α : Type} (hs : List α) : Nat → List (Nat × α)
  | 0 => []
  | r + 1 => match hs[r]? with
    | some x => (r, x) :: bkL hs r
    | none => bkL hs r
theorem bkL_succ {α : Type} {hs : List α} {r : Nat} {x : α} (h : hs[r]? = some x) : bkL hs (r + 1) = (r, x) :: bkL hs r := by
  show (match hs[r]? with | some x => (r, x) :: bkL hs r | none => bkL hs r) = _
  rw [h]
theorem bkL_len {α : Type} {hs : List α} : ∀ r : Nat, r ≤ hs.length → (bkL hs r).length = r
  | 0, _ => rfl
  | r + 1, h => by
    rw [bkL_succ (List.getElem?_eq_getElem (by omega)), List.length_cons, bkL_len r (by omega)]
structure HdAt (w : World) (g off : Nat) (hs : List (ByteArray × ByteArray)) : Prop where
  lt : g < w.heap.size
  nm : ∀ i x, hs[i]? = some x → w.cell? ⟨g, off + i * 2, none⟩ = some (.string x.1)
  vl : ∀ i x, hs[i]? = some x → w.cell? ⟨g, off + i * 2 + 1, none⟩ = some (.string x.2)
attribute [local go_sem] Oper.semAt_some
abbrev HdX := { x : Nat × (ByteArray × ByteArray) // x.1 ≤ 1000000 ∧ x.2.1.size ≤ 1000000 ∧ x.2.2.size ≤ 1000000 }
def inM : Value → Nat
  | .int _ s => (s + 1).toNat
  | _ => 0
set_option maxRecDepth 100000 in
set_option maxHeartbeats 2000000 in
theorem backH_in (n : Nat) (hn : 1 ≤ n) (sa : Option Addr) (l Bn g off c : Nat) (hs : List (ByteArray × ByteArray)) (hl : hs.length ≤ 1000000) (hz : ∀ x ∈ hs, x.1.size ≤ 1000000 ∧ x.2.size ≤ 1000000) (J Jx : List HdX → World → Prop)
    (w0 W : World) (hW : Below w0.heap.size w0 W) (hA : hs ≠ [] → HdAt w0 g off hs) (hSa : hs ≠ [] → sa = some ⟨g, off, none⟩)
    (hY : ∀ pre x W, J pre W → pre.length < hs.length → YieldAt Fence.wide (n - 1) Tryz.prog l #[.int .i64 (x.1.1 : Int), .agg #[.string x.1.2.1, .string x.1.2.2]] W fun e W' =>
      (e = .returned (.bool true) ∧ J (pre ++ [x]) W' ∧ Below w0.heap.size W W') ∨ (e = .returned (.bool false) ∧ Jx (pre ++ [x]) W'))
    (hBn : w0.cell? ⟨Bn, 0, none⟩ = some (.slice sa hs.length c)) (hBl : Bn < w0.heap.size) (h0 : J [] W) :
    CallsIn Fence.wide n Tryz.prog 97 #[.func (.yield l) #[] #[], .pointer (some ⟨Bn, 0, none⟩)] W fun e W' => (∃ v, e = .returned v) ∧
      ((∃ ys, ys.map Subtype.val = bkL hs hs.length ∧ J ys W') ∨ (∃ pre, pre.map Subtype.val <+: bkL hs hs.length ∧ Jx pre W')) := by
  refine callsIn_of_wp Tryz.func97 rfl trivial ?_ rfl
  simp only [Tryz.ntmps97, List.size_toArray, List.length_cons, List.length_nil, Nat.reduceAdd, Nat.reduceSub, Array.replicate_succ, Array.replicate_zero, List.push_toArray, List.append_toArray, List.nil_append, List.cons_append]
  obtain ⟨m, hm⟩ : ∃ m, hs.length = m := ⟨_, rfl⟩
  have HM := Lib.hid hm
  rw [hm] at hBn hl
  have cB : W.cell? ⟨Bn, 0, none⟩ = some (.slice sa m c) := (hW.cell hBl).trans hBn
  have wm : IntKind.i64.wrap ((m : Int) - 1) = (m : Int) - 1 := by rw [IntKind.wrap_i64]; omega
  have HW := Lib.hid hW
  clear hW hm
  gi_wp2
  gi_loopw [3] (fun vn wr => ∃ (pre : List HdX) (r : Nat), vn = .int .i64 ((r : Int) - 1) ∧ r ≤ m ∧ Hid (pre.map Subtype.val ++ bkL hs r = bkL hs m) ∧ Hid (J pre wr) ∧ Hid (Below w0.heap.size w0 wr)) (fun vn _ => inM vn)
  case atStart => exact ⟨[], m, rfl, by omega, Lib.hid rfl, Lib.hid h0, HW⟩
  case round =>
    obtain ⟨pre, r, rfl, hr, HX, HJ, HB⟩ := hrel
    have cR : wr.cell? ⟨Bn, 0, none⟩ = some (.slice sa m c) := (HB.out.cell hBl).trans hBn
    clear cB
    cases r with
    | zero =>
      have HXX : Hid (pre.map Subtype.val = bkL hs m) := Lib.hid (by rw [← HX.out]; simp [bkL])
      gi_wp2
      go_end0
      exact ⟨⟨_, rfl⟩, .inl ⟨pre, by rw [HXX.out, HM.out], HJ.out⟩⟩
    | succ r =>
      have hlt : r < hs.length := by rw [HM.out]; omega
      obtain ⟨y, hy⟩ : ∃ y, hs[r]? = some y := ⟨_, List.getElem?_eq_getElem hlt⟩
      obtain ⟨x, hx⟩ : ∃ x : HdX, x.1 = (r, y) := ⟨⟨(r, y), ⟨by show r ≤ 1000000; omega, hz y (List.mem_of_getElem? hy)⟩⟩, rfl⟩
      have HX2 : Hid ((pre ++ [x]).map Subtype.val ++ bkL hs r = bkL hs m) := Lib.hid (by rw [← HX.out, bkL_succ hy]; simp [hx])
      have hne : hs ≠ [] := fun h => by rw [h] at hlt; simp at hlt
      have HA := hA hne
      rw [hSa hne] at cR
      have n1 : wr.cell? ⟨g, off + r * 2, none⟩ = some (.string y.1) := (HB.out.cell HA.lt).trans (HA.nm r y hy)
      have n2 : wr.cell? ⟨g, off + r * 2 + 1, none⟩ = some (.string y.2) := (HB.out.cell HA.lt).trans (HA.vl r y hy)
      have HYR := Lib.hid (hY pre x wr HJ.out (by
        have h9 := congrArg List.length HX2.out
        rw [List.length_append, List.length_map, List.length_append, bkL_len r (by omega), bkL_len m (by rw [HM.out]; omega)] at h9
        simp at h9
        rw [HM.out]
        omega))
      rw [hx] at HYR
      dsimp only at HYR
      have e1 : ((r + 1 : Nat) : Int) - 1 = (r : Int) := by omega
      have wr1 : IntKind.i64.wrap ((r : Int) - 1) = (r : Int) - 1 := by rw [IntKind.wrap_i64]; omega
      have wr0 : IntKind.i64.wrap (r : Int) = (r : Int) := by rw [IntKind.wrap_i64]; omega
      have g0 : decide ((0 : Int) ≤ (r : Int)) = true := decide_eq_true (by omega)
      have hrm : r < m := by omega
      clear hx hy hne HA hlt
      rw [e1]
      obtain ⟨fn, tmps, assign, body, hy, hRR⟩ := HYR.out
      gi_wp2
      refine hRR.mono ?_
      rintro e W3 (⟨rfl, hJ3, hb3⟩ | ⟨rfl, hJx3⟩)
      · have HJ3 := Lib.hid hJ3
        have HB3 := Lib.hid (HB.out.trans hb3)
        clear hJ3 hb3 HYR hy hRR n1 n2 cR
        gi_wp2
        go_roundw
        case rel => exact ⟨pre ++ [x], r, rfl, by omega, HX2, HJ3, HB3⟩
        case measure => simp [inM]
      · have HJX := Lib.hid hJx3
        clear hJx3 HYR hy hRR n1 n2 cR
        gi_wp2
        refine bodyPost_ret (results_none rfl _ _ _) rfl ?_
        exact ⟨⟨_, rfl⟩, .inr ⟨pre ++ [x], ⟨_, by rw [HM.out]; exact HX2.out⟩, HJX.out⟩⟩
end Go.Proofs.YtodibjpojfipoaaGreatDoor
/- Package feed: parameters, from the last. -/
namespace Go.Proofs.YtodibjpojfipoaaGreatDoor
open Go Go.RowKit
set_option linter.unusedVariables false
set_option linter.unusedSimpArgs false
set_option maxRecDepth 10000

structure PbAt (w : World) (g off : Nat) (hs : List PB) : Prop where
  lt : g < w.heap.size
  at_ : ∀ i x, hs[i]? = some x → ∀ j v, (pbL x)[j]? = some v → w.cell? ⟨g, off + i * 4 + j, none⟩ = some v
attribute [local go_sem] Oper.semAt_some
abbrev PbX := { x : Nat × PB // x.1 ≤ 1000000 }
set_option maxRecDepth 100000 in
set_option maxHeartbeats 2000000 in
theorem backPb_in (n : Nat) (hn : 1 ≤ n) (sa : Option Addr) (l Bn g off c : Nat) (hs : List PB) (hl : hs.length ≤ 1000000) (J Jx : List PbX → World → Prop)
    (w0 W : World) (hW : Below w0.heap.size w0 W) (hA : hs ≠ [] → PbAt w0 g off hs) (hSa : hs ≠ [] → sa = some ⟨g, off, none⟩)
    (hY : ∀ pre x W, J pre W → pre.length < hs.length → YieldAt Fence.wide (n - 1) Tryz.prog l #[.int .i64 (x.1.1 : Int), .agg #[.string x.1.2.key, .int .i64 x.1.2.v.k, .int .i64 x.1.2.v.n, .string x.1.2.v.s]] W fun e W' =>
      (e = .returned (.bool true) ∧ J (pre ++ [x]) W' ∧ Below w0.heap.size W W') ∨ (e = .returned (.bool false) ∧ Jx (pre ++ [x]) W'))
    (hBn : w0.cell? ⟨Bn, 0, none⟩ = some (.slice sa hs.length c)) (hBl : Bn < w0.heap.size) (h0 : J [] W) :
    CallsIn Fence.wide n Tryz.prog 118 #[.func (.yield l) #[] #[], .pointer (some ⟨Bn, 0, none⟩)] W fun e W' => (∃ v, e = .returned v) ∧
      ((∃ ys, ys.map Subtype.val = bkL hs hs.length ∧ J ys W') ∨ (∃ pre, pre.map Subtype.val <+: bkL hs hs.length ∧ Jx pre W')) := by
  refine callsIn_of_wp Tryz.func118 rfl trivial ?_ rfl
  simp only [Tryz.ntmps118, List.size_toArray, List.length_cons, List.length_nil, Nat.reduceAdd, Nat.reduceSub, Array.replicate_succ, Array.replicate_zero, List.push_toArray, List.append_toArray, List.nil_append, List.cons_append]
  obtain ⟨m, hm⟩ : ∃ m, hs.length = m := ⟨_, rfl⟩
  have HM := Lib.hid hm
  rw [hm] at hBn hl
  have cB : W.cell? ⟨Bn, 0, none⟩ = some (.slice sa m c) := (hW.cell hBl).trans hBn
  have wm : IntKind.i64.wrap ((m : Int) - 1) = (m : Int) - 1 := by rw [IntKind.wrap_i64]; omega
  have HW := Lib.hid hW
  clear hW hm
  gi_wp2
  gi_loopw [3] (fun vn wr => ∃ (pre : List PbX) (r : Nat), vn = .int .i64 ((r : Int) - 1) ∧ r ≤ m ∧ Hid (pre.map Subtype.val ++ bkL hs r = bkL hs m) ∧ Hid (J pre wr) ∧ Hid (Below w0.heap.size w0 wr)) (fun vn _ => inM vn)
  case atStart => exact ⟨[], m, rfl, by omega, Lib.hid rfl, Lib.hid h0, HW⟩
  case round =>
    obtain ⟨pre, r, rfl, hr, HX, HJ, HB⟩ := hrel
    have cR : wr.cell? ⟨Bn, 0, none⟩ = some (.slice sa m c) := (HB.out.cell hBl).trans hBn
    clear cB
    cases r with
    | zero =>
      have HXX : Hid (pre.map Subtype.val = bkL hs m) := Lib.hid (by rw [← HX.out]; simp [bkL])
      gi_wp2
      go_end0
      exact ⟨⟨_, rfl⟩, .inl ⟨pre, by rw [HXX.out, HM.out], HJ.out⟩⟩
    | succ r =>
      have hlt : r < hs.length := by rw [HM.out]; omega
      obtain ⟨y, hy⟩ : ∃ y, hs[r]? = some y := ⟨_, List.getElem?_eq_getElem hlt⟩
      obtain ⟨x, hx⟩ : ∃ x : PbX, x.1 = (r, y) := ⟨⟨(r, y), by show r ≤ 1000000; omega⟩, rfl⟩
      have HX2 : Hid ((pre ++ [x]).map Subtype.val ++ bkL hs r = bkL hs m) := Lib.hid (by rw [← HX.out, bkL_succ hy]; simp [hx])
      have hne : hs ≠ [] := fun h => by rw [h] at hlt; simp at hlt
      have HA := hA hne
      rw [hSa hne] at cR
      have n1 : wr.cell? ⟨g, off + r * 4, none⟩ = some (.string y.key) := (HB.out.cell HA.lt).trans (HA.at_ r y hy 0 _ rfl)
      have n2 : wr.cell? ⟨g, off + r * 4 + 1, none⟩ = some (.int .i64 y.v.k) := (HB.out.cell HA.lt).trans (HA.at_ r y hy 1 _ rfl)
      have n3 : wr.cell? ⟨g, off + r * 4 + 2, none⟩ = some (.int .i64 y.v.n) := (HB.out.cell HA.lt).trans (HA.at_ r y hy 2 _ rfl)
      have n4 : wr.cell? ⟨g, off + r * 4 + 3, none⟩ = some (.string y.v.s) := (HB.out.cell HA.lt).trans (HA.at_ r y hy 3 _ rfl)
      have HYR := Lib.hid (hY pre x wr HJ.out (by
        have h9 := congrArg List.length HX2.out
        rw [List.length_append, List.length_map, List.length_append, bkL_len r (by omega), bkL_len m (by rw [HM.out]; omega)] at h9
        simp at h9
        rw [HM.out]
        omega))
      rw [hx] at HYR
      dsimp only at HYR
      have e1 : ((r + 1 : Nat) : Int) - 1 = (r : Int) := by omega
      have wr1 : IntKind.i64.wrap ((r : Int) - 1) = (r : Int) - 1 := by rw [IntKind.wrap_i64]; omega
      have wr0 : IntKind.i64.wrap (r : Int) = (r : Int) := by rw [IntKind.wrap_i64]; omega
      have g0 : decide ((0 : Int) ≤ (r : Int)) = true := decide_eq_true (by omega)
      have hrm : r < m := by omega
      clear hx hy hne HA hlt
      rw [e1]
      obtain ⟨fn, tmps, assign, body, hy, hRR⟩ := HYR.out
      gi_wp2
      refine hRR.mono ?_
      rintro e W3 (⟨rfl, hJ3, hb3⟩ | ⟨rfl, hJx3⟩)
      · have HJ3 := Lib.hid hJ3
        have HB3 := Lib.hid (HB.out.trans hb3)
        clear hJ3 hb3 HYR hy hRR n1 n2 n3 n4 cR
        gi_wp2
        go_roundw
        case rel => exact ⟨pre ++ [x], r, rfl, by omega, HX2, HJ3, HB3⟩
        case measure => simp [inM]
      · have HJX := Lib.hid hJx3
        clear hJx3 HYR hy hRR n1 n2 n3 n4 cR
        gi_wp2
        refine bodyPost_ret (results_none rfl _ _ _) rfl ?_
        exact ⟨⟨_, rfl⟩, .inr ⟨pre ++ [x], ⟨_, by rw [HM.out]; exact HX2.out⟩, HJX.out⟩⟩
end Go.Proofs.YtodibjpojfipoaaGreatDoor
/- Package feed: items, from the last. -/
namespace Go.Proofs.YtodibjpojfipoaaGreatDoor
open Go Go.RowKit
set_option linter.unusedVariables false
set_option linter.unusedSimpArgs false
set_option maxRecDepth 10000

structure IxAt (w : World) (g off : Nat) (hs : List IX) : Prop where
  lt : g < w.heap.size
  at_ : ∀ i x, hs[i]? = some x → ∀ j v, (ixL x)[j]? = some v → w.cell? ⟨g, off + i * 5 + j, none⟩ = some v
attribute [local go_sem] Oper.semAt_some
abbrev IxX := { x : Nat × IX // x.1 ≤ 1000000 }
set_option maxRecDepth 100000 in
set_option maxHeartbeats 2000000 in
theorem backIx_in (n : Nat) (hn : 1 ≤ n) (sa : Option Addr) (l Bn g off c : Nat) (hs : List IX) (hl : hs.length ≤ 1000000) (J Jx : List IxX → World → Prop)
    (w0 W : World) (hW : Below w0.heap.size w0 W) (hA : hs ≠ [] → IxAt w0 g off hs) (hSa : hs ≠ [] → sa = some ⟨g, off, none⟩)
    (hY : ∀ pre x W, J pre W → pre.length < hs.length → YieldAt Fence.wide (n - 1) Tryz.prog l #[.int .i64 (x.1.1 : Int), .agg #[.string x.1.2.k.key, .int .i64 x.1.2.k.v.k, .int .i64 x.1.2.k.v.n, .string x.1.2.k.v.s, .slice x.1.2.a x.1.2.n x.1.2.cap]] W fun e W' =>
      (e = .returned (.bool true) ∧ J (pre ++ [x]) W' ∧ Below w0.heap.size W W') ∨ (e = .returned (.bool false) ∧ Jx (pre ++ [x]) W'))
    (hBn : w0.cell? ⟨Bn, 0, none⟩ = some (.slice sa hs.length c)) (hBl : Bn < w0.heap.size) (h0 : J [] W) :
    CallsIn Fence.wide n Tryz.prog 117 #[.func (.yield l) #[] #[], .pointer (some ⟨Bn, 0, none⟩)] W fun e W' => (∃ v, e = .returned v) ∧
      ((∃ ys, ys.map Subtype.val = bkL hs hs.length ∧ J ys W') ∨ (∃ pre, pre.map Subtype.val <+: bkL hs hs.length ∧ Jx pre W')) := by
  refine callsIn_of_wp Tryz.func117 rfl trivial ?_ rfl
  simp only [Tryz.ntmps117, List.size_toArray, List.length_cons, List.length_nil, Nat.reduceAdd, Nat.reduceSub, Array.replicate_succ, Array.replicate_zero, List.push_toArray, List.append_toArray, List.nil_append, List.cons_append]
  obtain ⟨m, hm⟩ : ∃ m, hs.length = m := ⟨_, rfl⟩
  have HM := Lib.hid hm
  rw [hm] at hBn hl
  have cB : W.cell? ⟨Bn, 0, none⟩ = some (.slice sa m c) := (hW.cell hBl).trans hBn
  have wm : IntKind.i64.wrap ((m : Int) - 1) = (m : Int) - 1 := by rw [IntKind.wrap_i64]; omega
  have HW := Lib.hid hW
  clear hW hm
  gi_wp2
  gi_loopw [3] (fun vn wr => ∃ (pre : List IxX) (r : Nat), vn = .int .i64 ((r : Int) - 1) ∧ r ≤ m ∧ Hid (pre.map Subtype.val ++ bkL hs r = bkL hs m) ∧ Hid (J pre wr) ∧ Hid (Below w0.heap.size w0 wr)) (fun vn _ => inM vn)
  case atStart => exact ⟨[], m, rfl, by omega, Lib.hid rfl, Lib.hid h0, HW⟩
  case round =>
    obtain ⟨pre, r, rfl, hr, HX, HJ, HB⟩ := hrel
    have cR : wr.cell? ⟨Bn, 0, none⟩ = some (.slice sa m c) := (HB.out.cell hBl).trans hBn
    clear cB
    cases r with
    | zero =>
      have HXX : Hid (pre.map Subtype.val = bkL hs m) := Lib.hid (by rw [← HX.out]; simp [bkL])
      gi_wp2
      go_end0
      exact ⟨⟨_, rfl⟩, .inl ⟨pre, by rw [HXX.out, HM.out], HJ.out⟩⟩
    | succ r =>
      have hlt : r < hs.length := by rw [HM.out]; omega
      obtain ⟨y, hy⟩ : ∃ y, hs[r]? = some y := ⟨_, List.getElem?_eq_getElem hlt⟩
      obtain ⟨x, hx⟩ : ∃ x : IxX, x.1 = (r, y) := ⟨⟨(r, y), by show r ≤ 1000000; omega⟩, rfl⟩
      have HX2 : Hid ((pre ++ [x]).map Subtype.val ++ bkL hs r = bkL hs m) := Lib.hid (by rw [← HX.out, bkL_succ hy]; simp [hx])
      have hne : hs ≠ [] := fun h => by rw [h] at hlt; simp at hlt
      have HA := hA hne
      rw [hSa hne] at cR
      have n1 : wr.cell? ⟨g, off + r * 5, none⟩ = some (.string y.k.key) := (HB.out.cell HA.lt).trans (HA.at_ r y hy 0 _ rfl)
      have n2 : wr.cell? ⟨g, off + r * 5 + 1, none⟩ = some (.int .i64 y.k.v.k) := (HB.out.cell HA.lt).trans (HA.at_ r y hy 1 _ rfl)
      have n3 : wr.cell? ⟨g, off + r * 5 + 2, none⟩ = some (.int .i64 y.k.v.n) := (HB.out.cell HA.lt).trans (HA.at_ r y hy 2 _ rfl)
      have n4 : wr.cell? ⟨g, off + r * 5 + 3, none⟩ = some (.string y.k.v.s) := (HB.out.cell HA.lt).trans (HA.at_ r y hy 3 _ rfl)
      have n5 : wr.cell? ⟨g, off + r * 5 + 4, none⟩ = some (.slice y.a y.n y.cap) := (HB.out.cell HA.lt).trans (HA.at_ r y hy 4 _ rfl)
      have HYR := Lib.hid (hY pre x wr HJ.out (by
        have h9 := congrArg List.length HX2.out
        rw [List.length_append, List.length_map, List.length_append, bkL_len r (by omega), bkL_len m (by rw [HM.out]; omega)] at h9
        simp at h9
        rw [HM.out]
        omega))
      rw [hx] at HYR
      dsimp only at HYR
      have e1 : ((r + 1 : Nat) : Int) - 1 = (r : Int) := by omega
      have wr1 : IntKind.i64.wrap ((r : Int) - 1) = (r : Int) - 1 := by rw [IntKind.wrap_i64]; omega
      have wr0 : IntKind.i64.wrap (r : Int) = (r : Int) := by rw [IntKind.wrap_i64]; omega
      have g0 : decide ((0 : Int) ≤ (r : Int)) = true := decide_eq_true (by omega)
      have hrm : r < m := by omega
      clear hx hy hne HA hlt
      rw [e1]
      obtain ⟨fn, tmps, assign, body, hy, hRR⟩ := HYR.out
      gi_wp2
      refine hRR.mono ?_
      rintro e W3 (⟨rfl, hJ3, hb3⟩ | ⟨rfl, hJx3⟩)
      · have HJ3 := Lib.hid hJ3
        have HB3 := Lib.hid (HB.out.trans hb3)
        clear hJ3 hb3 HYR hy hRR n1 n2 n3 n4 n5 cR
        gi_wp2
        go_roundw
        case rel => exact ⟨pre ++ [x], r, rfl, by omega, HX2, HJ3, HB3⟩
        case measure => simp [inM]
      · have HJX := Lib.hid hJx3
        clear hJx3 HYR hy hRR n1 n2 n3 n4 n5 cR
        gi_wp2
        refine bodyPost_ret (results_none rfl _ _ _) rfl ?_
        exact ⟨⟨_, rfl⟩, .inr ⟨pre ++ [x], ⟨_, by rw [HM.out]; exact HX2.out⟩, HJX.out⟩⟩
end Go.Proofs.YtodibjpojfipoaaGreatDoor
/- Package feed: value: the last header of a name. -/
namespace Go.Proofs.YtodibjpojfipoaaGreatDoor
open Go Go.RowKit Go.Shelf
set_option linter.unusedVariables false
set_option linter.unusedSimpArgs false
set_option maxRecDepth 10000

theorem backH_at (a : Option Addr) (n c : Nat) (w : World) :
    Calls Tryz.prog 59 #[.slice a n c] w fun e w' => e = .returned (.func (.func 97) #[] #[.pointer (some ⟨w.heap.size, 0, none⟩)]) ∧ w' = w.alloc (.cells #[.slice a n c] 31) := by
  have hmf : ∀ (fn : Fn) (first cap : Array Value) (w : World), (Instr.makeFunc fn first cap).run Tryz.prog w = .ok (.func fn first cap) w := fun _ _ _ _ => rfl
  go_enter Tryz.func59, Tryz.ntmps59
  go_wp2
  go_ret
  exact ⟨rfl, rfl⟩
theorem backH_stops (n : Nat) (hn : 1 ≤ n) (sa : Option Addr) (Bn g off c : Nat) (hs : List (ByteArray × ByteArray)) (hl : hs.length ≤ 1000000) (hz : ∀ x ∈ hs, x.1.size ≤ 1000000 ∧ x.2.size ≤ 1000000) (w : World) (hA : hs ≠ [] → HdAt w g off hs) (hSa : hs ≠ [] → sa = some ⟨g, off, none⟩) (hBn : w.cell? ⟨Bn, 0, none⟩ = some (.slice sa hs.length c)) (hBl : Bn < w.heap.size) :
    SeqStopsK Fence.wide n Tryz.prog 97 #[.pointer (some ⟨Bn, 0, none⟩)] (fun x : HdX => #[.int .i64 (x.1.1 : Int), .agg #[.string x.1.2.1, .string x.1.2.2]]) (Below w.heap.size) (fun ys => ys.map Subtype.val = bkL hs hs.length) (fun pre => pre.map Subtype.val <+: bkL hs hs.length) hs.length w := fun l J Jx W hW hJ _ hY h0 =>
  backH_in n hn sa l Bn g off c hs hl hz J Jx w W hW hA hSa hY hBn hBl h0
theorem neq_toListV {x y : ByteArray} (h : x ≠ y) : (x.toList == y.toList) = false := by
  rw [ByteArray.toList_eq, ByteArray.toList_eq]
  simp only [beq_eq_false_iff_ne, ne_eq]
  intro e
  exact h (ByteArray.ext (Array.toList_inj.1 e))
theorem eq_of_toList {a b : ByteArray} (h : (a.toList == b.toList) = true) : a = b := by
  by_cases he : a = b
  · exact he
  · have := neq_toListV he
    rw [h] at this
    cases this
def valB (k : ByteArray) : List (Nat × (ByteArray × ByteArray)) → ByteArray
  | [] => ByteArray.empty
  | x :: r => if lowB x.2.1 = k then strL (trL (btL x.2.2)) else valB k r
theorem valB_none {k : ByteArray} : ∀ {L : List (Nat × (ByteArray × ByteArray))}, (∀ z ∈ L, lowB z.2.1 ≠ k) → valB k L = ByteArray.empty
  | [], _ => rfl
  | x :: r, h => by
    unfold valB
    rw [if_neg (h x (by simp))]
    exact valB_none (fun z hz => h z (by simp [hz]))
theorem valB_yes {k : ByteArray} : ∀ {L : List (Nat × (ByteArray × ByteArray))} {x : Nat × (ByteArray × ByteArray)} {r : List (Nat × (ByteArray × ByteArray))}, (∀ z ∈ L, lowB z.2.1 ≠ k) → lowB x.2.1 = k → valB k (L ++ x :: r) = strL (trL (btL x.2.2))
  | [], x, r, _, hx => by
    rw [List.nil_append]
    unfold valB
    rw [if_pos hx]
  | y :: t, x, r, h, hx => by
    rw [List.cons_append]
    unfold valB
    rw [if_neg (h y (by simp))]
    exact valB_yes (fun z hz => h z (by simp [hz])) hx
theorem box_keptV {W W' : World} {b B : Nat} {cs : Array Value} {t : TypeId} {row : Option Nat} (h : Box W b cs t) (hg : W.grownBy W' row) (hr : ∀ r, row = some r → B ≤ r ∧ ∃ o : Obj, W.heap[r]? = some o ∧ o.isCells = false) : Box W' b cs t := by
  refine (hg.block b h.lt (fun e => ?_)).trans h
  obtain ⟨_, o, ho, hc⟩ := hr b e.symm
  have h2 : W.heap[b]? = some (.cells cs t (0, 0)) := h
  rw [h2] at ho
  injection ho with ho
  subst ho
  cases hc
structure VaI (w : World) (k : ByteArray) (r3 r4 : Nat) (pre : List HdX) (W : World) : Prop where
  no : ∀ z ∈ pre, lowB z.1.2.1 ≠ k
  b3 : Box W r3 #[.string k] 9
  b4 : Box W r4 #[.string ByteArray.empty] 9
  bel : Below w.heap.size w W
structure VaX (w : World) (k : ByteArray) (r4 : Nat) (pre : List HdX) (W : World) : Prop where
  yes : ∃ p x, pre = p ++ [x] ∧ (∀ z ∈ p, lowB z.1.2.1 ≠ k) ∧ lowB x.1.2.1 = k ∧ Box W r4 #[.string (strL (trL (btL x.1.2.2)))] 9
  bel : Below w.heap.size w W
structure VaA (w : World) (v : Value) (k : ByteArray) (n c r3 r4 sb : Nat) (x : HdX) (a : Act) (W : World) : Prop where
  ex : ∃ b, w.heap.size ≤ b ∧ r4 < b ∧ Box W b #[.string x.1.2.1, .string x.1.2.2] 37 ∧
    a = { tmps := #[v, .string k, undef, .pointer (some ⟨r3, 0, none⟩), .pointer (some ⟨r4, 0, none⟩), undef, .pointer (some ⟨b, 0, none⟩), v, .func (.func 97) #[] #[.pointer (some ⟨sb, 0, none⟩)], .int .i64 (x.1.1 : Int), .agg #[.string x.1.2.1, .string x.1.2.2], undef, undef, undef, undef, undef, undef, undef, undef], defers := [] }
theorem VaI.kept {w : World} {k : ByteArray} {r3 r4 B : Nat} {pre : List HdX} {W W' : World} {row : Option Nat} (hB : w.heap.size ≤ B) (h : VaI w k r3 r4 pre W) (hg : W.grownBy W' row) (hr : ∀ r, row = some r → B ≤ r ∧ ∃ o : Obj, W.heap[r]? = some o ∧ o.isCells = false) : VaI w k r3 r4 pre W' :=
  ⟨h.no, box_keptV h.b3 hg hr, box_keptV h.b4 hg hr, h.bel.grown hg h.bel.size (fun k hk => Nat.le_trans hB (hr k hk).1)⟩
theorem VaI.below {w : World} {k : ByteArray} {r3 r4 : Nat} {pre : List HdX} {W W' : World} (h : VaI w k r3 r4 pre W) (hb : Below W.heap.size W W') : VaI w k r3 r4 pre W' := ⟨h.no, h.b3.later hb, h.b4.later hb, h.bel.trans (hb.mono h.bel.size)⟩
theorem VaX.kept {w : World} {k : ByteArray} {r4 B : Nat} {pre : List HdX} {W W' : World} {row : Option Nat} (hB : w.heap.size ≤ B) (h : VaX w k r4 pre W) (hg : W.grownBy W' row) (hr : ∀ r, row = some r → B ≤ r ∧ ∃ o : Obj, W.heap[r]? = some o ∧ o.isCells = false) : VaX w k r4 pre W' :=
  ⟨by obtain ⟨p, x, e, h1, h2, h3⟩ := h.yes; exact ⟨p, x, e, h1, h2, box_keptV h3 hg hr⟩, h.bel.grown hg h.bel.size (fun k hk => Nat.le_trans hB (hr k hk).1)⟩
theorem VaA.kept {w : World} {v : Value} {k : ByteArray} {n c r3 r4 sb B : Nat} {x : HdX} {a : Act} {W W' : World} {row : Option Nat} (h : VaA w v k n c r3 r4 sb x a W) (hg : W.grownBy W' row) (hr : ∀ r, row = some r → B ≤ r ∧ ∃ o : Obj, W.heap[r]? = some o ∧ o.isCells = false) : VaA w v k n c r3 r4 sb x a W' := by
  obtain ⟨b, h1, h2, h3, h4⟩ := h.ex
  exact ⟨b, h1, h2, box_keptV h3 hg hr, h4⟩
theorem codeIn_forgetV {P : Program} {F : Fence} {n : Nat} {c : Code} {Q : Exit → Act → World → Prop} {a : Act} {w : World} (S : World → Prop) (h : S w) (k : ∀ w', S w' → Code.wpIn F n P c Q a w') : Code.wpIn F n P c Q a w := k w h
theorem keeps_belowV {W W' : World} (h : Below W.heap.size W W') : KeepsOthers W W' := ⟨h.size, fun k o hk _ => (h.block k (Array.getElem?_eq_some_iff.1 hk).1).trans hk⟩
attribute [local go_sem] Oper.semAt_some
set_option maxRecDepth 100000 in
set_option maxHeartbeats 4000000 in
theorem fvalue_at (sa : Option Addr) (g off c : Nat) (hs : List (ByteArray × ByteArray)) (hl : hs.length ≤ 1000000) (hz : ∀ x ∈ hs, x.1.size ≤ 1000000 ∧ x.2.size ≤ 1000000) (k : ByteArray) (w : World) (hA : hs ≠ [] → HdAt w g off hs) (hSa : hs ≠ [] → sa = some ⟨g, off, none⟩) :
    Calls Tryz.prog 29 #[.slice sa hs.length c, .string k] w fun e w' => e = .returned (.string (valB k (bkL hs hs.length))) ∧ Below w.heap.size w w' := by
  refine (callsIn_wide (n := 9)).1 ?_
  refine callsIn_of_wp_marks Tryz.func29 rfl trivial ?_ rfl
  simp only [Tryz.ntmps29, List.size_toArray, List.length_cons, List.length_nil, Nat.reduceAdd, Nat.reduceSub, Array.replicate_succ, Array.replicate_zero, List.push_toArray, List.append_toArray, List.nil_append, List.cons_append]
  gi_wp2_with fail
  refine ⟨trivial, ?_⟩
  refine (callsIn_wide.2 (backH_at _ _ _ _)).mono ?_
  rintro e w' ⟨rfl, rfl⟩
  gi_wp2
  refine codeIn_forgetV (fun W => Hid (VaI w k w.heap.size (w.heap.size + 1) [] W) ∧ Hid (W.cell? ⟨w.heap.size + 1 + 1, 0, none⟩ = some (.slice sa hs.length c) ∧ w.heap.size + 1 + 1 < W.heap.size)) ⟨Lib.hid ⟨fun z hz => (by cases hz), ?_, ?_, ?_⟩, Lib.hid ⟨?_, ?_⟩⟩ ?_
  · exact ((Box.new w _ _).alloc _).alloc _
  · have h := Box.new (w.alloc (.cells #[.string k] 9)) #[.string ⟨#[]⟩] 9
    rw [World.size_alloc] at h
    exact h.alloc _
  · exact (((Below.refl _ w).alloc (Nat.le_refl _) _).alloc (by simp) _).alloc (by simp; omega) _
  · have h := Box.new ((w.alloc (.cells #[.string k] 9)).alloc (.cells #[.string ⟨#[]⟩] 9)) #[.slice sa hs.length c] 31
    rw [World.size_alloc, World.size_alloc] at h
    rw [h.cell 0]
    rfl
  · simp
  obtain ⟨r3, hr3⟩ : ∃ b, w.heap.size = b := ⟨_, rfl⟩
  obtain ⟨r4, hr4⟩ : ∃ b, r3 + 1 = b := ⟨_, rfl⟩
  obtain ⟨sb, hsb⟩ : ∃ b, r4 + 1 = b := ⟨_, rfl⟩
  have HNE : Hid (w.heap.size = r3 ∧ r3 + 1 = r4 ∧ r4 + 1 = sb) := Lib.hid ⟨hr3, hr4, hsb⟩
  rw [hr3, hr4, hsb]
  clear hr3 hr4 hsb
  rintro w1 ⟨H0, HS⟩
  have hA1 : hs ≠ [] → HdAt w1 g off hs := fun h => ⟨Nat.lt_of_lt_of_le (hA h).lt H0.out.bel.size, fun i x hx => (H0.out.bel.cell (hA h).lt).trans ((hA h).nm i x hx), fun i x hx => (H0.out.bel.cell (hA h).lt).trans ((hA h).vl i x hx)⟩
  refine wpIn_rangeFunc_ownH rfl (by omega) (gf := 97) (lb := #[.pointer (some ⟨sb, 0, none⟩)]) rfl trivial (enters_of Tryz.func97 (by kernel_rfl) rfl)
    (backH_stops (9 - 1) (by omega) sa sb g off c hs hl hz w1 hA1 hSa HS.out.1 HS.out.2) belowK_t (belowK_b (Nat.le_refl _)) (Below.refl _ _) (fun _ => rfl)
    (fun pre W => VaI w k r3 r4 pre W ∧ w1.heap.size ≤ W.heap.size) (fun c pre W => c = .ret ∧ VaX w k r4 pre W)
    (fun pre A B row hs hg hr => ⟨hs.1.kept H0.out.bel.size hg hr, Nat.le_trans hs.2 hg.size⟩)
    (fun cc pre A B row hs hg hr => ⟨hs.1, hs.2.kept H0.out.bel.size hg hr⟩) ⟨H0.out, Nat.le_refl _⟩
    (VaA w (.slice sa hs.length c) k hs.length c r3 r4 sb) (fun x a' u A B row hs hg hr => hs.kept hg hr) ?assign ?body ?done ?stop
  case assign =>
    rintro l pre x W K ⟨hI, hsz⟩ hK
    have HI := Lib.hid hI
    have HK := Lib.hid hK
    have HZ := Lib.hid hsz
    clear hI hK hsz
    gi_wp2
    refine HK.out _ _ ((keeps_belowV ((Below.refl _ _).alloc (Nat.le_refl _) _)).from _) ((Below.refl _ W).alloc HZ.out _) ⟨HI.out.kept (B := w.heap.size) (row := none) (Nat.le_refl _) (World.grownBy_alloc W _ none) (fun r e => by cases e), by rw [World.size_alloc]; have := HZ.out; omega⟩ ?_
    exact ⟨⟨W.heap.size, HI.out.bel.size, HI.out.b4.lt, Box.new W _ _, rfl⟩⟩
  case body =>
    rintro l pre x a' W hl9 _ ⟨hI, hsz⟩ hA9 hlen
    obtain ⟨b, hb1, hb2, hbx, rfl⟩ := hA9.ex
    have hxz := x.2
    obtain ⟨xi, hxi⟩ : ∃ v : Int, (x.1.1 : Int) = v := ⟨_, rfl⟩
    obtain ⟨xn, hxn⟩ : ∃ v, x.1.2.1 = v := ⟨_, rfl⟩
    obtain ⟨xv, hxv⟩ : ∃ v, x.1.2.2 = v := ⟨_, rfl⟩
    rw [hxn, hxv] at hxz hbx
    rw [hxi, hxn, hxv]
    have HXN := Lib.hid hxn
    have HXV := Lib.hid hxv
    have HI := Lib.hid hI
    have HZ := Lib.hid hsz
    have HBX := Lib.hid hbx
    obtain ⟨t, ht⟩ : ∃ t, lowB xn = t := ⟨_, rfl⟩
    have HT := Lib.hid ht
    have LW := Lib.hid (fun W : World => lower_at xn t ht (by omega) W)
    have TR := Lib.hid (fun W : World => ftrimmed_at xv (by omega) W)
    have c3 := hI.b3.cell 0
    have x0 := hbx.cell 0
    have x1 := hbx.cell 1
    clear hI hsz hA9 hxi hxn hxv ht hbx hlen
    gi_wp2_with fail
    gi_region_with (refine ⟨trivial, ?_⟩; refine (CallsIn.inRound l (callsIn_wide.2 (LW.out _))).mono ?_; rintro e w4 ⟨rfl, hb⟩; have HB4 := Lib.hid hb; clear hb; have y3 := (HI.out.b3.drew.later HB4.out).cell 0)
    all_goals
      have HBW : Hid (Below W.heap.size W w4) := Lib.hid (((Below.refl W.heap.size W).drew).trans (HB4.out.mono (Nat.le_refl _)))
      have HI4 := Lib.hid (HI.out.below HBW.out)
      have HBX4 := Lib.hid (HBX.out.later HBW.out)
      clear HB4 HI c3 x0 x1 y3
      cases hq : (t.toList == k.toList) with
      | true =>
        have HQ : Hid (t = k) := Lib.hid (eq_of_toList hq)
        have x1 := HBX4.out.cell 1
        clear hq
        gi_wp2_with fail
        refine ⟨trivial, ?_⟩
        refine (CallsIn.inRound l (callsIn_wide.2 (TR.out _))).mono ?_
        rintro e w5 ⟨rfl, hb⟩
        have HI5 := Lib.hid (HI4.out.below hb)
        have HB5 := Lib.hid (HBW.out.trans (hb.mono HBW.out.size))
        have c4 := HI5.out.b4.cell 0
        have f4 := HI5.out.b4.free 0
        have l4 := HI5.out.b4.lt
        clear hb x1 HI4 HBW
        gi_wp2
        refine ⟨((keeps_belowV HB5.out).trans (KeepsOthers.setCell _ _ _)).from _, rfl, ⟨⟨pre, x, rfl, HI5.out.no, by rw [HXN.out, HT.out]; exact HQ.out, ?_⟩, HI5.out.bel.setCell (p := ⟨r4, 0, none⟩) (show w.heap.size ≤ r4 by have := HNE.out; omega) _⟩⟩
        rw [HXV.out]
        exact HI5.out.b4.set 0 _
      | false =>
        have HQ : Hid (t ≠ k) := Lib.hid (fun h => by rw [h] at hq; simp at hq)
        clear hq
        gi_wp2
        exact ⟨(keeps_belowV HBW.out).from _, HBW.out.mono HZ.out, ⟨⟨fun z hz => by
          rcases List.mem_append.1 hz with hz | hz
          · exact HI4.out.no z hz
          · rw [List.mem_singleton] at hz
            rw [hz, HXN.out, HT.out]
            exact HQ.out, HI4.out.b3, HI4.out.b4, HI4.out.bel⟩, Nat.le_trans HZ.out HBW.out.size⟩⟩
  case done =>
    rintro D xs W hD hS ⟨hI, hsz⟩ hK
    have HI := Lib.hid hI
    have HK := Lib.hid hK
    have c4 := hI.b4.cell 0
    have f4 := hI.b4.free 0
    have l4 := hI.b4.lt
    clear hI hK
    gi_wp2
    have hK2 : (W.setCell ⟨r4, 0, none⟩ (.string ⟨#[]⟩)).heap[D]? = some (.deferred (some [])) := (KeepsOthers.setCell W ⟨r4, 0, none⟩ (.string ⟨#[]⟩)).same D _ HK.out rfl
    have hg := grownBy_putObj' (W.setCell ⟨r4, 0, none⟩ (.string ⟨#[]⟩)) D (.deferred none)
    have hr : ∀ r, some D = some r → w1.heap.size ≤ r ∧ ∃ o : Obj, (W.setCell ⟨r4, 0, none⟩ (.string ⟨#[]⟩)).heap[r]? = some o ∧ o.isCells = false := fun r e => by
      injection e with e
      subst e
      exact ⟨hD, _, hK2, rfl⟩
    have g4 := box_keptV (B := w1.heap.size) (HI.out.b4.set 0 (.string ⟨#[]⟩)) hg hr
    have hb := (HI.out.bel.setCell (p := ⟨r4, 0, none⟩) (show w.heap.size ≤ r4 by have := HNE.out; omega) (.string ⟨#[]⟩)).grown hg (by rw [World.size_setCell]; exact HI.out.bel.size) (fun k hk => Nat.le_trans H0.out.bel.size (hr k hk).1)
    refine ⟨by simp, .inl ⟨_, _, rfl, run_takeDeferred hK2, ?_⟩⟩
    have s4 := g4.cell 0
    have hv : valB k (bkL hs hs.length) = ByteArray.empty := by
      rw [← hS]
      refine valB_none (fun z hz => ?_)
      obtain ⟨y, hy, rfl⟩ := List.mem_map.1 hz
      exact HI.out.no y hy
    rw [hv]
    exact ⟨.string ⟨#[]⟩, by simp [results, Tryz.results29, go_sem, s4], rfl, hb⟩
  case stop =>
    rintro D c pre W hD hSp ⟨rfl, hX⟩ hK
    have HX := Lib.hid hX
    have HK := Lib.hid hK
    obtain ⟨p, x, hpre, hall, hyes, hb4⟩ := hX.yes
    clear hX hK
    gi_wp2
    have hg := grownBy_putObj' W D (.deferred none)
    have hr : ∀ r, some D = some r → w1.heap.size ≤ r ∧ ∃ o : Obj, W.heap[r]? = some o ∧ o.isCells = false := fun r e => by
      injection e with e
      subst e
      exact ⟨hD, _, HK.out, rfl⟩
    have g4 := box_keptV (B := w1.heap.size) hb4 hg hr
    have hb := HX.out.bel.grown hg HX.out.bel.size (fun k hk => Nat.le_trans H0.out.bel.size (hr k hk).1)
    refine ⟨by simp, .inl ⟨_, _, rfl, run_takeDeferred HK.out, ?_⟩⟩
    have s4 := g4.cell 0
    subst hpre
    obtain ⟨r, hr9⟩ := hSp
    have hv : valB k (bkL hs hs.length) = strL (trL (btL x.1.2.2)) := by
      rw [← hr9, List.map_append, List.append_assoc]
      refine valB_yes (fun z hz => ?_) hyes
      obtain ⟨y, hy, rfl⟩ := List.mem_map.1 hz
      exact hall y hy
    rw [hv]
    exact ⟨.string (strL (trL (btL x.1.2.2))), by simp [results, Tryz.results29, go_sem, s4], rfl, hb⟩
end Go.Proofs.YtodibjpojfipoaaGreatDoor
/- Package field: Number: the number of the last item of a key. -/
namespace Go.Proofs.YtodibjpojfipoaaGreatDoor
open Go Go.RowKit Go.Shelf
set_option linter.unusedVariables false
set_option linter.unusedSimpArgs false
set_option maxRecDepth 10000

theorem backI_at (a : Option Addr) (n c : Nat) (w : World) :
    Calls Tryz.prog 94 #[.slice a n c] w fun e w' => e = .returned (.func (.func 117) #[] #[.pointer (some ⟨w.heap.size, 0, none⟩)]) ∧ w' = w.alloc (.cells #[.slice a n c] 65) := by
  have hmf : ∀ (fn : Fn) (first cap : Array Value) (w : World), (Instr.makeFunc fn first cap).run Tryz.prog w = .ok (.func fn first cap) w := fun _ _ _ _ => rfl
  go_enter Tryz.func94, Tryz.ntmps94
  go_wp2
  go_ret
  exact ⟨rfl, rfl⟩
theorem backI_stops (n : Nat) (hn : 1 ≤ n) (sa : Option Addr) (Bn g off c : Nat) (hs : List IX) (hl : hs.length ≤ 1000000) (w : World) (hA : hs ≠ [] → IxAt w g off hs) (hSa : hs ≠ [] → sa = some ⟨g, off, none⟩) (hBn : w.cell? ⟨Bn, 0, none⟩ = some (.slice sa hs.length c)) (hBl : Bn < w.heap.size) :
    SeqStopsK Fence.wide n Tryz.prog 117 #[.pointer (some ⟨Bn, 0, none⟩)] (fun x : IxX => #[.int .i64 (x.1.1 : Int), .agg #[.string x.1.2.k.key, .int .i64 x.1.2.k.v.k, .int .i64 x.1.2.k.v.n, .string x.1.2.k.v.s, .slice x.1.2.a x.1.2.n x.1.2.cap]]) (Below w.heap.size) (fun ys => ys.map Subtype.val = bkL hs hs.length) (fun pre => pre.map Subtype.val <+: bkL hs hs.length) hs.length w := fun l J Jx W hW hJ _ hY h0 =>
  backIx_in n hn sa l Bn g off c hs hl J Jx w W hW hA hSa hY hBn hBl h0
def nmI (p : PB) : Int × Bool := (if p.v.k = 1 then p.v.n else 0, decide (p.v.k = 1))
def nbI (k : ByteArray) : List (Nat × IX) → Int × Bool
  | [] => (0, false)
  | x :: r => if x.2.k.key = k then nmI x.2.k else nbI k r
theorem nbI_none {k : ByteArray} : ∀ {L : List (Nat × IX)}, (∀ z ∈ L, z.2.k.key ≠ k) → nbI k L = (0, false)
  | [], _ => rfl
  | x :: r, h => by
    unfold nbI
    rw [if_neg (h x (by simp))]
    exact nbI_none (fun z hz => h z (by simp [hz]))
theorem nbI_yes {k : ByteArray} : ∀ {L : List (Nat × IX)} {x : Nat × IX} {r : List (Nat × IX)}, (∀ z ∈ L, z.2.k.key ≠ k) → x.2.k.key = k → nbI k (L ++ x :: r) = nmI x.2.k
  | [], x, r, _, hx => by
    rw [List.nil_append]
    unfold nbI
    rw [if_pos hx]
  | y :: t, x, r, h, hx => by
    rw [List.cons_append]
    unfold nbI
    rw [if_neg (h y (by simp))]
    exact nbI_yes (fun z hz => h z (by simp [hz])) hx
structure NbI (w : World) (k : ByteArray) (r3 r4 r5 : Nat) (pre : List IxX) (W : World) : Prop where
  no : ∀ z ∈ pre, z.1.2.k.key ≠ k
  b3 : Box W r3 #[.string k] 9
  b4 : Box W r4 #[.int .i64 0] 3
  b5 : Box W r5 #[.bool false] 4
  bel : Below w.heap.size w W
structure NbX (w : World) (k : ByteArray) (r4 r5 : Nat) (pre : List IxX) (W : World) : Prop where
  yes : ∃ p x, pre = p ++ [x] ∧ (∀ z ∈ p, z.1.2.k.key ≠ k) ∧ x.1.2.k.key = k ∧ Box W r4 #[.int .i64 (nmI x.1.2.k).1] 3 ∧ Box W r5 #[.bool (nmI x.1.2.k).2] 4
  bel : Below w.heap.size w W
structure NbA (w : World) (v : Value) (k : ByteArray) (n c r3 r4 r5 sb : Nat) (x : IxX) (a : Act) (W : World) : Prop where
  ex : ∃ b, w.heap.size ≤ b ∧ r5 < b ∧ Box W b #[.string x.1.2.k.key, .int .i64 x.1.2.k.v.k, .int .i64 x.1.2.k.v.n, .string x.1.2.k.v.s, .slice x.1.2.a x.1.2.n x.1.2.cap] 73 ∧
    a = { tmps := #[v, .string k, undef, .pointer (some ⟨r3, 0, none⟩), .pointer (some ⟨r4, 0, none⟩), .pointer (some ⟨r5, 0, none⟩), undef, .pointer (some ⟨b, 0, none⟩), v, .func (.func 117) #[] #[.pointer (some ⟨sb, 0, none⟩)], .int .i64 (x.1.1 : Int), .agg #[.string x.1.2.k.key, .int .i64 x.1.2.k.v.k, .int .i64 x.1.2.k.v.n, .string x.1.2.k.v.s, .slice x.1.2.a x.1.2.n x.1.2.cap], undef, undef, undef, undef, undef, undef, undef, undef, undef], defers := [] }
theorem NbI.kept {w : World} {k : ByteArray} {r3 r4 r5 B : Nat} {pre : List IxX} {W W' : World} {row : Option Nat} (hB : w.heap.size ≤ B) (h : NbI w k r3 r4 r5 pre W) (hg : W.grownBy W' row) (hr : ∀ r, row = some r → B ≤ r ∧ ∃ o : Obj, W.heap[r]? = some o ∧ o.isCells = false) : NbI w k r3 r4 r5 pre W' :=
  ⟨h.no, box_keptV h.b3 hg hr, box_keptV h.b4 hg hr, box_keptV h.b5 hg hr, h.bel.grown hg h.bel.size (fun k hk => Nat.le_trans hB (hr k hk).1)⟩
theorem NbI.below {w : World} {k : ByteArray} {r3 r4 r5 : Nat} {pre : List IxX} {W W' : World} (h : NbI w k r3 r4 r5 pre W) (hb : Below W.heap.size W W') : NbI w k r3 r4 r5 pre W' := ⟨h.no, h.b3.later hb, h.b4.later hb, h.b5.later hb, h.bel.trans (hb.mono h.bel.size)⟩
theorem NbX.kept {w : World} {k : ByteArray} {r4 r5 B : Nat} {pre : List IxX} {W W' : World} {row : Option Nat} (hB : w.heap.size ≤ B) (h : NbX w k r4 r5 pre W) (hg : W.grownBy W' row) (hr : ∀ r, row = some r → B ≤ r ∧ ∃ o : Obj, W.heap[r]? = some o ∧ o.isCells = false) : NbX w k r4 r5 pre W' :=
  ⟨by obtain ⟨p, x, e, h1, h2, h3, h4⟩ := h.yes; exact ⟨p, x, e, h1, h2, box_keptV h3 hg hr, box_keptV h4 hg hr⟩, h.bel.grown hg h.bel.size (fun k hk => Nat.le_trans hB (hr k hk).1)⟩
theorem NbA.kept {w : World} {v : Value} {k : ByteArray} {n c r3 r4 r5 sb B : Nat} {x : IxX} {a : Act} {W W' : World} {row : Option Nat} (h : NbA w v k n c r3 r4 r5 sb x a W) (hg : W.grownBy W' row) (hr : ∀ r, row = some r → B ≤ r ∧ ∃ o : Obj, W.heap[r]? = some o ∧ o.isCells = false) : NbA w v k n c r3 r4 r5 sb x a W' := by
  obtain ⟨b, h1, h2, h3, h4⟩ := h.ex
  exact ⟨b, h1, h2, box_keptV h3 hg hr, h4⟩
attribute [local go_sem] Oper.semAt_some
set_option maxRecDepth 100000 in
set_option maxHeartbeats 4000000 in
theorem fnumber1_at (sa : Option Addr) (g off c : Nat) (hs : List IX) (hl : hs.length ≤ 1000000) (k : ByteArray) (w : World) (hA : hs ≠ [] → IxAt w g off hs) (hSa : hs ≠ [] → sa = some ⟨g, off, none⟩) :
    Calls Tryz.prog 57 #[.slice sa hs.length c, .string k] w fun e w' => e = .returned (.tuple #[.int .i64 (nbI k (bkL hs hs.length)).1, .bool (nbI k (bkL hs hs.length)).2]) ∧ Below w.heap.size w w' := by
  refine (callsIn_wide (n := 9)).1 ?_
  refine callsIn_of_wp_marks Tryz.func57 rfl trivial ?_ rfl
  simp only [Tryz.ntmps57, List.size_toArray, List.length_cons, List.length_nil, Nat.reduceAdd, Nat.reduceSub, Array.replicate_succ, Array.replicate_zero, List.push_toArray, List.append_toArray, List.nil_append, List.cons_append]
  gi_wp2_with fail
  refine ⟨trivial, ?_⟩
  refine (callsIn_wide.2 (backI_at _ _ _ _)).mono ?_
  rintro e w' ⟨rfl, rfl⟩
  gi_wp2
  refine codeIn_forgetV (fun W => Hid (NbI w k w.heap.size (w.heap.size + 1) (w.heap.size + 1 + 1) [] W) ∧ Hid (W.cell? ⟨w.heap.size + 1 + 1 + 1, 0, none⟩ = some (.slice sa hs.length c) ∧ w.heap.size + 1 + 1 + 1 < W.heap.size)) ⟨Lib.hid ⟨fun z hz => (by cases hz), ?_, ?_, ?_, ?_⟩, Lib.hid ⟨?_, ?_⟩⟩ ?_
  · exact (((Box.new w _ _).alloc _).alloc _).alloc _
  · have h := Box.new (w.alloc (.cells #[.string k] 9)) #[.int .i64 0] 3
    rw [World.size_alloc] at h
    exact (h.alloc _).alloc _
  · have h := Box.new ((w.alloc (.cells #[.string k] 9)).alloc (.cells #[.int .i64 0] 3)) #[.bool false] 4
    rw [World.size_alloc, World.size_alloc] at h
    exact h.alloc _
  · exact ((((Below.refl _ w).alloc (Nat.le_refl _) _).alloc (by simp) _).alloc (by simp; omega) _).alloc (by simp; omega) _
  · have h := Box.new (((w.alloc (.cells #[.string k] 9)).alloc (.cells #[.int .i64 0] 3)).alloc (.cells #[.bool false] 4)) #[.slice sa hs.length c] 65
    rw [World.size_alloc, World.size_alloc, World.size_alloc] at h
    rw [h.cell 0]
    rfl
  · simp
  obtain ⟨r3, hr3⟩ : ∃ b, w.heap.size = b := ⟨_, rfl⟩
  obtain ⟨r4, hr4⟩ : ∃ b, r3 + 1 = b := ⟨_, rfl⟩
  obtain ⟨r5, hr5⟩ : ∃ b, r4 + 1 = b := ⟨_, rfl⟩
  obtain ⟨sb, hsb⟩ : ∃ b, r5 + 1 = b := ⟨_, rfl⟩
  have HNE : Hid (w.heap.size = r3 ∧ r3 + 1 = r4 ∧ r4 + 1 = r5 ∧ r5 + 1 = sb) := Lib.hid ⟨hr3, hr4, hr5, hsb⟩
  rw [hr3, hr4, hr5, hsb]
  clear hr3 hr4 hr5 hsb
  rintro w1 ⟨H0, HS⟩
  have hA1 : hs ≠ [] → IxAt w1 g off hs := fun h => ⟨Nat.lt_of_lt_of_le (hA h).lt H0.out.bel.size, fun i x hx j v hv => (H0.out.bel.cell (hA h).lt).trans ((hA h).at_ i x hx j v hv)⟩
  refine wpIn_rangeFunc_ownH rfl (by omega) (gf := 117) (lb := #[.pointer (some ⟨sb, 0, none⟩)]) rfl trivial (enters_of Tryz.func117 (by kernel_rfl) rfl)
    (backI_stops (9 - 1) (by omega) sa sb g off c hs hl w1 hA1 hSa HS.out.1 HS.out.2) belowK_t (belowK_b (Nat.le_refl _)) (Below.refl _ _) (fun _ => rfl)
    (fun pre W => NbI w k r3 r4 r5 pre W ∧ w1.heap.size ≤ W.heap.size) (fun c pre W => c = .ret ∧ NbX w k r4 r5 pre W)
    (fun pre A B row hs hg hr => ⟨hs.1.kept H0.out.bel.size hg hr, Nat.le_trans hs.2 hg.size⟩)
    (fun cc pre A B row hs hg hr => ⟨hs.1, hs.2.kept H0.out.bel.size hg hr⟩) ⟨H0.out, Nat.le_refl _⟩
    (NbA w (.slice sa hs.length c) k hs.length c r3 r4 r5 sb) (fun x a' u A B row hs hg hr => hs.kept hg hr) ?assign ?body ?done ?stop
  case assign =>
    rintro l pre x W K ⟨hI, hsz⟩ hK
    have HI := Lib.hid hI
    have HK := Lib.hid hK
    have HZ := Lib.hid hsz
    clear hI hK hsz
    gi_wp2
    refine HK.out _ _ ((keeps_belowV ((Below.refl _ _).alloc (Nat.le_refl _) _)).from _) ((Below.refl _ W).alloc HZ.out _) ⟨HI.out.kept (B := w.heap.size) (row := none) (Nat.le_refl _) (World.grownBy_alloc W _ none) (fun r e => by cases e), by rw [World.size_alloc]; have := HZ.out; omega⟩ ?_
    exact ⟨⟨W.heap.size, HI.out.bel.size, HI.out.b5.lt, Box.new W _ _, rfl⟩⟩
  case body =>
    rintro l pre x a' W hl9 _ ⟨hI, hsz⟩ hA9 hlen
    obtain ⟨b, hb1, hb2, hbx, rfl⟩ := hA9.ex
    have hxz := x.2
    obtain ⟨xi, hxi⟩ : ∃ v : Int, (x.1.1 : Int) = v := ⟨_, rfl⟩
    obtain ⟨p, hp⟩ : ∃ p, x.1.2.k = p := ⟨_, rfl⟩
    obtain ⟨xa, hxa⟩ : ∃ v, x.1.2.a = v := ⟨_, rfl⟩
    obtain ⟨xn, hxn⟩ : ∃ v, x.1.2.n = v := ⟨_, rfl⟩
    obtain ⟨xc, hxc⟩ : ∃ v, x.1.2.cap = v := ⟨_, rfl⟩
    rw [hp, hxa, hxn, hxc] at hbx
    rw [hxi, hp, hxa, hxn, hxc]
    obtain ⟨pk, pk1, pn, ps⟩ := p
    have HP := Lib.hid hp
    have HI := Lib.hid hI
    have HZ := Lib.hid hsz
    have c3 := hI.b3.cell 0
    have x0 := hbx.cell 0
    have x1 := hbx.cell 1
    have x2 := hbx.cell 2
    have x3 := hbx.cell 3
    have c4 := hI.b4.cell 0
    have f4 := hI.b4.free 0
    have l4 := hI.b4.lt
    have c5 := hI.b5.cell 0
    have f5 := hI.b5.free 0
    have l5 := hI.b5.lt
    clear hI hsz hA9 hxi hp hxa hxn hxc hbx hlen
    have hn45 : r4 ≠ r5 := by have := HNE.out; omega
    by_cases hk : pk = k
    · have HQ := Lib.hid hk
      have hq : (pk.toList == k.toList) = true := by rw [hk]; simp
      have ND := Lib.hid (fun W => fnum_at pk1 pn ps W)
      obtain ⟨N, hN⟩ : ∃ N, (if pk1 = 1 then pn else 0) = N := ⟨_, rfl⟩
      obtain ⟨B, hB⟩ : ∃ B, decide (pk1 = 1) = B := ⟨_, rfl⟩
      have HNM : Hid (nmI ⟨pk, ⟨pk1, pn, ps⟩⟩ = (N, B)) := Lib.hid (by rw [← hN, ← hB]; rfl)
      rw [hN, hB] at ND
      clear hN hB
      clear hk c4 f4 l4 c5 f5 l5
      gi_wp2_with fail
      refine ⟨trivial, ?_⟩
      refine (CallsIn.inRound l (callsIn_wide.2 (ND.out _))).mono ?_
      rintro e w5 ⟨rfl, hb⟩
      have HI5 := Lib.hid (HI.out.below hb)
      have HB5 := Lib.hid hb
      have c4 := HI5.out.b4.cell 0
      have f4 := HI5.out.b4.free 0
      have l4 := HI5.out.b4.lt
      have c5 := HI5.out.b5.cell 0
      have f5 := HI5.out.b5.free 0
      have l5 := HI5.out.b5.lt
      clear hb x0 x1 x2 x3 c3
      gi_wp2
      refine ⟨(((keeps_belowV HB5.out).trans (KeepsOthers.setCell _ _ _)).trans (KeepsOthers.setCell _ _ _)).from _, rfl, ⟨⟨pre, x, rfl, HI5.out.no, by rw [HP.out]; exact HQ.out, ?_, ?_⟩, (HI5.out.bel.setCell (p := ⟨r4, 0, none⟩) (show w.heap.size ≤ r4 by have := HNE.out; omega) _).setCell (p := ⟨r5, 0, none⟩) (show w.heap.size ≤ r5 by have := HNE.out; omega) _⟩⟩
      · rw [HP.out, HNM.out]
        exact Box.other (a := ⟨r5, 0, none⟩) (HI5.out.b4.set 0 _) hn45 _
      · rw [HP.out, HNM.out]
        exact Box.set (HI5.out.b5.other (a := ⟨r4, 0, none⟩) (Ne.symm hn45) _) 0 _
    · have HQ := Lib.hid hk
      have hq : (pk.toList == k.toList) = false := neq_toListV hk
      clear hk
      gi_wp2
      exact ⟨(KeepsOthers.refl _).from _, Below.refl _ _, ⟨⟨fun z hz => by
        rcases List.mem_append.1 hz with hz | hz
        · exact HI.out.no z hz
        · rw [List.mem_singleton] at hz
          rw [hz, HP.out]
          exact HQ.out, HI.out.b3, HI.out.b4, HI.out.b5, HI.out.bel⟩, HZ.out⟩⟩
  case done =>
    rintro D xs W hD hS ⟨hI, hsz⟩ hK
    have HI := Lib.hid hI
    have HK := Lib.hid hK
    have c4 := hI.b4.cell 0
    have f4 := hI.b4.free 0
    have l4 := hI.b4.lt
    have c5 := hI.b5.cell 0
    have f5 := hI.b5.free 0
    have l5 := hI.b5.lt
    have hn45 : r4 ≠ r5 := by have := HNE.out; omega
    clear hI hK
    gi_wp2
    obtain ⟨W2, hW2⟩ : ∃ W2, (W.setCell ⟨r4, 0, none⟩ (.int .i64 0)).setCell ⟨r5, 0, none⟩ (.bool false) = W2 := ⟨_, rfl⟩
    have hK2 : W2.heap[D]? = some (.deferred (some [])) := by rw [← hW2]; exact ((KeepsOthers.setCell W ⟨r4, 0, none⟩ (.int .i64 0)).trans (KeepsOthers.setCell _ ⟨r5, 0, none⟩ (.bool false))).same D _ HK.out rfl
    have q4 : Box W2 r4 #[.int .i64 0] 3 := by rw [← hW2]; exact Box.other (a := ⟨r5, 0, none⟩) (HI.out.b4.set 0 (.int .i64 0)) hn45 _
    have q5 : Box W2 r5 #[.bool false] 4 := by rw [← hW2]; exact Box.set (HI.out.b5.other (a := ⟨r4, 0, none⟩) (Ne.symm hn45) _) 0 (.bool false)
    have qb : Below w.heap.size w W2 := by rw [← hW2]; exact (HI.out.bel.setCell (p := ⟨r4, 0, none⟩) (show w.heap.size ≤ r4 by have := HNE.out; omega) _).setCell (p := ⟨r5, 0, none⟩) (show w.heap.size ≤ r5 by have := HNE.out; omega) _
    rw [hW2]
    have hg := grownBy_putObj' W2 D (.deferred none)
    have hr : ∀ r, some D = some r → w1.heap.size ≤ r ∧ ∃ o : Obj, W2.heap[r]? = some o ∧ o.isCells = false := fun r e => by
      injection e with e
      subst e
      exact ⟨hD, _, hK2, rfl⟩
    have g4 := box_keptV (B := w1.heap.size) q4 hg hr
    have g5 := box_keptV (B := w1.heap.size) q5 hg hr
    have hb := qb.grown hg qb.size (fun k hk => Nat.le_trans H0.out.bel.size (hr k hk).1)
    refine ⟨by simp, .inl ⟨_, _, rfl, run_takeDeferred hK2, ?_⟩⟩
    have s4 := g4.cell 0
    have s5 := g5.cell 0
    have hv : nbI k (bkL hs hs.length) = (0, false) := by
      rw [← hS]
      refine nbI_none (fun z hz => ?_)
      obtain ⟨y, hy, rfl⟩ := List.mem_map.1 hz
      exact HI.out.no y hy
    rw [hv]
    exact ⟨.tuple #[.int .i64 0, .bool false], by simp [results, Tryz.results57, go_sem, s4, s5], rfl, hb⟩
  case stop =>
    rintro D c pre W hD hSp ⟨rfl, hX⟩ hK
    have HX := Lib.hid hX
    have HK := Lib.hid hK
    obtain ⟨p, x, hpre, hall, hyes, hb4, hb5⟩ := hX.yes
    clear hX hK
    gi_wp2
    have hg := grownBy_putObj' W D (.deferred none)
    have hr : ∀ r, some D = some r → w1.heap.size ≤ r ∧ ∃ o : Obj, W.heap[r]? = some o ∧ o.isCells = false := fun r e => by
      injection e with e
      subst e
      exact ⟨hD, _, HK.out, rfl⟩
    have g4 := box_keptV (B := w1.heap.size) hb4 hg hr
    have g5 := box_keptV (B := w1.heap.size) hb5 hg hr
    have hb := HX.out.bel.grown hg HX.out.bel.size (fun k hk => Nat.le_trans H0.out.bel.size (hr k hk).1)
    refine ⟨by simp, .inl ⟨_, _, rfl, run_takeDeferred HK.out, ?_⟩⟩
    have s4 := g4.cell 0
    have s5 := g5.cell 0
    subst hpre
    obtain ⟨r, hr9⟩ := hSp
    have hv : nbI k (bkL hs hs.length) = nmI x.1.2.k := by
      rw [← hr9, List.map_append, List.append_assoc]
      refine nbI_yes (fun z hz => ?_) hyes
      obtain ⟨y, hy, rfl⟩ := List.mem_map.1 hz
      exact hall y hy
    rw [hv]
    exact ⟨.tuple #[.int .i64 (nmI x.1.2.k).1, .bool (nmI x.1.2.k).2], by simp [results, Tryz.results57, go_sem, s4, s5], rfl, hb⟩
end Go.Proofs.YtodibjpojfipoaaGreatDoor
namespace Go.Proofs.YtodibjpojfipoaaGreatDoor
open Go Go.RowKit Go.Shelf
set_option linter.unusedVariables false
set_option linter.unusedSimpArgs false
set_option maxRecDepth 10000

theorem backP_at (a : Option Addr) (n c : Nat) (w : World) :
    Calls Tryz.prog 96 #[.slice a n c] w fun e w' => e = .returned (.func (.func 118) #[] #[.pointer (some ⟨w.heap.size, 0, none⟩)]) ∧ w' = w.alloc (.cells #[.slice a n c] 71) := by
  have hmf : ∀ (fn : Fn) (first cap : Array Value) (w : World), (Instr.makeFunc fn first cap).run Tryz.prog w = .ok (.func fn first cap) w := fun _ _ _ _ => rfl
  go_enter Tryz.func96, Tryz.ntmps96
  go_wp2
  go_ret
  exact ⟨rfl, rfl⟩
theorem backP_stops (n : Nat) (hn : 1 ≤ n) (sa : Option Addr) (Bn g off c : Nat) (hs : List PB) (hl : hs.length ≤ 1000000) (w : World) (hA : hs ≠ [] → PbAt w g off hs) (hSa : hs ≠ [] → sa = some ⟨g, off, none⟩) (hBn : w.cell? ⟨Bn, 0, none⟩ = some (.slice sa hs.length c)) (hBl : Bn < w.heap.size) :
    SeqStopsK Fence.wide n Tryz.prog 118 #[.pointer (some ⟨Bn, 0, none⟩)] (fun x : PbX => #[.int .i64 (x.1.1 : Int), .agg #[.string x.1.2.key, .int .i64 x.1.2.v.k, .int .i64 x.1.2.v.n, .string x.1.2.v.s]]) (Below w.heap.size) (fun ys => ys.map Subtype.val = bkL hs hs.length) (fun pre => pre.map Subtype.val <+: bkL hs hs.length) hs.length w := fun l J Jx W hW hJ _ hY h0 =>
  backPb_in n hn sa l Bn g off c hs hl J Jx w W hW hA hSa hY hBn hBl h0
def npI (k : ByteArray) : List (Nat × PB) → Int × Bool
  | [] => (0, false)
  | x :: r => if x.2.key = k then nmI x.2 else npI k r
theorem npI_none {k : ByteArray} : ∀ {L : List (Nat × PB)}, (∀ z ∈ L, z.2.key ≠ k) → npI k L = (0, false)
  | [], _ => rfl
  | x :: r, h => by
    unfold npI
    rw [if_neg (h x (by simp))]
    exact npI_none (fun z hz => h z (by simp [hz]))
theorem npI_yes {k : ByteArray} : ∀ {L : List (Nat × PB)} {x : Nat × PB} {r : List (Nat × PB)}, (∀ z ∈ L, z.2.key ≠ k) → x.2.key = k → npI k (L ++ x :: r) = nmI x.2
  | [], x, r, _, hx => by
    rw [List.nil_append]
    unfold npI
    rw [if_pos hx]
  | y :: t, x, r, h, hx => by
    rw [List.cons_append]
    unfold npI
    rw [if_neg (h y (by simp))]
    exact npI_yes (fun z hz => h z (by simp [hz])) hx
structure NpI (w : World) (k : ByteArray) (r3 r4 r5 : Nat) (pre : List PbX) (W : World) : Prop where
  no : ∀ z ∈ pre, z.1.2.key ≠ k
  b3 : Box W r3 #[.string k] 9
  b4 : Box W r4 #[.int .i64 0] 3
  b5 : Box W r5 #[.bool false] 4
  bel : Below w.heap.size w W
structure NpX (w : World) (k : ByteArray) (r4 r5 : Nat) (pre : List PbX) (W : World) : Prop where
  yes : ∃ p x, pre = p ++ [x] ∧ (∀ z ∈ p, z.1.2.key ≠ k) ∧ x.1.2.key = k ∧ Box W r4 #[.int .i64 (nmI x.1.2).1] 3 ∧ Box W r5 #[.bool (nmI x.1.2).2] 4
  bel : Below w.heap.size w W
structure NpA (w : World) (u v : Value) (k : ByteArray) (n c r2 r3 r4 r5 sb : Nat) (x : PbX) (a : Act) (W : World) : Prop where
  ex : ∃ b, w.heap.size ≤ b ∧ r5 < b ∧ Box W b #[.string x.1.2.key, .int .i64 x.1.2.v.k, .int .i64 x.1.2.v.n, .string x.1.2.v.s] 110 ∧
    a = { tmps := #[u, .string k, .pointer (some ⟨r2, 0, none⟩), .pointer (some ⟨r3, 0, none⟩), .pointer (some ⟨r4, 0, none⟩), .pointer (some ⟨r5, 0, none⟩), undef, .pointer (some ⟨b, 0, none⟩), .pointer (some ⟨r2, 4, none⟩), v, .func (.func 118) #[] #[.pointer (some ⟨sb, 0, none⟩)], .int .i64 (x.1.1 : Int), .agg #[.string x.1.2.key, .int .i64 x.1.2.v.k, .int .i64 x.1.2.v.n, .string x.1.2.v.s], undef, undef, undef, undef, undef, undef, undef, undef, undef], defers := [] }
theorem NpI.kept {w : World} {k : ByteArray} {r3 r4 r5 B : Nat} {pre : List PbX} {W W' : World} {row : Option Nat} (hB : w.heap.size ≤ B) (h : NpI w k r3 r4 r5 pre W) (hg : W.grownBy W' row) (hr : ∀ r, row = some r → B ≤ r ∧ ∃ o : Obj, W.heap[r]? = some o ∧ o.isCells = false) : NpI w k r3 r4 r5 pre W' :=
  ⟨h.no, box_keptV h.b3 hg hr, box_keptV h.b4 hg hr, box_keptV h.b5 hg hr, h.bel.grown hg h.bel.size (fun k hk => Nat.le_trans hB (hr k hk).1)⟩
theorem NpI.below {w : World} {k : ByteArray} {r3 r4 r5 : Nat} {pre : List PbX} {W W' : World} (h : NpI w k r3 r4 r5 pre W) (hb : Below W.heap.size W W') : NpI w k r3 r4 r5 pre W' := ⟨h.no, h.b3.later hb, h.b4.later hb, h.b5.later hb, h.bel.trans (hb.mono h.bel.size)⟩
theorem NpX.kept {w : World} {k : ByteArray} {r4 r5 B : Nat} {pre : List PbX} {W W' : World} {row : Option Nat} (hB : w.heap.size ≤ B) (h : NpX w k r4 r5 pre W) (hg : W.grownBy W' row) (hr : ∀ r, row = some r → B ≤ r ∧ ∃ o : Obj, W.heap[r]? = some o ∧ o.isCells = false) : NpX w k r4 r5 pre W' :=
  ⟨by obtain ⟨p, x, e, h1, h2, h3, h4⟩ := h.yes; exact ⟨p, x, e, h1, h2, box_keptV h3 hg hr, box_keptV h4 hg hr⟩, h.bel.grown hg h.bel.size (fun k hk => Nat.le_trans hB (hr k hk).1)⟩
theorem NpA.kept {w : World} {u v : Value} {k : ByteArray} {n c r2 r3 r4 r5 sb B : Nat} {x : PbX} {a : Act} {W W' : World} {row : Option Nat} (h : NpA w u v k n c r2 r3 r4 r5 sb x a W) (hg : W.grownBy W' row) (hr : ∀ r, row = some r → B ≤ r ∧ ∃ o : Obj, W.heap[r]? = some o ∧ o.isCells = false) : NpA w u v k n c r2 r3 r4 r5 sb x a W' := by
  obtain ⟨b, h1, h2, h3, h4⟩ := h.ex
  exact ⟨b, h1, h2, box_keptV h3 hg hr, h4⟩
attribute [local go_sem] Oper.semAt_some
set_option maxRecDepth 100000 in
set_option maxHeartbeats 4000000 in
theorem fparam_at (ik i3 : ByteArray) (i1 i2 : Int) (sa : Option Addr) (g off c : Nat) (hs : List PB) (hl : hs.length ≤ 1000000) (k : ByteArray) (w : World) (hA : hs ≠ [] → PbAt w g off hs) (hSa : hs ≠ [] → sa = some ⟨g, off, none⟩) :
    Calls Tryz.prog 58 #[.agg #[.string ik, .int .i64 i1, .int .i64 i2, .string i3, .slice sa hs.length c], .string k] w fun e w' => e = .returned (.tuple #[.int .i64 (npI k (bkL hs hs.length)).1, .bool (npI k (bkL hs hs.length)).2]) ∧ Below w.heap.size w w' := by
  refine (callsIn_wide (n := 9)).1 ?_
  refine callsIn_of_wp_marks Tryz.func58 rfl trivial ?_ rfl
  simp only [Tryz.ntmps58, List.size_toArray, List.length_cons, List.length_nil, Nat.reduceAdd, Nat.reduceSub, Array.replicate_succ, Array.replicate_zero, List.push_toArray, List.append_toArray, List.nil_append, List.cons_append]
  gi_wp2_with fail
  refine ⟨trivial, ?_⟩
  refine (callsIn_wide.2 (backP_at _ _ _ _)).mono ?_
  rintro e w' ⟨rfl, rfl⟩
  gi_wp2
  obtain ⟨w00, hw0⟩ : ∃ w0, w.alloc (.cells #[.string ik, .int .i64 i1, .int .i64 i2, .string i3, .slice sa hs.length c] 73) = w0 := ⟨_, rfl⟩
  have hz0 : w00.heap.size = w.heap.size + 1 := by rw [← hw0]; exact World.size_alloc _ _
  have B0 : Hid (Below w.heap.size w w00) := Lib.hid (by rw [← hw0]; exact (Below.refl _ w).alloc (Nat.le_refl _) _)
  rw [hw0]
  refine codeIn_forgetV (fun W => Hid (NpI w k (w.heap.size + 1) (w.heap.size + 1 + 1) (w.heap.size + 1 + 1 + 1) [] W) ∧ Hid (W.cell? ⟨w.heap.size + 1 + 1 + 1 + 1, 0, none⟩ = some (.slice sa hs.length c) ∧ w.heap.size + 1 + 1 + 1 + 1 < W.heap.size)) ⟨Lib.hid ⟨fun z hz => (by cases hz), ?_, ?_, ?_, ?_⟩, Lib.hid ⟨?_, ?_⟩⟩ ?_
  · rw [← hz0]
    exact (((Box.new w00 _ _).alloc _).alloc _).alloc _
  · have h := Box.new (w00.alloc (.cells #[.string k] 9)) #[.int .i64 0] 3
    rw [World.size_alloc, hz0] at h
    exact (h.alloc _).alloc _
  · have h := Box.new ((w00.alloc (.cells #[.string k] 9)).alloc (.cells #[.int .i64 0] 3)) #[.bool false] 4
    rw [World.size_alloc, World.size_alloc, hz0] at h
    exact h.alloc _
  · exact (((B0.out.alloc (by omega) _).alloc (by simp; omega) _).alloc (by simp; omega) _).alloc (by simp; omega) _
  · have h := Box.new (((w00.alloc (.cells #[.string k] 9)).alloc (.cells #[.int .i64 0] 3)).alloc (.cells #[.bool false] 4)) #[.slice sa hs.length c] 71
    rw [World.size_alloc, World.size_alloc, World.size_alloc, hz0] at h
    rw [h.cell 0]
    rfl
  · simp [hz0]
  clear hw0 hz0 B0
  obtain ⟨r2, hr2⟩ : ∃ b, w.heap.size = b := ⟨_, rfl⟩
  obtain ⟨r3, hr3⟩ : ∃ b, r2 + 1 = b := ⟨_, rfl⟩
  obtain ⟨r4, hr4⟩ : ∃ b, r3 + 1 = b := ⟨_, rfl⟩
  obtain ⟨r5, hr5⟩ : ∃ b, r4 + 1 = b := ⟨_, rfl⟩
  obtain ⟨sb, hsb⟩ : ∃ b, r5 + 1 = b := ⟨_, rfl⟩
  have HNE : Hid (w.heap.size = r2 ∧ r2 + 1 = r3 ∧ r3 + 1 = r4 ∧ r4 + 1 = r5 ∧ r5 + 1 = sb) := Lib.hid ⟨hr2, hr3, hr4, hr5, hsb⟩
  rw [hr2, hr3, hr4, hr5, hsb]
  clear hr2 hr3 hr4 hr5 hsb
  rintro w1 ⟨H0, HS⟩
  have hA1 : hs ≠ [] → PbAt w1 g off hs := fun h => ⟨Nat.lt_of_lt_of_le (hA h).lt H0.out.bel.size, fun i x hx j v hv => (H0.out.bel.cell (hA h).lt).trans ((hA h).at_ i x hx j v hv)⟩
  refine wpIn_rangeFunc_ownH rfl (by omega) (gf := 118) (lb := #[.pointer (some ⟨sb, 0, none⟩)]) rfl trivial (enters_of Tryz.func118 (by kernel_rfl) rfl)
    (backP_stops (9 - 1) (by omega) sa sb g off c hs hl w1 hA1 hSa HS.out.1 HS.out.2) belowK_t (belowK_b (Nat.le_refl _)) (Below.refl _ _) (fun _ => rfl)
    (fun pre W => NpI w k r3 r4 r5 pre W ∧ w1.heap.size ≤ W.heap.size) (fun c pre W => c = .ret ∧ NpX w k r4 r5 pre W)
    (fun pre A B row hs hg hr => ⟨hs.1.kept H0.out.bel.size hg hr, Nat.le_trans hs.2 hg.size⟩)
    (fun cc pre A B row hs hg hr => ⟨hs.1, hs.2.kept H0.out.bel.size hg hr⟩) ⟨H0.out, Nat.le_refl _⟩
    (NpA w (.agg #[.string ik, .int .i64 i1, .int .i64 i2, .string i3, .slice sa hs.length c]) (.slice sa hs.length c) k hs.length c r2 r3 r4 r5 sb) (fun x a' u A B row hs hg hr => hs.kept hg hr) ?assign ?body ?done ?stop
  case assign =>
    rintro l pre x W K ⟨hI, hsz⟩ hK
    have HI := Lib.hid hI
    have HK := Lib.hid hK
    have HZ := Lib.hid hsz
    clear hI hK hsz
    gi_wp2
    refine HK.out _ _ ((keeps_belowV ((Below.refl _ _).alloc (Nat.le_refl _) _)).from _) ((Below.refl _ W).alloc HZ.out _) ⟨HI.out.kept (B := w.heap.size) (row := none) (Nat.le_refl _) (World.grownBy_alloc W _ none) (fun r e => by cases e), by rw [World.size_alloc]; have := HZ.out; omega⟩ ?_
    exact ⟨⟨W.heap.size, HI.out.bel.size, HI.out.b5.lt, Box.new W _ _, rfl⟩⟩
  case body =>
    rintro l pre x a' W hl9 _ ⟨hI, hsz⟩ hA9 hlen
    obtain ⟨b, hb1, hb2, hbx, rfl⟩ := hA9.ex
    have hxz := x.2
    obtain ⟨xi, hxi⟩ : ∃ v : Int, (x.1.1 : Int) = v := ⟨_, rfl⟩
    obtain ⟨p, hp⟩ : ∃ p, x.1.2 = p := ⟨_, rfl⟩
    rw [hp] at hbx
    rw [hxi, hp]
    obtain ⟨pk, pk1, pn, ps⟩ := p
    have HP := Lib.hid hp
    have HI := Lib.hid hI
    have HZ := Lib.hid hsz
    have c3 := hI.b3.cell 0
    have x0 := hbx.cell 0
    have x1 := hbx.cell 1
    have x2 := hbx.cell 2
    have x3 := hbx.cell 3
    have c4 := hI.b4.cell 0
    have f4 := hI.b4.free 0
    have l4 := hI.b4.lt
    have c5 := hI.b5.cell 0
    have f5 := hI.b5.free 0
    have l5 := hI.b5.lt
    clear hI hsz hA9 hxi hp hbx hlen
    have hn45 : r4 ≠ r5 := by have := HNE.out; omega
    by_cases hk : pk = k
    · have HQ := Lib.hid hk
      have hq : (pk.toList == k.toList) = true := by rw [hk]; simp
      have ND := Lib.hid (fun W => fnum_at pk1 pn ps W)
      obtain ⟨N, hN⟩ : ∃ N, (if pk1 = 1 then pn else 0) = N := ⟨_, rfl⟩
      obtain ⟨B, hB⟩ : ∃ B, decide (pk1 = 1) = B := ⟨_, rfl⟩
      have HNM : Hid (nmI ⟨pk, ⟨pk1, pn, ps⟩⟩ = (N, B)) := Lib.hid (by rw [← hN, ← hB]; rfl)
      rw [hN, hB] at ND
      clear hN hB
      clear hk c4 f4 l4 c5 f5 l5
      gi_wp2_with fail
      refine ⟨trivial, ?_⟩
      refine (CallsIn.inRound l (callsIn_wide.2 (ND.out _))).mono ?_
      rintro e w5 ⟨rfl, hb⟩
      have HI5 := Lib.hid (HI.out.below hb)
      have HB5 := Lib.hid hb
      have c4 := HI5.out.b4.cell 0
      have f4 := HI5.out.b4.free 0
      have l4 := HI5.out.b4.lt
      have c5 := HI5.out.b5.cell 0
      have f5 := HI5.out.b5.free 0
      have l5 := HI5.out.b5.lt
      clear hb x0 x1 x2 x3 c3
      gi_wp2
      refine ⟨(((keeps_belowV HB5.out).trans (KeepsOthers.setCell _ _ _)).trans (KeepsOthers.setCell _ _ _)).from _, rfl, ⟨⟨pre, x, rfl, HI5.out.no, by rw [HP.out]; exact HQ.out, ?_, ?_⟩, (HI5.out.bel.setCell (p := ⟨r4, 0, none⟩) (show w.heap.size ≤ r4 by have := HNE.out; omega) _).setCell (p := ⟨r5, 0, none⟩) (show w.heap.size ≤ r5 by have := HNE.out; omega) _⟩⟩
      · rw [HP.out, HNM.out]
        exact Box.other (a := ⟨r5, 0, none⟩) (HI5.out.b4.set 0 _) hn45 _
      · rw [HP.out, HNM.out]
        exact Box.set (HI5.out.b5.other (a := ⟨r4, 0, none⟩) (Ne.symm hn45) _) 0 _
    · have HQ := Lib.hid hk
      have hq : (pk.toList == k.toList) = false := neq_toListV hk
      clear hk
      gi_wp2
      exact ⟨(KeepsOthers.refl _).from _, Below.refl _ _, ⟨⟨fun z hz => by
        rcases List.mem_append.1 hz with hz | hz
        · exact HI.out.no z hz
        · rw [List.mem_singleton] at hz
          rw [hz, HP.out]
          exact HQ.out, HI.out.b3, HI.out.b4, HI.out.b5, HI.out.bel⟩, HZ.out⟩⟩
  case done =>
    rintro D xs W hD hS ⟨hI, hsz⟩ hK
    have HI := Lib.hid hI
    have HK := Lib.hid hK
    have c4 := hI.b4.cell 0
    have f4 := hI.b4.free 0
    have l4 := hI.b4.lt
    have c5 := hI.b5.cell 0
    have f5 := hI.b5.free 0
    have l5 := hI.b5.lt
    have hn45 : r4 ≠ r5 := by have := HNE.out; omega
    clear hI hK
    gi_wp2
    obtain ⟨W2, hW2⟩ : ∃ W2, (W.setCell ⟨r4, 0, none⟩ (.int .i64 0)).setCell ⟨r5, 0, none⟩ (.bool false) = W2 := ⟨_, rfl⟩
    have hK2 : W2.heap[D]? = some (.deferred (some [])) := by rw [← hW2]; exact ((KeepsOthers.setCell W ⟨r4, 0, none⟩ (.int .i64 0)).trans (KeepsOthers.setCell _ ⟨r5, 0, none⟩ (.bool false))).same D _ HK.out rfl
    have q4 : Box W2 r4 #[.int .i64 0] 3 := by rw [← hW2]; exact Box.other (a := ⟨r5, 0, none⟩) (HI.out.b4.set 0 (.int .i64 0)) hn45 _
    have q5 : Box W2 r5 #[.bool false] 4 := by rw [← hW2]; exact Box.set (HI.out.b5.other (a := ⟨r4, 0, none⟩) (Ne.symm hn45) _) 0 (.bool false)
    have qb : Below w.heap.size w W2 := by rw [← hW2]; exact (HI.out.bel.setCell (p := ⟨r4, 0, none⟩) (show w.heap.size ≤ r4 by have := HNE.out; omega) _).setCell (p := ⟨r5, 0, none⟩) (show w.heap.size ≤ r5 by have := HNE.out; omega) _
    rw [hW2]
    have hg := grownBy_putObj' W2 D (.deferred none)
    have hr : ∀ r, some D = some r → w1.heap.size ≤ r ∧ ∃ o : Obj, W2.heap[r]? = some o ∧ o.isCells = false := fun r e => by
      injection e with e
      subst e
      exact ⟨hD, _, hK2, rfl⟩
    have g4 := box_keptV (B := w1.heap.size) q4 hg hr
    have g5 := box_keptV (B := w1.heap.size) q5 hg hr
    have hb := qb.grown hg qb.size (fun k hk => Nat.le_trans H0.out.bel.size (hr k hk).1)
    refine ⟨by simp, .inl ⟨_, _, rfl, run_takeDeferred hK2, ?_⟩⟩
    have s4 := g4.cell 0
    have s5 := g5.cell 0
    have hv : npI k (bkL hs hs.length) = (0, false) := by
      rw [← hS]
      refine npI_none (fun z hz => ?_)
      obtain ⟨y, hy, rfl⟩ := List.mem_map.1 hz
      exact HI.out.no y hy
    rw [hv]
    exact ⟨.tuple #[.int .i64 0, .bool false], by simp [results, Tryz.results58, go_sem, s4, s5], rfl, hb⟩
  case stop =>
    rintro D c pre W hD hSp ⟨rfl, hX⟩ hK
    have HX := Lib.hid hX
    have HK := Lib.hid hK
    obtain ⟨p, x, hpre, hall, hyes, hb4, hb5⟩ := hX.yes
    clear hX hK
    gi_wp2
    have hg := grownBy_putObj' W D (.deferred none)
    have hr : ∀ r, some D = some r → w1.heap.size ≤ r ∧ ∃ o : Obj, W.heap[r]? = some o ∧ o.isCells = false := fun r e => by
      injection e with e
      subst e
      exact ⟨hD, _, HK.out, rfl⟩
    have g4 := box_keptV (B := w1.heap.size) hb4 hg hr
    have g5 := box_keptV (B := w1.heap.size) hb5 hg hr
    have hb := HX.out.bel.grown hg HX.out.bel.size (fun k hk => Nat.le_trans H0.out.bel.size (hr k hk).1)
    refine ⟨by simp, .inl ⟨_, _, rfl, run_takeDeferred HK.out, ?_⟩⟩
    have s4 := g4.cell 0
    have s5 := g5.cell 0
    subst hpre
    obtain ⟨r, hr9⟩ := hSp
    have hv : npI k (bkL hs hs.length) = nmI x.1.2 := by
      rw [← hr9, List.map_append, List.append_assoc]
      refine npI_yes (fun z hz => ?_) hyes
      obtain ⟨y, hy, rfl⟩ := List.mem_map.1 hz
      exact hall y hy
    rw [hv]
    exact ⟨.tuple #[.int .i64 (nmI x.1.2).1, .bool (nmI x.1.2).2], by simp [results, Tryz.results58, go_sem, s4, s5], rfl, hb⟩
end Go.Proofs.YtodibjpojfipoaaGreatDoor
