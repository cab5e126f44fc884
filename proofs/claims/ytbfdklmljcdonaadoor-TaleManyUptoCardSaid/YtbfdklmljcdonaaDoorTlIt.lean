/- Package tale: the lines of a text, one by one. -/
import Derived.Test.YtbfdklmljcdonaaDoorTlSte
import Derived.RangeFuncNested
import Derived.RangeFuncBound
import Derived.RangeFuncCalls
import Derived.RangeFuncLeaves
import Derived.Shelf.Abstract
import Derived.Shelf.RegionOpen
import Derived.WalkKit
import Derived.OwnWalkIn
import Derived.TacticsInMore
import Derived.LoopNIn
import Derived.LoopIn
namespace Go.Proofs.YtbfdklmljcdonaaDoor
open Go Go.RowKit Go.Shelf
set_option linter.unusedVariables false
set_option linter.unusedSimpArgs false
set_option maxRecDepth 10000

/-! ### Lines -/
def lnl : Bt → List Bt
  | [] => []
  | c :: r => if c = 10 then [] :: lnl r else match lnl r with
    | [] => [[c]]
    | w :: ws => if r = [] then [[c]] else (c :: w) :: ws
theorem lnl_word : ∀ (w r : Bt), (10 : UInt8) ∉ w → lnl (w ++ 10 :: r) = w :: lnl r
  | [], r, _ => by simp [lnl]
  | c :: w, r, h => by
    have ih := lnl_word w r (fun hm => h (List.mem_cons_of_mem _ hm))
    rw [List.cons_append, lnl, if_neg (fun e => h (by rw [e]; exact List.mem_cons_self ..)), ih]
    simp only
    rw [if_neg (by simp)]
theorem lnl_last : ∀ (w : Bt), w ≠ [] → (10 : UInt8) ∉ w → lnl w = [w]
  | [], h, _ => absurd rfl h
  | [c], _, h => by
    rw [lnl, if_neg (fun e => h (by rw [e]; exact List.mem_cons_self ..))]
    rfl
  | c :: d :: w, _, h => by
    have ih := lnl_last (d :: w) (by simp) (fun hm => h (List.mem_cons_of_mem _ hm))
    rw [lnl, if_neg (fun e => h (by rw [e]; exact List.mem_cons_self ..)), ih]
    simp only
    rw [if_neg (by simp)]
theorem lnl_len : ∀ (l : Bt), (lnl l).length ≤ l.length
  | [] => by simp [lnl]
  | c :: r => by
    have ih := lnl_len r
    unfold lnl
    split
    · simp; omega
    · split
      · simp
      · rename_i w ws e
        rw [e] at ih
        split
        · simp
        · simp at ih ⊢; omega
theorem index_nl {s : Bt} {i : Nat} (h : Lib.index s [10] = i) : i < s.length ∧ s = s.take i ++ 10 :: s.drop (i + 1) ∧ (10 : UInt8) ∉ s.take i := by
  rcases Lib.index_spec s [10] with ⟨e, _⟩ | ⟨j, e, hj, hocc, hno⟩
  · omega
  · have : j = i := by omega
    subst this
    have hp := List.isPrefixOf_iff_prefix.1 hocc
    obtain ⟨t, ht⟩ := hp
    have hlt : j < s.length := by
      have := congrArg List.length ht
      simp at this
      omega
    have hd : s.drop (j + 1) = t := by rw [← List.drop_drop, ← ht]; rfl
    refine ⟨hlt, ?_, ?_⟩
    · rw [hd]
      conv => lhs; rw [← List.take_append_drop j s, ← ht]
      rfl
    · intro hm
      obtain ⟨k, hk, hk2⟩ := List.mem_iff_getElem.1 hm
      rw [List.length_take] at hk
      rw [List.getElem_take] at hk2
      have h1 := hno k (by omega)
      unfold Lib.occAt at h1
      have h2 : s.drop k = 10 :: s.drop (k + 1) := by
        rw [List.drop_eq_getElem_cons (by omega), hk2]
      rw [h2] at h1
      simp [List.isPrefixOf] at h1
theorem index_no_nl {s : Bt} (h : Lib.index s [10] = -1) : (10 : UInt8) ∉ s := by
  rcases Lib.index_spec s [10] with ⟨_, hno⟩ | ⟨j, e, _⟩
  · intro hm
    obtain ⟨k, hk, hk2⟩ := List.mem_iff_getElem.1 hm
    have h1 := hno k (by omega)
    unfold Lib.occAt at h1
    rw [List.drop_eq_getElem_cons hk, hk2] at h1
    simp [List.isPrefixOf] at h1
  · omega
theorem lnl_cut (l : Bt) (h : l ≠ []) : lnl l = (Lib.cut l [10]).1 :: lnl (Lib.cut l [10]).2.1 ∧ (Lib.cut l [10]).2.1.length < l.length := by
  unfold Lib.cut
  rcases Lib.index_spec l [10] with ⟨e, _⟩ | ⟨i, e, _⟩
  · rw [e, if_neg (by omega)]
    exact ⟨lnl_last l h (index_no_nl e), List.length_pos_iff.2 h⟩
  · obtain ⟨hlt, hcut, hno⟩ := index_nl e
    rw [e, if_pos (by omega)]
    simp only [Int.toNat_natCast, List.length_cons, List.length_nil, Nat.zero_add]
    refine ⟨?_, by rw [List.length_drop]; omega⟩
    conv => lhs; rw [hcut, lnl_word _ _ hno]
def lnB (s : ByteArray) : List ByteArray := (lnl (bl s)).map stB
def enumL : Nat → List ByteArray → List (Nat × ByteArray)
  | _, [] => []
  | k, x :: r => (k, x) :: enumL (k + 1) r
theorem enumL_len : ∀ (k : Nat) (l : List ByteArray), (enumL k l).length = l.length
  | _, [] => rfl
  | k, x :: r => by unfold enumL; rw [List.length_cons, enumL_len (k + 1) r, List.length_cons]
theorem lnB_next (R : ByteArray) (h : bl R ≠ []) : lnB R = stB (Lib.cut (bl R) [10]).1 :: lnB (stB (Lib.cut (bl R) [10]).2.1) ∧ (stB (Lib.cut (bl R) [10]).2.1).size < R.size := by
  obtain ⟨h1, h2⟩ := lnl_cut (bl R) h
  refine ⟨?_, by rw [stB_size, ← bl_len R]; exact h2⟩
  unfold lnB
  rw [h1, List.map_cons, bl_stB]
theorem cutn_at (s : ByteArray) (w : World) (hs : s.size ≤ 3000000) (hT : TabT w) :
    Calls Tryd.prog 21 #[.string s, .string ⟨#[10]⟩] w fun e w' => ∃ b k, e = .returned (.tuple #[.string (stB (Lib.cut (bl s) [10]).1), .string (stB (Lib.cut (bl s) [10]).2.1), .bool b]) ∧ w' = w.drewN k := by
  obtain ⟨m, hm⟩ := hT.len
  refine (Any.strings_Cut Tryd.lays145 s ⟨#[10]⟩ m w (by omega) hm).mono ?_
  rintro e w' ⟨rfl, n, rfl⟩
  exact ⟨_, n, rfl, rfl⟩
attribute [local go_sem] Oper.semAt_some
abbrev LX := { x : Nat × ByteArray // x.1 ≤ 60001 ∧ x.2.size ≤ 3000000 }
theorem cut_fst (l q : Bt) : (Lib.cut l q).1.length ≤ l.length := by
  unfold Lib.cut
  split
  · rw [List.length_take]; omega
  · exact Nat.le_refl _
def strM : Value → Nat
  | .string s => s.size
  | _ => 0
theorem kp_t {A B C : World} (_ : True) (_ : True) : True := trivial
set_option maxRecDepth 100000 in
set_option maxHeartbeats 2000000 in
theorem lines1_in (n : Nat) (hn : 1 ≤ n) (l Bn : Nat) (s : ByteArray) (hs : s.size ≤ 3000000) (hq : (lnB s).length ≤ 60000) (J Jx : List LX → World → Prop)
    (w0 W : World) (hJa : ∀ pre (A : World) k, J pre A → True → J pre (A.drewN k)) (hT : TabT w0) (hW : Below w0.heap.size w0 W)
    (hY : ∀ pre x W, J pre W → pre.length < (lnB s).length → YieldAt Fence.wide (n - 1) Tryd.prog l #[.int .i64 (x.1.1 : Int), .string x.1.2] W fun e W' =>
      (e = .returned (.bool true) ∧ J (pre ++ [x]) W' ∧ Below w0.heap.size W W') ∨ (e = .returned (.bool false) ∧ Jx (pre ++ [x]) W'))
    (hBn : W.cell? ⟨Bn, 0, none⟩ = some (.string s)) (h0 : J [] W) :
    CallsIn Fence.wide n Tryd.prog 20 #[.func (.yield l) #[] #[], .pointer (some ⟨Bn, 0, none⟩)] W fun e W' => (∃ v, e = .returned v) ∧
      ((∃ ys, ys.map Subtype.val = enumL 1 (lnB s) ∧ J ys W') ∨ (∃ pre, pre.map Subtype.val <+: enumL 1 (lnB s) ∧ Jx pre W')) := by
  refine callsIn_of_wp Tryd.func20 rfl trivial ?_ rfl
  simp only [Tryd.ntmps20, List.size_toArray, List.length_cons, List.length_nil, Nat.reduceAdd, Nat.reduceSub, Array.replicate_succ, Array.replicate_zero, List.push_toArray, List.append_toArray, List.nil_append, List.cons_append]
  gi_wp2
  gi_loopw [3, 4] (fun vr vn wr => ∃ (pre : List LX) (R : ByteArray), vr = .string R ∧ vn = .int .i64 ((pre.length + 1 : Nat) : Int) ∧ R.size ≤ 3000000 ∧ pre.length + (lnB R).length ≤ 60000 ∧ Hid (enumL 1 (lnB s) = pre.map Subtype.val ++ enumL (pre.length + 1) (lnB R)) ∧ Hid (J pre wr) ∧ Hid (Below w0.heap.size w0 wr)) (fun vr _ _ => strM vr)
  case atStart => exact ⟨[], s, rfl, rfl, hs, by simpa using hq, Lib.hid rfl, Lib.hid h0, Lib.hid hW⟩
  case round =>
    obtain ⟨pre, R, rfl, rfl, hR, hpR, HX, HJ, HB⟩ := hrel
    cases hre : R.toList.isEmpty with
    | true =>
      have hnil : lnB R = [] := by
        have h9 : bl R = [] := by rw [str_empty] at hre; exact List.isEmpty_iff.1 hre
        unfold lnB
        rw [h9]
        rfl
      have HXX : Hid (pre.map Subtype.val = enumL 1 (lnB s)) := Lib.hid (by rw [HX.out, hnil]; simp [enumL])
      gi_wp2
      go_end0
      exact ⟨⟨_, rfl⟩, .inl ⟨pre, HXX.out, HJ.out⟩⟩
    | false =>
      have hne : bl R ≠ [] := by
        intro h
        rw [str_empty, h] at hre
        cases hre
      obtain ⟨hnx, hlt⟩ := lnB_next R hne
      obtain ⟨x, hx⟩ : ∃ x, stB (Lib.cut (bl R) [10]).1 = x := ⟨_, rfl⟩
      obtain ⟨R2, hR2⟩ : ∃ x, stB (Lib.cut (bl R) [10]).2.1 = x := ⟨_, rfl⟩
      have HCT := Lib.hid (fun W hT => cutn_at R W (by omega) hT)
      rw [hx, hR2] at HCT hnx
      rw [hR2] at hlt
      have hp2 : pre.length + 1 + (lnB R2).length ≤ 60000 := by have h9 := congrArg List.length hnx; rw [List.length_cons] at h9; omega
      have hxs : x.size ≤ 3000000 := by rw [← hx, stB_size]; have h9 := cut_fst (bl R) [10]; rw [bl_len] at h9; omega
      obtain ⟨X, hX⟩ : ∃ X : LX, X.1 = (pre.length + 1, x) := ⟨⟨(pre.length + 1, x), by show pre.length + 1 ≤ 60001; omega, hxs⟩, rfl⟩
      have HX2 : Hid (enumL 1 (lnB s) = (pre ++ [X]).map Subtype.val ++ enumL ((pre ++ [X]).length + 1) (lnB R2)) := Lib.hid (by rw [HX.out, hnx, enumL]; simp [hX])
      have HYR := Lib.hid (fun k => hY pre X (wr.drewN k) (hJa pre wr k HJ.out trivial) (by
        have h9 := congrArg List.length HX2.out
        rw [enumL_len, List.length_append, List.length_map, List.length_append] at h9
        simp at h9
        omega))
      rw [hX] at HYR
      dsimp only at HYR
      have HTR := Lib.hid (hT.later HB.out)
      clear hx hR2 hnx HX hne
      gi_wp2_with fail
      refine ⟨trivial, ?_⟩
      refine (callsIn_wide.2 (HCT.out wr HTR.out)).mono ?_
      rintro e w' ⟨b, k, rfl, rfl⟩
      obtain ⟨fn, tmps, assign, body, hy, hRR⟩ := HYR.out k
      simp only [Int.natCast_add, Int.cast_ofNat_Int] at hy
      gi_wp2
      refine hRR.mono ?_
      rintro e W3 (⟨rfl, hJ3, hb3⟩ | ⟨rfl, hJx3⟩)
      · have HJ3 := Lib.hid hJ3
        have HB3 := Lib.hid ((below_drewN HB.out k).trans hb3)
        clear hb3
        clear hJ3 HYR hy hRR
        gi_wp2
        go_roundw
        case rel => exact ⟨pre ++ [X], R2, rfl, by simp, by omega, by simp; omega, HX2, HJ3, HB3⟩
        case measure => exact hlt
      · have HJX := Lib.hid hJx3
        clear hJx3 HYR hy hRR
        gi_wp2
        refine bodyPost_ret (results_none rfl _ _ _) rfl ?_
        exact ⟨⟨_, rfl⟩, .inr ⟨pre ++ [X], ⟨_, HX2.out.symm⟩, HJX.out⟩⟩
theorem lines_at (s : ByteArray) (w : World) :
    Calls Tryd.prog 12 #[.string s] w fun e w' => e = .returned (.func (.func 20) #[] #[.pointer (some ⟨w.heap.size, 0, none⟩)]) ∧ w' = w.alloc (.cells #[.string s] 9) := by
  have hmf : ∀ (fn : Fn) (first cap : Array Value) (w : World), (Instr.makeFunc fn first cap).run Tryd.prog w = .ok (.func fn first cap) w := fun _ _ _ _ => rfl
  go_enter Tryd.func12, Tryd.ntmps12
  go_wp2
  go_ret
  exact ⟨rfl, rfl⟩
theorem lines_stops (n : Nat) (hn : 1 ≤ n) (Bn : Nat) (s : ByteArray) (hs : s.size ≤ 3000000) (hq : (lnB s).length ≤ 60000) (w0 w : World) (hT : TabT w0) (hW0 : Below w0.heap.size w0 w) (hBn : Bn < w.heap.size) (hc : w.cell? ⟨Bn, 0, none⟩ = some (.string s)) :
    SeqStopsK Fence.wide n Tryd.prog 20 #[.pointer (some ⟨Bn, 0, none⟩)] (fun x : LX => #[.int .i64 (x.1.1 : Int), .string x.1.2]) (Below w0.heap.size) (fun ys => ys.map Subtype.val = enumL 1 (lnB s)) (fun pre => pre.map Subtype.val <+: enumL 1 (lnB s)) (lnB s).length w := fun l J Jx W hW hJ _ hY h0 =>
  lines1_in n hn l Bn s hs hq J Jx w0 W (fun pre A k hj _ => hJ pre A (A.drewN k) none hj ⟨rfl, rfl, rfl, Nat.le_refl _, fun _ _ _ => rfl⟩ (fun r e => by cases e)) hT (hW0.trans (hW.mono hW0.size)) hY ((hW.cell (p := ⟨Bn, 0, none⟩) hBn).trans hc) h0
end Go.Proofs.YtbfdklmljcdonaaDoor
