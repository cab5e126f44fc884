/- The document's fields: behind, item. -/
import Derived.Test.YtodibjpojfipoaaGreatDoorFxVl
namespace Go.Proofs.YtodibjpojfipoaaGreatDoor
open Go Go.RowKit
set_option linter.unusedVariables false
set_option linter.unusedSimpArgs false
set_option maxRecDepth 10000

theorem behF_eq (r : List Int) : behF (61 :: r) = valF r := rfl
theorem behF_ne {l : List Int} (h : ∀ r, l ≠ 61 :: r) : behF l = some (flagV 1, l) := by
  unfold behF
  split
  · rename_i r
    exact absurd rfl (h r)
  · rfl
theorem pairF_beh {l k r : List Int} (h : keyF l = some (k, r)) : pairF l = (behF r).map fun p => ((k, p.1), p.2) := by
  by_cases hr : ∃ q, r = 61 :: q
  · obtain ⟨q, rfl⟩ := hr
    rw [pairF_eq h, behF_eq]
  · rw [pairF_ne h (fun q e => hr ⟨q, e⟩), behF_ne (fun q e => hr ⟨q, e⟩)]
    rfl
def BhP (s : ByteArray) (i : Nat) (w : World) (e : Ending) (w' : World) : Prop := ∃ (v : VB) (r : Int), e = .returned (.tuple #[.agg #[.int .i64 v.k, .int .i64 v.n, .string v.s], .int .i64 r]) ∧ Below w.heap.size w w' ∧ v.s.size ≤ 1000000 ∧
  ((behF ((btL s).drop i) = none ∧ r = -1) ∨ ∃ k : Nat, i ≤ k ∧ k ≤ s.size ∧ r = (k : Int) ∧ behF ((btL s).drop i) = some (v.f, (btL s).drop k))
set_option maxHeartbeats 4000000 in
theorem rbehind_at (s : ByteArray) (hz : s.size ≤ 1000000) (i : Nat) (hi : i ≤ s.size) (w : World) : Calls Tryz.prog 122 #[.string s, .int .i64 (i : Int)] w (BhP s i w) := by
  have AT0 := Lib.hid (fun W : World => rat7_at s hz i (by omega) W)
  obtain ⟨c0, hc0⟩ : ∃ c, hdI ((btL s).drop i) = c := ⟨_, rfl⟩
  obtain ⟨ok0, hok0⟩ : ∃ b, decide (i < s.size) = b := ⟨_, rfl⟩
  rw [hc0, hok0] at AT0
  have HCD0 : Hid (ok0 = true → (btL s).drop i = c0 :: (btL s).drop (i + 1) ∧ i < s.size) := Lib.hid (fun h => by
    rw [h] at hok0
    have hlt := of_decide_eq_true hok0
    rw [← hc0, ln_cons s i hlt]
    exact ⟨rfl, hlt⟩)
  have HCN0 : Hid (ok0 = false → (btL s).drop i = []) := Lib.hid (fun h => by
    rw [h] at hok0
    have hlt := of_decide_eq_false hok0
    exact List.drop_eq_nil_of_le (by rw [btL_length]; omega))
  clear hc0 hok0
  obtain ⟨Q, hQ⟩ : ∃ b : Bool, (ok0 && c0 == 61) = b := ⟨_, rfl⟩
  have HQ := Lib.hid hQ
  clear hQ
  go_enter Tryz.func122, Tryz.ntmps122
  go_upto_region 1 with fail
  refine code_forget (fun W => Hid (Box W w.heap.size #[.int .i64 0, .int .i64 0, .string ⟨#[]⟩] 70) ∧ Hid (Below w.heap.size w W)) ⟨Lib.hid (Box.new w _ _), Lib.hid ((Below.refl w.heap.size w).alloc (Nat.le_refl _) _)⟩ ?_
  obtain ⟨rb, hrb⟩ : ∃ x, w.heap.size = x := ⟨_, rfl⟩
  have hrw : Hid (w.heap.size ≤ rb) := Lib.hid (Nat.le_of_eq hrb)
  rintro w1 ⟨BX, HB1⟩
  rw [hrb] at BX ⊢
  clear hrb
  go_wp2_with fail
  refine (AT0.out _).mono ?_
  rintro e wx ⟨rfl, hw⟩
  subst wx
  clear AT0
  go_upto_region 2 with fail
  go_cut [18] from 8 (fun v wx => v = .bool Q ∧ wx = w1)
  case first =>
    cases ok0 with
    | false =>
      have e : Q = false := by rw [← HQ.out]; rfl
      subst e
      go_wp2
      go_meet
      exact ⟨rfl, rfl⟩
    | true =>
      have e : (c0 == 61) = Q := by rw [← HQ.out]; rfl
      go_wp2
      go_meet
      exact ⟨rfl, rfl⟩
  case rest =>
  obtain ⟨rfl, he⟩ := hcut
  have he := he.symm
  subst he
  cases Q with
  | true =>
    have HL : Hid ((btL s).drop i = 61 :: (btL s).drop (i + 1) ∧ i < s.size) := Lib.hid (by
      have h := HQ.out
      rw [Bool.and_eq_true] at h
      obtain ⟨h1, h2⟩ := HCD0.out h.1
      rw [h1, beq_iff_eq.1 h.2]
      exact ⟨rfl, h2⟩)
    have hlt := HL.out.2
    have VL := Lib.hid (rvalue_at s hz (i + 1) (by omega) w1)
    have e1 : ((i + 1 : Nat) : Int) = (i : Int) + 1 := by omega
    rw [e1] at VL
    have hw1 : IntKind.i64.wrap ((i : Int) + 1) = (i : Int) + 1 := IntWalk.i64_in _ (by omega)
    clear e1 HCD0 HCN0
    go_wp2_with fail
    refine VL.out.mono ?_
    rintro e w2 ⟨v, r, rfl, hb, hvz, hd⟩
    have BX2 := Lib.hid (BX.out.later hb)
    have HB2 := Lib.hid (HB1.out.trans (hb.mono HB1.out.size))
    have HD := Lib.hid hd
    clear hb hd VL
    go_wp2_with (refine fStoreRow rfl rfl rfl rfl BX2.out rfl (by kernel_rfl) (by simp [Value.oneCell']) ?_)
    refine bodyPost_ret (results_cell_tmpF Tryz.results122 rfl (val_row (BX2.out.setRow _) rfl)) rfl ?_
    refine ⟨v, r, rfl, below_row HB2.out hrw.out _, hvz, ?_⟩
    rw [HL.out.1, behF_eq]
    rcases HD.out with h | ⟨k, k1, k2, k3, k4⟩
    · exact Or.inl h
    · exact Or.inr ⟨k, by omega, k2, k3, k4⟩
  | false =>
    have HF : Hid (behF ((btL s).drop i) = some (flagV 1, (btL s).drop i)) := Lib.hid (behF_ne (fun r e => by
      cases ok0 with
      | false => rw [HCN0.out rfl] at e; cases e
      | true =>
        rw [(HCD0.out rfl).1] at e
        injection e with e _
        have h := HQ.out
        rw [e] at h
        cases h))
    clear HCD0 HCN0
    go_wp2_with (refine fStoreRow rfl rfl rfl rfl BX.out rfl (by kernel_rfl) (by simp [Value.oneCell']) ?_)
    refine bodyPost_ret (results_cell_tmpF Tryz.results122 rfl (val_row (BX.out.setRow _) rfl)) rfl ?_
    exact ⟨⟨4, 1, ⟨#[]⟩⟩, (i : Int), rfl, below_row HB1.out hrw.out _, Nat.zero_le 1000000, Or.inr ⟨i, Nat.le_refl _, hi, rfl, HF.out⟩⟩
/-- An item that is being read. -/
structure It7 (w W : World) (rb qb : Nat) (k : PB) (ps : List PB) (n : Nat) (a : Option Addr) (cap : Nat) : Prop where
  res : Box W rb #[.string ⟨#[]⟩, .int .i64 0, .int .i64 0, .string ⟨#[]⟩, .slice none 0 0] 73
  box : Box W qb #[.string k.key, .int .i64 k.v.k, .int .i64 k.v.n, .string k.v.s, .slice a n cap] 73
  own : Own W (qb + 1) 110 4 a n cap (pbV ps)
  len : ps.length = n
  bel : Below w.heap.size w W
theorem It7.later {w W W' : World} {rb qb n cap : Nat} {k : PB} {ps : List PB} {a : Option Addr} (h : It7 w W rb qb k ps n a cap) (hb : Below W.heap.size W W') : It7 w W' rb qb k ps n a cap :=
  ⟨h.res.later hb, h.box.later hb, h.own.later hb, h.len, h.bel.trans (hb.mono h.bel.size)⟩
theorem It7.cell {w W : World} {rb qb n cap : Nat} {k : PB} {ps : List PB} {a : Option Addr} (h : It7 w W rb qb k ps n a cap) (hq : rb ≠ qb) (hw : w.heap.size ≤ qb) (j : Nat) (u : Value) (cs : Array Value) (hcs : (#[.string k.key, .int .i64 k.v.k, .int .i64 k.v.n, .string k.v.s, .slice a n cap] : Array Value).setIfInBounds j u = cs) :
    Box (W.setCell ⟨qb, j, none⟩ u) rb #[.string ⟨#[]⟩, .int .i64 0, .int .i64 0, .string ⟨#[]⟩, .slice none 0 0] 73 ∧ Box (W.setCell ⟨qb, j, none⟩ u) qb cs 73 ∧ Own (W.setCell ⟨qb, j, none⟩ u) (qb + 1) 110 4 a n cap (pbV ps) ∧ Below w.heap.size w (W.setCell ⟨qb, j, none⟩ u) := by
  subst hcs
  exact ⟨h.res.other (a := ⟨qb, j, none⟩) hq u, h.box.set j u, h.own.other (fun g e => by subst e; have := h.own.lt.1; show g ≠ qb; omega) u, h.bel.setCell (p := ⟨qb, j, none⟩) hw u⟩
theorem It7.key {w W : World} {rb qb n cap : Nat} {k : PB} {ps : List PB} {a : Option Addr} (h : It7 w W rb qb k ps n a cap) (hq : rb ≠ qb) (hw : w.heap.size ≤ qb) (x : ByteArray) : It7 w (W.setCell ⟨qb, 0, none⟩ (.string x)) rb qb ⟨x, k.v⟩ ps n a cap := by
  obtain ⟨h1, h2, h3, h4⟩ := h.cell hq hw 0 (.string x) _ rfl
  exact ⟨h1, h2, h3, h.len, h4⟩
theorem It7.val {w W : World} {rb qb n cap : Nat} {k : PB} {ps : List PB} {a : Option Addr} (h : It7 w W rb qb k ps n a cap) (hq : rb ≠ qb) (hw : w.heap.size ≤ qb) (v : VB) : It7 w (((W.setCell ⟨qb, 1, none⟩ (.int .i64 v.k)).setCell ⟨qb, 2, none⟩ (.int .i64 v.n)).setCell ⟨qb, 3, none⟩ (.string v.s)) rb qb ⟨k.key, v⟩ ps n a cap := by
  obtain ⟨h1, h2, h3, h4⟩ := h.cell hq hw 1 (.int .i64 v.k) _ rfl
  have i1 : It7 w (W.setCell ⟨qb, 1, none⟩ (.int .i64 v.k)) rb qb ⟨k.key, ⟨v.k, k.v.n, k.v.s⟩⟩ ps n a cap := ⟨h1, h2, h3, h.len, h4⟩
  obtain ⟨h1, h2, h3, h4⟩ := i1.cell hq hw 2 (.int .i64 v.n) _ rfl
  have i2 : It7 w _ rb qb ⟨k.key, ⟨v.k, v.n, k.v.s⟩⟩ ps n a cap := ⟨h1, h2, h3, h.len, h4⟩
  obtain ⟨h1, h2, h3, h4⟩ := i2.cell hq hw 3 (.string v.s) _ rfl
  exact ⟨h1, h2, h3, h.len, h4⟩
theorem It7.grown {w W W9 : World} {rb qb n cap g cap9 : Nat} {k p : PB} {ps : List PB} {a : Option Addr} (h : It7 w W rb qb k ps n a cap) (hq : rb < qb) (hw : w.heap.size ≤ qb) (ho : Own W9 (qb + 1) 110 4 (some ⟨g, 0, none⟩) (n + 1) cap9 (pbV (ps ++ [p]))) (hg : Below (qb + 1) W W9) :
    It7 w (W9.setCell ⟨qb, 4, none⟩ (.slice (some ⟨g, 0, none⟩) (n + 1) cap9)) rb qb k (ps ++ [p]) (n + 1) (some ⟨g, 0, none⟩) cap9 := by
  have b1 : Box W9 rb #[.string ⟨#[]⟩, .int .i64 0, .int .i64 0, .string ⟨#[]⟩, .slice none 0 0] 73 := (hg.block rb (by omega)).trans h.res
  have b2 : Box W9 qb #[.string k.key, .int .i64 k.v.k, .int .i64 k.v.n, .string k.v.s, .slice a n cap] 73 := (hg.block qb (by omega)).trans h.box
  exact ⟨b1.other (a := ⟨qb, 4, none⟩) (by show rb ≠ qb; omega) _, b2.set 4 _, ho.other (fun g' e => by injection e with e; injection e with e; subst e; have := ho.lt.1; show g ≠ qb; omega) _, by rw [List.length_append, h.len]; rfl, (h.bel.trans (hg.mono (by omega))).setCell (p := ⟨qb, 4, none⟩) hw _⟩
def ItP (s : ByteArray) (i : Nat) (w : World) (e : Ending) (w' : World) : Prop := ∃ (x : IX) (r : Int), e = .returned (.tuple #[.agg #[.string x.k.key, .int .i64 x.k.v.k, .int .i64 x.k.v.n, .string x.k.v.s, .slice x.a x.n x.cap], .int .i64 r]) ∧ Below w.heap.size w w' ∧
  ((itemF ((btL s).drop i) = none ∧ r = -1) ∨ ∃ k : Nat, i < k ∧ k ≤ s.size ∧ r = (k : Int) ∧ itemF ((btL s).drop i) = some (x.f, (btL s).drop k) ∧ x.ps.length = x.n ∧ Own w' w.heap.size 110 4 x.a x.n x.cap (pbV x.ps))
theorem It7.ret {w W : World} {rb qb n cap : Nat} {k : PB} {ps : List PB} {a : Option Addr} (h : It7 w W rb qb k ps n a cap) (hr : w.heap.size ≤ rb) (hq : rb < qb) (cs : Array Value) : Below w.heap.size w (W.setRow rb cs) ∧ Own (W.setRow rb cs) w.heap.size 110 4 a n cap (pbV ps) :=
  ⟨below_row h.bel hr _, (own_setRowF h.own (by omega)).mono (by omega)⟩
def stP : Option (FPar × List Int) → Option (List FPar × List Int)
  | none => none
  | some (p, r') => (PF r').map fun q => (p :: q.1, q.2)
theorem frz_blk {w w' : World} {b : Nat} (h : w'.heap[b]? = w.heap[b]?) (j : Nat) : w'.frozen? ⟨b, j, none⟩ = w.frozen? ⟨b, j, none⟩ := by
  unfold World.frozen?
  rw [h]
def msr7 (z : Nat) : Value → Nat
  | .int _ j => if j < 0 then 0 else z + 2 - j.toNat
  | _ => 0
theorem msr7_neg (z : Nat) : msr7 z (.int .i64 (-1)) = 0 := rfl
theorem msr7_nat (z j : Nat) : msr7 z (.int .i64 (j : Int)) = z + 2 - j := by
  show (if (j : Int) < 0 then 0 else z + 2 - (j : Int).toNat) = _
  rw [if_neg (by omega)]
  simp
/-- Where the loop over parameters stands. -/
def St7 (s : ByteArray) (i : Nat) (k : PB) (ps : List PB) (n : Nat) (r : Int) : Prop := (r = -1 ∧ itemF ((btL s).drop i) = none) ∨
  ∃ j : Nat, i < j ∧ j ≤ s.size ∧ r = (j : Int) ∧ n < j ∧ itemF ((btL s).drop i) = (PF ((btL s).drop j)).map fun q => (⟨btL k.key, k.v.f, ps.map PB.f ++ q.1⟩, q.2)
set_option maxHeartbeats 8000000 in
theorem ritem_at (s : ByteArray) (hz : s.size ≤ 1000000) (i : Nat) (hi : i ≤ s.size) (w : World) : Calls Tryz.prog 98 #[.string s, .int .i64 (i : Int)] w (ItP s i w) := by
  have AT0 := Lib.hid (fun W : World => rat7_at s hz i (by omega) W)
  obtain ⟨c0, hc0⟩ : ∃ c, hdI ((btL s).drop i) = c := ⟨_, rfl⟩
  obtain ⟨ok0, hok0⟩ : ∃ b, decide (i < s.size) = b := ⟨_, rfl⟩
  rw [hc0, hok0] at AT0
  have HCD0 : Hid (ok0 = true → (btL s).drop i = c0 :: (btL s).drop (i + 1) ∧ i < s.size) := Lib.hid (fun h => by
    rw [h] at hok0
    have hlt := of_decide_eq_true hok0
    rw [← hc0, ln_cons s i hlt]
    exact ⟨rfl, hlt⟩)
  have HCN0 : Hid (ok0 = false → (btL s).drop i = []) := Lib.hid (fun h => by
    rw [h] at hok0
    have hlt := of_decide_eq_false hok0
    exact List.drop_eq_nil_of_le (by rw [btL_length]; omega))
  clear hc0 hok0
  obtain ⟨Q, hQ⟩ : ∃ b : Bool, (ok0 && c0 == 34) = b := ⟨_, rfl⟩
  have HQ := Lib.hid hQ
  clear hQ
  go_enter Tryz.func98, Tryz.ntmps98
  go_upto_region 2 with fail
  refine code_forget (fun W => Hid (It7 w W w.heap.size (w.heap.size + 1) ⟨⟨#[]⟩, ⟨0, 0, ⟨#[]⟩⟩⟩ [] 0 none 0)) (Lib.hid ⟨(Box.new w _ _).alloc _, by
    have h := Box.new (w.alloc (.cells #[.string ⟨#[]⟩, .int .i64 0, .int .i64 0, .string ⟨#[]⟩, .slice none 0 0] 73)) #[.string ⟨#[]⟩, .int .i64 0, .int .i64 0, .string ⟨#[]⟩, .slice none 0 0] 73
    rw [World.size_alloc] at h
    exact h, Own.nil _ _ _ _, rfl, ((Below.refl w.heap.size w).alloc (Nat.le_refl _) _).alloc (by simp) _⟩) ?_
  obtain ⟨rb, hrb⟩ : ∃ x, w.heap.size = x := ⟨_, rfl⟩
  have HRB := Lib.hid hrb
  obtain ⟨qb, hqb⟩ : ∃ x, rb + 1 = x := ⟨_, rfl⟩
  rintro w1 H1
  rw [hrb] at H1 ⊢
  rw [hqb] at H1 ⊢
  have hwr : Hid (w.heap.size ≤ rb) := Lib.hid (by omega)
  have hwq : Hid (w.heap.size ≤ qb) := Lib.hid (by omega)
  have hlq : Hid (rb < qb) := Lib.hid (by omega)
  have hnq : Hid (rb ≠ qb) := Lib.hid (by omega)
  clear hrb hqb
  go_wp2_with fail
  refine (AT0.out _).mono ?_
  rintro e wx ⟨rfl, hw⟩
  subst wx
  clear AT0
  go_upto_region 3 with fail
  go_cut [25] from 14 (fun v wx => v = .bool Q ∧ wx = w1)
  case first =>
    cases ok0 with
    | false =>
      have e : Q = false := by rw [← HQ.out]; rfl
      subst e
      go_wp2
      go_meet
      exact ⟨rfl, rfl⟩
    | true =>
      have e : (c0 == 34) = Q := by rw [← HQ.out]; rfl
      go_wp2
      go_meet
      exact ⟨rfl, rfl⟩
  case rest =>
  obtain ⟨rfl, he⟩ := hcut
  have he := he.symm
  subst he
  go_upto_if 25 with fail
  go_cut [1] from 14 (fun v wx => ∃ (k : PB) (r : Int), v = .int .i64 r ∧ Hid (It7 w wx rb qb k [] 0 none 0) ∧ Hid (St7 s i k [] 0 r))
  case first =>
    cases Q with
    | true =>
      have HL : Hid ((btL s).drop i = 34 :: (btL s).drop (i + 1) ∧ i < s.size) := Lib.hid (by
        have h := HQ.out
        rw [Bool.and_eq_true] at h
        obtain ⟨h1, h2⟩ := HCD0.out h.1
        rw [h1, beq_iff_eq.1 h.2]
        exact ⟨rfl, h2⟩)
      have hlt := HL.out.2
      clear HCD0 HCN0
      have QT := Lib.hid (fun W : World => rquoted_at s hz i hlt W)
      have x1 := H1.out.box.cell 1
      have x2 := H1.out.box.cell 2
      have x3 := H1.out.box.cell 3
      have z1 := H1.out.box.free 1
      have z2 := H1.out.box.free 2
      have z3 := H1.out.box.free 3
      have l1 := H1.out.box.lt
      go_upto_region 5 with fail
      refine code_forget (fun W => Hid (It7 w W rb qb ⟨⟨#[]⟩, ⟨4, 1, ⟨#[]⟩⟩⟩ [] 0 none 0)) (Lib.hid (H1.out.val hnq.out hwq.out ⟨4, 1, ⟨#[]⟩⟩)) ?_
      rintro w2 H2
      clear x1 x2 x3 z1 z2 z3 l1 H1
      go_wp2_with fail
      refine (QT.out _).mono ?_
      rintro e w3 ⟨t, r, rfl, hb, htz, hn, hy⟩
      have H3 := Lib.hid (H2.out.later hb)
      have HN := Lib.hid hn
      have HY := Lib.hid hy
      have x0 := H3.out.box.cell 0
      have z0 := H3.out.box.free 0
      have l0 := H3.out.box.lt
      clear hb hn hy H2 QT
      have H4 := Lib.hid (H3.out.key hnq.out hwq.out t)
      go_wp2
      go_meet
      refine ⟨_, r, rfl, H4, Lib.hid ?_⟩
      have hh : headF ((btL s).drop i) = (textG ((btL s).drop (i + 1))).map fun p => ((p.1, flagV 1), p.2) := by rw [HL.out.1]; rfl
      cases ho : textG ((btL s).drop (i + 1)) with
      | none =>
        rw [ho] at hh
        exact Or.inl ⟨(HN.out ho).1, itemF_none hh⟩
      | some p =>
        obtain ⟨k, k1, k2, k3, k4⟩ := HY.out p ho
        rw [ho] at hh
        have hk : i < k := by
          have h1 := textG_len _ _ _ _ (Nat.le_refl _) ho
          rw [k3, List.length_drop, List.length_drop, btL_length] at h1
          omega
        refine Or.inr ⟨k, hk, k1, k2, by omega, ?_⟩
        rw [itemF_pf hh, ← k3, k4]
        rfl
    | false =>
      have HHF : Hid (headF ((btL s).drop i) = pairF ((btL s).drop i)) := Lib.hid (by
        cases ok0 with
        | false => rw [HCN0.out rfl]; rfl
        | true =>
          rw [(HCD0.out rfl).1]
          refine head_pair (v := c0) rfl (fun e => ?_)
          have h := HQ.out
          rw [e] at h
          cases h)
      clear HCD0 HCN0
      have KY := Lib.hid (rkey_at s hz i hi w1)
      go_wp2_with fail
      refine KY.out.mono ?_
      rintro e wx ⟨r0, rfl, hw, hd⟩
      subst wx
      rcases hd with ⟨hn, rfl⟩ | ⟨k, hik, hks, rfl, hkf⟩
      · have HF : Hid (itemF ((btL s).drop i) = none) := Lib.hid (itemF_none (by rw [HHF.out]; exact pairF_none hn))
        clear hn KY
        go_upto_region 8 with fail
        refine wp_region_lit ?_
        refine fLoadv rfl rfl rfl (ite_row H1.out.box rfl) ?_
        refine fStoreRow rfl rfl rfl rfl H1.out.res rfl (by kernel_rfl) (by simp [Value.oneCell']) ?_
        go_wp2
        refine bodyPost_ret (results_cell_tmpF Tryz.results98 rfl (ite_row (H1.out.res.setRow _) rfl)) rfl ?_
        exact ⟨⟨⟨⟨#[]⟩, ⟨0, 0, ⟨#[]⟩⟩⟩, [], 0, none, 0⟩, -1, rfl, (H1.out.ret hwr.out hlq.out _).1, Or.inl ⟨HF.out, rfl⟩⟩
      · have HKF := Lib.hid hkf
        have kd : decide ((k : Int) < 0) = false := decide_eq_false (by omega)
        have i0 : (0 : Int) ≤ (i : Int) := by omega
        have i1 : (i : Int) ≤ (k : Int) := by omega
        have i2 : (k : Int) ≤ (s.size : Int) := by omega
        have HLT : Hid (i < k) := Lib.hid (by
          have h := keyF_len hkf
          rw [List.length_drop, List.length_drop, btL_length] at h
          omega)
        obtain ⟨x, hx⟩ : ∃ x, s.extract i k = x := ⟨_, rfl⟩
        have HX := Lib.hid hx
        have x0 := H1.out.box.cell 0
        have z0 := H1.out.box.free 0
        have l0 := H1.out.box.lt
        have H2 := Lib.hid (H1.out.key hnq.out hwq.out x)
        clear hkf KY
        go_upto_region 10 with fail
        refine code_forget (fun W => Hid (It7 w W rb qb ⟨x, ⟨0, 0, ⟨#[]⟩⟩⟩ [] 0 none 0)) H2 ?_
        rintro w2 H2
        clear x0 z0 l0 i0 i1 i2 hx H1
        have BH := Lib.hid (rbehind_at s hz k hks w2)
        go_wp2_with fail
        refine BH.out.mono ?_
        rintro e w3 ⟨v, r, rfl, hb, hvz, hd⟩
        have H3 := Lib.hid (H2.out.later hb)
        have HD := Lib.hid hd
        have x1 := H3.out.box.cell 1
        have x2 := H3.out.box.cell 2
        have x3 := H3.out.box.cell 3
        have z1 := H3.out.box.free 1
        have z2 := H3.out.box.free 2
        have z3 := H3.out.box.free 3
        have l1 := H3.out.box.lt
        have H4 := Lib.hid (H3.out.val hnq.out hwq.out v)
        clear hb hd H2 BH
        go_wp2
        go_meet
        refine ⟨_, r, rfl, H4, Lib.hid ?_⟩
        have hp : headF ((btL s).drop i) = (behF ((btL s).drop k)).map fun p => ((btL x, p.1), p.2) := by rw [HHF.out, pairF_beh HKF.out, HX.out]
        rcases HD.out with ⟨h1, h2⟩ | ⟨j, j1, j2, j3, j4⟩
        · rw [h1] at hp
          exact Or.inl ⟨h2, itemF_none hp⟩
        · rw [j4] at hp
          refine Or.inr ⟨j, by have := HLT.out; omega, j2, j3, by have := HLT.out; omega, ?_⟩
          rw [itemF_pf hp]
          rfl
  case rest =>
  obtain ⟨k0, r0, rfl, H5, HS⟩ := hcut
  clear HQ HCD0 HCN0 H1
  go_wp2_with fail
  go_loopw [1] (fun v wr => ∃ (ps : List PB) (n : Nat) (a : Option Addr) (cap : Nat) (r : Int), v = .int .i64 r ∧ n ≤ 1000000 ∧ Hid (It7 w wr rb qb k0 ps n a cap) ∧ Hid (St7 s i k0 ps n r)) (fun v _ => msr7 s.size v)
  case atStart => exact ⟨[], 0, none, 0, r0, rfl, by omega, H5, HS⟩
  case round =>
    obtain ⟨ps, n, a, cap, r, rfl, hn6, H6, HST⟩ := hrel
    clear H5 HS
    rcases HST.out with ⟨rfl, hnone⟩ | ⟨j, hij, hjs, rfl, hnj, hpf⟩
    · have HF := Lib.hid hnone
      clear hnone HST
      go_upto_region 24 with fail
      refine wp_region_lit ?_
      refine fLoadv rfl rfl rfl (ite_row H6.out.box rfl) ?_
      refine fStoreRow rfl rfl rfl rfl H6.out.res rfl (by kernel_rfl) (by simp [Value.oneCell']) ?_
      go_wp2
      refine bodyPost_ret (results_cell_tmpF Tryz.results98 rfl (ite_row (H6.out.res.setRow _) rfl)) rfl ?_
      exact ⟨⟨k0, ps, n, a, cap⟩, -1, rfl, (H6.out.ret hwr.out hlq.out _).1, Or.inl ⟨HF.out, rfl⟩⟩
    · have HPF := Lib.hid hpf
      clear hpf HST
      have jd : decide ((0 : Int) ≤ (j : Int)) = true := decide_eq_true (by omega)
      have AT1 := Lib.hid (fun W : World => rat7_at s hz j (by omega) W)
      obtain ⟨c1, hc1⟩ : ∃ c, hdI ((btL s).drop j) = c := ⟨_, rfl⟩
      obtain ⟨ok1, hok1⟩ : ∃ b, decide (j < s.size) = b := ⟨_, rfl⟩
      rw [hc1, hok1] at AT1
      have HCD1 : Hid (ok1 = true → (btL s).drop j = c1 :: (btL s).drop (j + 1) ∧ j < s.size) := Lib.hid (fun h => by
        rw [h] at hok1
        have hlt := of_decide_eq_true hok1
        rw [← hc1, ln_cons s j hlt]
        exact ⟨rfl, hlt⟩)
      have HCN1 : Hid (ok1 = false → (btL s).drop j = []) := Lib.hid (fun h => by
        rw [h] at hok1
        have hlt := of_decide_eq_false hok1
        exact List.drop_eq_nil_of_le (by rw [btL_length]; omega))
      clear hc1 hok1
      obtain ⟨Q, hQ⟩ : ∃ b : Bool, (!ok1 || c1 != 59) = b := ⟨_, rfl⟩
      have HQ := Lib.hid hQ
      clear hQ
      go_wp2_with fail
      refine (AT1.out _).mono ?_
      rintro e wx ⟨rfl, hw⟩
      subst wx
      clear AT1
      go_upto_region 13 with fail
      go_cut [66] from 53 to 106 (fun v wx => v = .bool Q ∧ wx = wr)
      case first =>
        cases ok1 with
        | false =>
          have e : Q = true := by rw [← HQ.out]; rfl
          subst e
          go_wp2
          go_meet
          exact ⟨rfl, rfl⟩
        | true =>
          have e : (c1 != 59) = Q := by rw [← HQ.out]; rfl
          go_wp2
          go_meet
          exact ⟨rfl, rfl⟩
      case rest =>
      obtain ⟨rfl, he⟩ := hcut
      have he := he.symm
      subst he
      cases Q with
      | true =>
        have HF : Hid (itemF ((btL s).drop i) = some (⟨btL k0.key, k0.v.f, ps.map PB.f⟩, (btL s).drop j)) := Lib.hid (by
          have hc : cutS [59] ((btL s).drop j) = none := by
            cases ok1 with
            | false => rw [HCN1.out rfl]; rfl
            | true =>
              rw [(HCD1.out rfl).1]
              have h := HQ.out
              cases hh : cutS [59] (c1 :: (btL s).drop (j + 1)) with
              | none => rfl
              | some q =>
                have e := cutS59 hh
                injection e with e _
                rw [e] at h
                cases h
          rw [HPF.out, PF_end hc]
          simp)
        clear HCD1 HCN1 HPF HQ
        go_upto_region 14 with fail
        refine wp_region_lit ?_
        refine fLoadv rfl rfl rfl (ite_row H6.out.box rfl) ?_
        go_wp2_with (refine fStoreRow rfl rfl rfl rfl H6.out.res rfl (by kernel_rfl) (by simp [Value.oneCell']) ?_)
        refine bodyPost_ret (results_cell_tmpF Tryz.results98 rfl (ite_row (H6.out.res.setRow _) rfl)) rfl ?_
        exact ⟨⟨k0, ps, n, a, cap⟩, (j : Int), rfl, (H6.out.ret hwr.out hlq.out _).1, Or.inr ⟨j, hij, hjs, rfl, HF.out, H6.out.len, (H6.out.ret hwr.out hlq.out _).2⟩⟩
      | false =>
        have HL : Hid ((btL s).drop j = 59 :: (btL s).drop (j + 1) ∧ j < s.size) := Lib.hid (by
          have h := HQ.out
          rw [Bool.or_eq_false_iff] at h
          obtain ⟨h1, h2⟩ := HCD1.out (by simpa using h.1)
          have h3 : c1 = 59 := by simpa using h.2
          rw [h1, h3]
          exact ⟨rfl, h2⟩)
        have hjlt := HL.out.2
        clear HCD1 HCN1 HQ
        go_wp2_with fail
        go_loop [1] (fun v => ∃ k : Nat, v = .int .i64 (k : Int) ∧ j + 1 ≤ k ∧ k ≤ s.size ∧ Hid (((btL s).drop (j + 1)).dropWhile sp1 = ((btL s).drop k).dropWhile sp1)) (fun v => s.size - (intOf v).toNat)
        case atStart => exact ⟨j + 1, by go_num, by omega, by omega, Lib.hid rfl⟩
        case round =>
          obtain ⟨k, rfl, hjk, hks, HD⟩ := hrel
          obtain ⟨Q2, hQ2⟩ : ∃ b : Bool, (decide (k < s.size) && hdI ((btL s).drop k) == 32) = b := ⟨_, rfl⟩
          have HQ2 := Lib.hid hQ2
          clear hQ2
          go_upto_region 16 with fail
          go_cut [80] from 71 to 82 (fun v wx => v = .bool Q2 ∧ wx = wr)
          case first =>
            by_cases hlt : k < s.size
            · have kd : decide ((k : Int) < (s.size : Int)) = true := decide_eq_true (by omega)
              have kd2 : decide (k < s.size) = true := decide_eq_true hlt
              obtain ⟨c, hc⟩ : ∃ d : Int, (s[k].toNat : Int) = d := ⟨_, rfl⟩
              have e : (c == 32) = Q2 := by
                rw [← HQ2.out, kd2, ln_cons s k hlt, hc]
                rfl
              have kx0 : (0 : Int) ≤ (k : Int) := by omega
              have kx1 : (k : Int) < (s.size : Int) := by omega
              go_wp2
              go_meet
              exact ⟨rfl, rfl⟩
            · have kd : decide ((k : Int) < (s.size : Int)) = false := decide_eq_false (by omega)
              have kd2 : decide (k < s.size) = false := decide_eq_false hlt
              have e : Q2 = false := by rw [← HQ2.out, kd2]; rfl
              subst e
              go_wp2
              go_meet
              exact ⟨rfl, rfl⟩
          case rest =>
          obtain ⟨rfl, he⟩ := hcut
          have he := he.symm
          subst he
          cases Q2 with
          | true =>
            have h := HQ2.out
            rw [Bool.and_eq_true, decide_eq_true_eq, beq_iff_eq] at h
            have hlt := h.1
            have HD2 : Hid (((btL s).drop (j + 1)).dropWhile sp1 = ((btL s).drop (k + 1)).dropWhile sp1) := Lib.hid (by
              have hc : (s[k].toNat : Int) = 32 := by
                have := h.2
                rw [ln_cons s k hlt] at this
                exact this
              rw [HD.out, ln_cons s k hlt, List.dropWhile_cons, if_pos (by rw [hc]; rfl)])
            clear h HQ2
            go_wp2
            go_round
            case rel => exact ⟨k + 1, by go_num, by omega, by omega, HD2⟩
            case measure => simp [intOf]; omega
          | false =>
            have HE : Hid (((btL s).drop (j + 1)).dropWhile sp1 = (btL s).drop k) := Lib.hid (by
              rw [HD.out]
              by_cases hlt : k < s.size
              · rw [ln_cons s k hlt, List.dropWhile_cons, if_neg]
                intro hh
                have h3 : (s[k].toNat : Int) = 32 := by
                  unfold sp1 at hh
                  exact beq_iff_eq.1 hh
                have h := HQ2.out
                rw [ln_cons s k hlt, h3] at h
                simp [hdI, hlt] at h
              · rw [List.drop_eq_nil_of_le (by rw [btL_length]; omega)]
                rfl)
            have HPS : Hid (PF ((btL s).drop j) = stP (pairF ((btL s).drop k))) := Lib.hid (by
              have hc : cutS [59] ((btL s).drop j) = some ((btL s).drop (j + 1)) := by rw [HL.out.1, cut_one]; dsimp only; rw [if_pos rfl]
              rw [PF_step hc, HE.out]
              unfold stP
              rfl)
            have HPI : Hid (itemF ((btL s).drop i) = (stP (pairF ((btL s).drop k))).map fun q => (⟨btL k0.key, k0.v.f, ps.map PB.f ++ q.1⟩, q.2)) := Lib.hid (by rw [HPF.out, HPS.out])
            clear HQ2 HD HE HPS HPF HL
            have KY := Lib.hid (rkey_at s hz k hks wr)
            go_wp2_with fail
            refine KY.out.mono ?_
            rintro e wx ⟨r1, rfl, hw, hd⟩
            subst wx
            clear KY
            rcases hd with ⟨hn, rfl⟩ | ⟨e1, hke, hes, rfl, hkf⟩
            · have HF : Hid (itemF ((btL s).drop i) = none) := Lib.hid (by rw [HPI.out, pairF_none hn]; rfl)
              clear hn HPI
              go_upto_region 20 with fail
              refine wp_region_lit ?_
              refine fLoadv rfl rfl rfl (ite_row H6.out.box rfl) ?_
              refine fStoreRow rfl rfl rfl rfl H6.out.res rfl (by kernel_rfl) (by simp [Value.oneCell']) ?_
              go_wp2
              refine bodyPost_ret (results_cell_tmpF Tryz.results98 rfl (ite_row (H6.out.res.setRow _) rfl)) rfl ?_
              exact ⟨⟨k0, ps, n, a, cap⟩, -1, rfl, (H6.out.ret hwr.out hlq.out _).1, Or.inl ⟨HF.out, rfl⟩⟩
            · have HKF := Lib.hid hkf
              have kd : decide ((e1 : Int) < 0) = false := decide_eq_false (by omega)
              have i0 : (0 : Int) ≤ (k : Int) := by omega
              have i1 : (k : Int) ≤ (e1 : Int) := by omega
              have i2 : (e1 : Int) ≤ (s.size : Int) := by omega
              have HLT : Hid (k < e1) := Lib.hid (by
                have h := keyF_len hkf
                rw [List.length_drop, List.length_drop, btL_length] at h
                omega)
              obtain ⟨x, hx⟩ : ∃ x, s.extract k e1 = x := ⟨_, rfl⟩
              have HX := Lib.hid hx
              clear hkf
              go_upto_region 22 with fail
              refine code_forget (fun W => Hid (Box W wr.heap.size #[.string x, .int .i64 0, .int .i64 0, .string ⟨#[]⟩] 110) ∧ Hid (Below wr.heap.size wr W)) ⟨Lib.hid (Box.new wr _ _), Lib.hid ((Below.refl wr.heap.size wr).alloc (Nat.le_refl _) _)⟩ ?_
              obtain ⟨pb, hpb⟩ : ∃ z, wr.heap.size = z := ⟨_, rfl⟩
              have HPB := Lib.hid hpb
              rintro w2 ⟨PX, BL⟩
              rw [hpb] at PX ⊢
              clear hpb i0 i1 i2 hx
              have BH := Lib.hid (rbehind_at s hz e1 hes w2)
              go_wp2_with fail
              refine BH.out.mono ?_
              rintro e w3 ⟨v, r2, rfl, hb, hvz, hd⟩
              have PX3 := Lib.hid (PX.out.later hb)
              have BL3 := Lib.hid (BL.out.trans (hb.mono BL.out.size))
              have HD := Lib.hid hd
              have x1 := PX3.out.cell 1
              have x2 := PX3.out.cell 2
              have x3 := PX3.out.cell 3
              have z1 := PX3.out.free 1
              have z2 := PX3.out.free 2
              have z3 := PX3.out.free 3
              have l1 := PX3.out.lt
              clear hb hd PX BL BH
              go_upto_region 23 with fail
              refine code_forget (fun W => Hid (Box W pb #[.string x, .int .i64 v.k, .int .i64 v.n, .string v.s] 110) ∧ Hid (Below wr.heap.size wr W)) ⟨Lib.hid (((PX3.out.set 1 (.int .i64 v.k)).set 2 (.int .i64 v.n)).set 3 (.string v.s)), Lib.hid (((BL3.out.setCell (p := ⟨pb, 1, none⟩) (Nat.le_of_eq HPB.out) _).setCell (p := ⟨pb, 2, none⟩) (Nat.le_of_eq HPB.out) _).setCell (p := ⟨pb, 3, none⟩) (Nat.le_of_eq HPB.out) _)⟩ ?_
              clear x1 x2 x3 z1 z2 z3 l1 PX3 BL3
              rintro w4 ⟨PX4, BL4⟩
              have H7 := Lib.hid (H6.out.later BL4.out)
              have y4 := H7.out.box.cell 4
              have u4 := H7.out.box.free 4
              have ly := H7.out.box.lt
              have x0 := PX4.out.cell 0
              have x1 := PX4.out.cell 1
              have x2 := PX4.out.cell 2
              have x3 := PX4.out.cell 3
              have HST2 : Hid (St7 s i k0 (ps ++ [⟨x, v⟩]) (n + 1) r2) := Lib.hid (by
                have hp : pairF ((btL s).drop k) = (behF ((btL s).drop e1)).map fun p => ((btL x, p.1), p.2) := by rw [pairF_beh HKF.out, HX.out]
                rcases HD.out with ⟨h1, h2⟩ | ⟨j2, g1, g2, g3, g4⟩
                · refine Or.inl ⟨h2, ?_⟩
                  rw [HPI.out, hp, h1]
                  rfl
                · refine Or.inr ⟨j2, by have := HLT.out; omega, g2, g3, by have := HLT.out; omega, ?_⟩
                  rw [HPI.out, hp, g4]
                  show ((PF ((btL s).drop j2)).map _).map _ = _
                  rw [Option.map_map]
                  congr 1
                  funext q
                  simp [PB.f])
              have HMS : Hid (msr7 s.size (.int .i64 r2) < msr7 s.size (.int .i64 (j : Int))) := Lib.hid (by
                rcases HD.out with ⟨_, h2⟩ | ⟨j2, g1, g2, g3, _⟩
                · rw [h2, msr7_neg, msr7_nat]
                  omega
                · rw [g3, msr7_nat, msr7_nat]
                  have := HLT.out
                  omega)
              clear HD HPI HKF HX HLT
              go_wp2_with (at_builtin; refine wpList_app1 rowPar rfl _ _ rfl (qb + 1) a n cap (pbV ps) rfl H7.out.own #[.string x, .int .i64 v.k, .int .i64 v.n, .string v.s] rfl rfl (pbone x v) (by omega) (by decide) (by omega) (n + 1) rfl (pbV (ps ++ [(⟨x, v⟩ : PB)])) (pbV_snoc ps (⟨x, v⟩ : PB)) ?_; rintro g9 cap9 w9 own9 _ bel9 _; have NX := Lib.hid (H7.out.grown (p := ⟨x, v⟩) hlq.out hwq.out own9 bel9); have y9 : w9.cell? ⟨qb, 4, none⟩ = some (.slice a n cap) := (bel9.cell (show qb < qb + 1 by omega)).trans y4; have u9 : w9.frozen? ⟨qb, 4, none⟩ = false := (frz_blk (bel9.block qb (by omega)) 4).trans u4; have ly9 : qb < w9.heap.size := Nat.lt_of_lt_of_le ly bel9.size; clear own9 bel9 x0 x1 x2 x3 y4 u4 ly)
              go_roundw
              case rel => exact ⟨ps ++ [⟨x, v⟩], n + 1, some ⟨g9, 0, none⟩, cap9, r2, rfl, by omega, NX, HST2⟩
              case measure => exact HMS.out
end Go.Proofs.YtodibjpojfipoaaGreatDoor
