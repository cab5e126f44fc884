/- PolicyPolite, walked. -/
import Derived.Test.YtonfbkffngplcaaPolZ
import Derived.Test.YtonfbkffngplcaaForget
import Derived.Test.YtonfbkffngplcaaDeep
import Derived.Test.YtonfbkffngplcaaRow
import Derived.OpenShut
import Derived.IntWalk
import Derived.Deep.Cut
import Derived.Deep.CutRange
import Derived.Deep.DeepCutAuto
namespace Go.Proofs.Ytonfbkffngplcaa
open Go.RowKit

theorem mostP_le (b m e : Int) (hm : 0 ≤ m) : 0 ≤ mostI b m e ∧ mostI b m e ≤ m := by unfold mostI; split <;> omega
theorem jitP_le (x d : Int) (h0 : 0 ≤ x) (h1 : x ≤ 9000) : 0 ≤ jitI x d ∧ jitI x d ≤ 9000 := by
  have e1 : max 0 (min x 1099511627776) = x := by omega
  unfold jitI
  rw [e1]
  obtain ⟨h, _, g1, g2⟩ := half_mul x (max 0 (min d 1000)) h0 (by omega) (by omega) (by omega)
  omega
theorem addP_in (a b : Int) (h : 0 ≤ a) (h1 : a ≤ 1000000000) (h2 : 0 ≤ b) (h3 : b ≤ 1000000000) : addI a b = a + b := by
  unfold addI
  rw [clampI_id (a := a) (by omega) (by omega), clampI_id (a := b) (by omega) (by omega), clampI_id (by omega) (by omega)]
theorem eligP_never (c : Cfg) (p : Pol) (x : Int) (h : c.cap ≤ p.flying ∨ (p.state ≠ 0 ∧ 0 < p.flying)) : eligP c p x = 4611686018427387903 := by
  unfold eligP
  rw [if_pos h]
theorem eligP_at (c : Cfg) (p : Pol) (x m : Int) (h : ¬ (c.cap ≤ p.flying ∨ (p.state ≠ 0 ∧ 0 < p.flying))) (h3 : p.retry ≤ m) (h4 : p.reset ≤ m) (h5 : p.till ≤ m) (h6 : 0 ≤ m) (h7 : 0 ≤ p.last → x ≤ m) :
    0 ≤ eligP c p x ∧ eligP c p x ≤ m ∧ p.retry ≤ eligP c p x ∧ (0 ≤ p.last → x ≤ eligP c p x) ∧ (p.state = 1 → p.till ≤ eligP c p x) := by
  unfold eligP
  rw [if_neg h]
  split <;> (split <;> (refine ⟨?_, ?_, ?_, ?_, ?_⟩ <;> omega))
theorem failU_in (s f t now : Int) (h0 : 0 ≤ now) (h1 : now ≤ 100000000) (ht : 0 ≤ t) (ht2 : t ≤ now + 200) : 0 ≤ failU s f t now 3 200 ∧ failU s f t now 3 200 ≤ now + 200 := by
  unfold failU failT
  rw [addP_in now 200 h0 (by omega) (by omega) (by omega)]
  split <;> omega
section
open Go.Joins Go.Deep Go.WideShapes
variable {H : Type} {enc : TypeId × Value → H} {w : World} {base b0 : Nat} {held : Bool} {rr : Reach}
/-- The acts that a slice holds. -/
def IsActs (w : World) (x : Option Addr × Nat × Nat) : Prop :=
  ∃ b off, (0 < x.2.1 → x.1 = some ⟨b, off, none⟩) ∧ x.2.1 ≤ maxLen ∧ ∃ A : Nat → Int × Int × Int × Int, ∀ i, i < x.2.1 → w.cell? ⟨b, off + i * 4, none⟩ = some (.int .i64 (A i).1) ∧ w.cell? ⟨b, off + i * 4 + 1, none⟩ = some (.int .i64 (A i).2.1) ∧ w.cell? ⟨b, off + i * 4 + 2, none⟩ = some (.int .i64 (A i).2.2.1) ∧ w.cell? ⟨b, off + i * 4 + 3, none⟩ = some (.int .i64 (A i).2.2.2)
theorem open_acts {v : Value} {d : DataW H} {p : List MemPlace} (hv : Value.okWide Try.prog w rr b0 22 v) (hd : DataW.Trod enc Try.prog w base (fun _ => true) held 22 v d p) :
    ∃ x : Option Addr × Nat × Nat, v = .slice x.1 x.2.1 x.2.2 ∧ IsActs w x := by
  obtain ⟨a, len, cap, rfl⟩ := okWide_slice Try.underlying22 hv
  refine ⟨(a, len, cap), rfl, ?_⟩
  have h : Fits enc Try.prog w base (fun _ => true) held 22 [.slice a len cap] := Fits.of hd
  obtain ⟨C, ⟨rfl, rfl, rfl⟩ | ⟨x, rfl, hl, hm, hx⟩⟩ := h.elems Try.underlying22 (n := 4) (by kernel_rfl)
  · exact ⟨0, 0, fun h => absurd h (by decide), by decide, fun _ => (0, 0, 0, 0), fun i hi => absurd hi (Nat.not_lt_zero i)⟩
  · by_cases h0 : 0 < cap
    · obtain ⟨b, off, rfl, hc⟩ := plain_at (by decide) (fun i hi => ⟨(hx i hi).1, (hx i hi).2.2⟩) h0
      have key : ∀ i, i < cap → ∃ q : Int × Int × Int × Int, (C i)[0]? = some (.int .i64 q.1) ∧ (C i)[1]? = some (.int .i64 q.2.1) ∧ (C i)[2]? = some (.int .i64 q.2.2.1) ∧ (C i)[3]? = some (.int .i64 q.2.2.2) := fun i hi => by
        obtain ⟨x0, h0, _⟩ := (hx i hi).2.1.int Try.underlying32 0 0 rfl rfl rfl Try.underlying3 (by kernel_rfl)
        obtain ⟨x1, h1, _⟩ := (hx i hi).2.1.int Try.underlying32 1 1 rfl rfl rfl Try.underlying3 (by kernel_rfl)
        obtain ⟨x2, h2, _⟩ := (hx i hi).2.1.int Try.underlying32 2 2 rfl rfl rfl Try.underlying3 (by kernel_rfl)
        obtain ⟨x3, h3, _⟩ := (hx i hi).2.1.int Try.underlying32 3 3 rfl rfl rfl Try.underlying3 (by kernel_rfl)
        exact ⟨(x0, x1, x2, x3), h0, h1, h2, h3⟩
      refine ⟨b, off, fun _ => rfl, (by omega : len ≤ maxLen), fun i => if hi : i < cap then Classical.choose (key i hi) else (0, 0, 0, 0), fun i hi => ?_⟩
      have hi : i < cap := Nat.lt_of_lt_of_le hi hl
      simp only [dif_pos hi]
      obtain ⟨k1, k2, k3, k4⟩ := Classical.choose_spec (key i hi)
      exact ⟨hc i hi 0 _ k1, hc i hi 1 _ k2, hc i hi 2 _ k3, hc i hi 3 _ k4⟩
    · obtain rfl : cap = 0 := by omega
      obtain rfl : len = 0 := by omega
      exact ⟨0, 0, fun h => absurd h (Nat.lt_irrefl 0), Nat.zero_le _, fun _ => (0, 0, 0, 0), fun i hi => absurd hi (Nat.not_lt_zero i)⟩
end
theorem tmod_in (x : Int) : -999 ≤ x.tmod 1000 ∧ x.tmod 1000 ≤ 999 := by
  rw [Int.tmod_eq_emod]
  split <;> omega

section
variable {P : Program} {ops : Array Oper} {Q : Exit → Act → World → Prop} {rest : List Oper} {act : Act} {w : World} {o : Oper}
theorem poL_loadv (hgd : o.guard = none) {ty : TypeId} {x : Operand} (ho : o.op = .load ty x) {p : Addr} {v : Value} (hx : act.eval x = .pointer (some p)) (hl : (loadVar ty p).run P w = .ok v w)
    (h : wpList P ops Q rest (act.put o.dst v) w) : wpList P ops Q (o :: rest) act w := by
  refine wpList_plain hgd fun K hK => ?_
  unfold Oper.wp execOp
  simp only [ho, hx, Instr.loadAt, Instr.sureAddr, Sem.run_bind, Sem.run_pure, Result.andThen_ok, hl]
  exact hK _ _ h
theorem poL_storeRow (hgd : o.guard = none) {ty : TypeId} {x y : Operand} (ho : o.op = .store ty x y) {g : Nat} {cells cs : Array Value} {t : TypeId} (hx : act.eval x = .pointer (some ⟨g, 0, none⟩)) (hy : act.eval y = .agg cells)
    (hb : Box w g cs t) (hn : cs.size = cells.size) (hi : cellsFor P ty = some cells.size) (h1 : cells.all (·.oneCell') = true)
    (h : wpList P ops Q rest (act.put o.dst undef) (w.setRow g cells)) : wpList P ops Q (o :: rest) act w := by
  refine wpList_plain hgd fun K hK => ?_
  have hs := storeAt_row (P := P) (w := w) (g := g) (ty := ty) (cells := cells) (hn ▸ hb.room) hi h1
  unfold Oper.wp execOp
  simp only [ho, hx, hy, Sem.run_bind, Sem.run_pure, hs, Result.andThen_ok]
  exact hK _ _ h
end
theorem box_row_other {w : World} {b g : Nat} {cs cs' : Array Value} {t : TypeId} (h : Box w b cs t) (hne : g ≠ b) : Box (w.setRow g cs') b cs t :=
  h.otherRow (fun e => hne e.symm) cs'
theorem cfg_rowP {w : World} {g : Nat} {cs : Array Value} (h : Box w g cs 24) (hs : cs.size = 14) : (loadVar 24 ⟨g, 0, none⟩).run Try.prog w = .ok (.agg cs) w :=
  run_loadVar_row w g 24 24 cs (0, 0) _ h Try.underlying24 rfl (by rw [hs]; kernel_rfl)
theorem pol_rowP {w : World} {g : Nat} {cs : Array Value} (h : Box w g cs 29) (hs : cs.size = 14) : (loadVar 29 ⟨g, 0, none⟩).run Try.prog w = .ok (.agg cs) w :=
  run_loadVar_row w g 29 29 cs (0, 0) _ h Try.underlying29 rfl (by rw [hs]; kernel_rfl)
theorem fb_rowP {w : World} {g : Nat} {cs : Array Value} (h : Box w g cs 35) (hs : cs.size = 3) : (loadVar 35 ⟨g, 0, none⟩).run Try.prog w = .ok (.agg cs) w :=
  run_loadVar_row w g 35 35 cs (0, 0) _ h Try.underlying35 rfl (by rw [hs]; kernel_rfl)
/-- What stands in memory. -/
def MemP (w wx : World) (fl cp : Int) (g : Nat) (la ga ex fa st ti rt fy kn dl : Int) : Prop :=
  Below w.heap.size w wx ∧ Box wx w.heap.size #[.int .i64 0, .int .i64 0, .int .i64 0, .int .i64 0, .int .i64 fl, .int .i64 cp, .int .i64 20, .int .i64 500, .int .i64 3, .int .i64 200, .int .i64 0, .int .i64 0, .int .i64 1000, .string ByteArray.empty] 24 ∧ Box wx g #[.int .i64 la, .int .i64 ga, .int .i64 ex, .int .i64 fa, .int .i64 st, .int .i64 ti, .int .i64 rt, .int .i64 0, .int .i64 fy, .int .i64 kn, .bool false, .bool false, .slice none 0 0, .int .i64 dl] 29
theorem MemP.later {w wx wy : World} {fl cp : Int} {g : Nat} {la ga ex fa st ti rt fy kn dl : Int} (h : MemP w wx fl cp g la ga ex fa st ti rt fy kn dl) (hb : Below wx.heap.size wx wy) : MemP w wy fl cp g la ga ex fa st ti rt fy kn dl :=
  ⟨h.1.trans (hb.mono h.1.size), h.2.1.later hb, h.2.2.later hb⟩
theorem memP_row {w wx : World} {fl cp : Int} {g : Nat} {la ga ex fa st ti rt fy kn dl : Int} (h : MemP w wx fl cp g la ga ex fa st ti rt fy kn dl) (hg : w.heap.size < g) (ga' ex' fa' st' ti' rt' fy' kn' dl' la' : Int) :
    MemP w (wx.setRow g #[.int .i64 la', .int .i64 ga', .int .i64 ex', .int .i64 fa', .int .i64 st', .int .i64 ti', .int .i64 rt', .int .i64 0, .int .i64 fy', .int .i64 kn', .bool false, .bool false, .slice none 0 0, .int .i64 dl']) fl cp g la' ga' ex' fa' st' ti' rt' fy' kn' dl' :=
  ⟨below_row h.1 (by omega) _, box_row_other h.2.1 (by omega), h.2.2.setRow _⟩
/-- The numbers of a round. -/
def NumP (fl cp : Int) (k : Nat) (now la ga ti rt fy dl : Int) : Prop :=
  0 ≤ now ∧ now ≤ 20000 * (k : Int) ∧ -1 ≤ la ∧ la ≤ now ∧ fl ≤ ga ∧ dl ≤ ga ∧ ga ≤ 9000 ∧ 0 ≤ ti ∧ ti ≤ now + 200 ∧ 0 ≤ rt ∧ rt ≤ now + 999 ∧ 0 ≤ fy ∧ fy ≤ cp ∧ 0 ≤ dl ∧ dl ≤ 999

def regAt (n : Nat) : Code → Option Code
  | .region k a b => if k = n then some (.region k a b) else none
  | .loop c => regAt n c
  | .seq a b => match regAt n a with
    | some c => some c
    | none => regAt n b
  | .block _ c => regAt n c
  | .scope c => regAt n c
  | .cond _ a b => match regAt n a with
    | some c => some c
    | none => regAt n b
  | _ => none
noncomputable def polC19 : Code := ((Try.f3.body).bind (regAt 19)).getD .skip
set_option maxRecDepth 100000 in
set_option maxHeartbeats 4000000 in
theorem pol19 (w wc : World) (g : Nat) (fl cp la ga ex fa st ti rt fy kn dl n' : Int) (hM : MemP w wc fl cp g la ga ex fa st ti rt fy kn dl) (hn0 : 0 ≤ n') (hn1 : n' ≤ 1000000000) (hla0 : -1 ≤ la) (hla1 : la ≤ 1000000000) (hcf : ¬ cp ≤ fy) (hrt : ¬ n' < rt) (hfl : 0 ≤ la → ¬ n' - la < fl) (hst1 : st = 1 → ¬ n' < ti) (hst0 : st ≠ 0 → ¬ 0 < fy)
    (f0 f1 f2 f3 f4 f5 f6 f11 f14 f15 f16 f17 f18 f19 f20 f21 f22 f23 f24 f25 f26 f27 f28 f29 f30 f31 f32 f33 f34 f35 f36 f37 f38 f39 f40 f41 f42 f43 f44 f45 f46 f47 f48 f49 f50 f51 f52 f53 f54 f55 f56 f57 f58 f59 f60 f61 f62 f63 f64 f65 f66 f67 f68 f69 f70 f71 f72 f73 f74 f75 f76 f77 f78 f79 f80 f81 f82 f83 f84 f85 f86 f87 f88 f89 f90 f91 f92 f93 f94 f95 f96 f97 f98 f99 f100 f101 f102 f103 f104 f105 f106 f107 f108 f109 f110 f111 f112 f113 f114 f115 f116 f117 f118 f119 f120 f121 f122 f123 f124 f125 f126 f127 f128 f129 f130 f131 f132 f133 f134 f135 f136 f137 f138 f139 f140 f141 f142 f143 f144 f145 f146 f147 f148 f149 f150 f151 f152 f153 f154 f155 f156 f157 f158 f159 f160 f161 f162 f163 f164 f165 f166 f167 f168 f169 f170 f171 f172 f173 f174 f175 f176 f177 f178 f179 f180 f181 f182 f183 f184 f185 f186 f187 f188 f189 f190 f191 f192 f193 f194 f195 : Value) (K : Act → World → Prop) (Q' : Exit → Act → World → Prop)
    (hK : ∀ (u72 u73 u74 u75 u76 u77 u78 u79 u80 u81 u82 u83 u84 u85 u86 u87 u88 u89 u90 u91 u92 u93 u94 u95 u96 u97 u98 u99 u100 u101 u102 u103 u104 u105 u106 u107 u108 u109 u110 u111 : Value), K ⟨List.toArray (f0 :: f1 :: f2 :: f3 :: f4 :: f5 :: f6 :: .pointer (some ⟨w.heap.size, 0, none⟩) :: .pointer (some ⟨g, 0, none⟩) :: .int .i64 n' :: .int .i64 la :: f11 :: .int .i64 rt :: .int .i64 fy :: f14 :: f15 :: f16 :: f17 :: f18 :: f19 :: f20 :: f21 :: f22 :: f23 :: f24 :: f25 :: f26 :: f27 :: f28 :: f29 :: f30 :: f31 :: f32 :: f33 :: f34 :: f35 :: f36 :: f37 :: f38 :: f39 :: f40 :: f41 :: f42 :: f43 :: f44 :: f45 :: f46 :: f47 :: f48 :: f49 :: f50 :: f51 :: f52 :: f53 :: f54 :: f55 :: f56 :: f57 :: f58 :: f59 :: f60 :: f61 :: f62 :: f63 :: f64 :: f65 :: f66 :: f67 :: f68 :: f69 :: f70 :: f71 :: u72 :: u73 :: u74 :: u75 :: u76 :: u77 :: u78 :: u79 :: u80 :: u81 :: u82 :: u83 :: u84 :: u85 :: u86 :: u87 :: u88 :: u89 :: u90 :: u91 :: u92 :: u93 :: u94 :: u95 :: u96 :: u97 :: u98 :: u99 :: u100 :: u101 :: u102 :: u103 :: u104 :: u105 :: u106 :: u107 :: u108 :: u109 :: u110 :: u111 :: .bool false :: f113 :: f114 :: f115 :: f116 :: f117 :: f118 :: f119 :: f120 :: f121 :: f122 :: f123 :: f124 :: f125 :: f126 :: f127 :: f128 :: f129 :: f130 :: f131 :: f132 :: f133 :: f134 :: f135 :: f136 :: f137 :: f138 :: f139 :: f140 :: f141 :: f142 :: f143 :: f144 :: f145 :: f146 :: f147 :: f148 :: f149 :: f150 :: f151 :: f152 :: f153 :: f154 :: f155 :: f156 :: f157 :: f158 :: f159 :: f160 :: f161 :: f162 :: f163 :: f164 :: f165 :: f166 :: f167 :: f168 :: f169 :: f170 :: f171 :: f172 :: f173 :: f174 :: f175 :: f176 :: f177 :: f178 :: f179 :: f180 :: f181 :: f182 :: f183 :: f184 :: f185 :: f186 :: f187 :: f188 :: f189 :: f190 :: f191 :: f192 :: f193 :: f194 :: f195 :: []), []⟩ wc) :
    Code.wp Try.prog polC19 (Exit.then K Q') ⟨List.toArray (f0 :: f1 :: f2 :: f3 :: f4 :: f5 :: f6 :: .pointer (some ⟨w.heap.size, 0, none⟩) :: .pointer (some ⟨g, 0, none⟩) :: .int .i64 n' :: .int .i64 la :: f11 :: .int .i64 rt :: .int .i64 fy :: f14 :: f15 :: f16 :: f17 :: f18 :: f19 :: f20 :: f21 :: f22 :: f23 :: f24 :: f25 :: f26 :: f27 :: f28 :: f29 :: f30 :: f31 :: f32 :: f33 :: f34 :: f35 :: f36 :: f37 :: f38 :: f39 :: f40 :: f41 :: f42 :: f43 :: f44 :: f45 :: f46 :: f47 :: f48 :: f49 :: f50 :: f51 :: f52 :: f53 :: f54 :: f55 :: f56 :: f57 :: f58 :: f59 :: f60 :: f61 :: f62 :: f63 :: f64 :: f65 :: f66 :: f67 :: f68 :: f69 :: f70 :: f71 :: f72 :: f73 :: f74 :: f75 :: f76 :: f77 :: f78 :: f79 :: f80 :: f81 :: f82 :: f83 :: f84 :: f85 :: f86 :: f87 :: f88 :: f89 :: f90 :: f91 :: f92 :: f93 :: f94 :: f95 :: f96 :: f97 :: f98 :: f99 :: f100 :: f101 :: f102 :: f103 :: f104 :: f105 :: f106 :: f107 :: f108 :: f109 :: f110 :: f111 :: f112 :: f113 :: f114 :: f115 :: f116 :: f117 :: f118 :: f119 :: f120 :: f121 :: f122 :: f123 :: f124 :: f125 :: f126 :: f127 :: f128 :: f129 :: f130 :: f131 :: f132 :: f133 :: f134 :: f135 :: f136 :: f137 :: f138 :: f139 :: f140 :: f141 :: f142 :: f143 :: f144 :: f145 :: f146 :: f147 :: f148 :: f149 :: f150 :: f151 :: f152 :: f153 :: f154 :: f155 :: f156 :: f157 :: f158 :: f159 :: f160 :: f161 :: f162 :: f163 :: f164 :: f165 :: f166 :: f167 :: f168 :: f169 :: f170 :: f171 :: f172 :: f173 :: f174 :: f175 :: f176 :: f177 :: f178 :: f179 :: f180 :: f181 :: f182 :: f183 :: f184 :: f185 :: f186 :: f187 :: f188 :: f189 :: f190 :: f191 :: f192 :: f193 :: f194 :: f195 :: []), []⟩ wc := by
  conv => arg 2; whnf
  have HK := Lib.hid hK
  clear hK
  obtain ⟨l0, p0, q0⟩ := hM.2.1.facts
  obtain ⟨l1, p1, q1⟩ := hM.2.2.facts
  have hd6 : decide (cp ≤ fy) = false := decide_eq_false hcf
  have hd9 : decide (n' < rt) = false := decide_eq_false hrt
  by_cases hla : 0 ≤ la
  · have hd7 : decide (0 ≤ la) = true := decide_eq_true hla
    have hd8 : decide (n' - la < fl) = false := decide_eq_false (hfl hla)
    by_cases s1 : st = 1
    · have hd10 : (st == 1) = true := by simpa using s1
      have hd11 : decide (n' < ti) = false := decide_eq_false (hst1 s1)
      have hd12 : (st == 0) = false := by simp; omega
      have hd13 : decide (0 < fy) = false := decide_eq_false (hst0 (by omega))
      clear hM
      go_wp2_with fail
      exact HK.out _ _ _ _ _ _ _ _ _ _ _ _ _ _ _ _ _ _ _ _ _ _ _ _ _ _ _ _ _ _ _ _ _ _ _ _ _ _ _ _
    · have hd10 : (st == 1) = false := by simpa using s1
      by_cases s0 : st = 0
      · have hd12 : (st == 0) = true := by simpa using s0
        clear hM
        go_wp2_with fail
        exact HK.out _ _ _ _ _ _ _ _ _ _ _ _ _ _ _ _ _ _ _ _ _ _ _ _ _ _ _ _ _ _ _ _ _ _ _ _ _ _ _ _
      · have hd12 : (st == 0) = false := by simpa using s0
        have hd13 : decide (0 < fy) = false := decide_eq_false (hst0 s0)
        clear hM
        go_wp2_with fail
        exact HK.out _ _ _ _ _ _ _ _ _ _ _ _ _ _ _ _ _ _ _ _ _ _ _ _ _ _ _ _ _ _ _ _ _ _ _ _ _ _ _ _
  · have hd7 : decide (0 ≤ la) = false := decide_eq_false hla
    by_cases s1 : st = 1
    · have hd10 : (st == 1) = true := by simpa using s1
      have hd11 : decide (n' < ti) = false := decide_eq_false (hst1 s1)
      have hd12 : (st == 0) = false := by simp; omega
      have hd13 : decide (0 < fy) = false := decide_eq_false (hst0 (by omega))
      clear hM
      go_wp2_with fail
      exact HK.out _ _ _ _ _ _ _ _ _ _ _ _ _ _ _ _ _ _ _ _ _ _ _ _ _ _ _ _ _ _ _ _ _ _ _ _ _ _ _ _
    · have hd10 : (st == 1) = false := by simpa using s1
      by_cases s0 : st = 0
      · have hd12 : (st == 0) = true := by simpa using s0
        clear hM
        go_wp2_with fail
        exact HK.out _ _ _ _ _ _ _ _ _ _ _ _ _ _ _ _ _ _ _ _ _ _ _ _ _ _ _ _ _ _ _ _ _ _ _ _ _ _ _ _
      · have hd12 : (st == 0) = false := by simpa using s0
        have hd13 : decide (0 < fy) = false := decide_eq_false (hst0 s0)
        clear hM
        go_wp2_with fail
        exact HK.out _ _ _ _ _ _ _ _ _ _ _ _ _ _ _ _ _ _ _ _ _ _ _ _ _ _ _ _ _ _ _ _ _ _ _ _ _ _ _ _
noncomputable def polC21 : Code := ((Try.f3.body).bind (regAt 21)).getD .skip
set_option maxRecDepth 100000 in
set_option maxHeartbeats 4000000 in
theorem pol21 (w wc : World) (g : Nat) (fl cp la ga ex fa st ti rt fy kn dl n' : Int) (b off len acap k : Nat) (aa : Option Addr) (haa : aa = some ⟨b, off, none⟩) (pw : Int) (hM : MemP w wc fl cp g la ga ex fa st ti rt fy kn dl) (hn0 : 0 ≤ n') (hn1 : n' ≤ 1000000000) (hla0 : -1 ≤ la) (hla1 : la ≤ 1000000000) (hkl : k < len) (hk100 : k < 100) (c9' : 0 < k → wc.cell? ⟨b, off + (k - 1) * 4, none⟩ = some (.int .i64 pw)) (hdl : 0 ≤ la → ¬ n' - la < dl)
    (f0 f1 f3 f4 f5 f6 f15 f16 f17 f18 f19 f20 f21 f22 f23 f24 f25 f26 f27 f28 f29 f30 f31 f32 f33 f34 f35 f36 f37 f38 f39 f40 f41 f42 f43 f44 f45 f46 f47 f48 f49 f50 f51 f52 f53 f54 f55 f56 f57 f58 f59 f60 f61 f62 f63 f64 f65 f66 f67 f68 f69 f70 f71 f72 f73 f74 f75 f76 f77 f78 f79 f80 f81 f82 f83 f84 f85 f86 f87 f88 f89 f90 f91 f92 f93 f94 f95 f96 f97 f98 f99 f100 f101 f102 f103 f104 f105 f106 f107 f108 f109 f110 f111 f112 f113 f114 f115 f116 f117 f118 f119 f120 f121 f122 f123 f124 f125 f126 f127 f128 f129 f130 f131 f132 f133 f134 f135 f136 f137 f138 f139 f140 f141 f142 f143 f144 f145 f146 f147 f148 f149 f150 f151 f152 f153 f154 f155 f156 f157 f158 f159 f160 f161 f162 f163 f164 f165 f166 f167 f168 f169 f170 f171 f172 f173 f174 f175 f176 f177 f178 f179 f180 f181 f182 f183 f184 f185 f186 f187 f188 f189 f190 f191 f192 f193 f194 f195 : Value) (K : Act → World → Prop) (Q' : Exit → Act → World → Prop)
    (hK : ∀ (u113 u114 u115 u116 u117 u118 u119 u120 u121 u122 u123 u124 u125 u126 u127 u128 u129 u130 u131 u132 u133 : Value), K ⟨List.toArray (f0 :: f1 :: .slice aa len acap :: f3 :: f4 :: f5 :: f6 :: .pointer (some ⟨w.heap.size, 0, none⟩) :: .pointer (some ⟨g, 0, none⟩) :: .int .i64 n' :: .int .i64 la :: .int .i64 dl :: .int .i64 rt :: .int .i64 fy :: .int .i64 (k : Int) :: f15 :: f16 :: f17 :: f18 :: f19 :: f20 :: f21 :: f22 :: f23 :: f24 :: f25 :: f26 :: f27 :: f28 :: f29 :: f30 :: f31 :: f32 :: f33 :: f34 :: f35 :: f36 :: f37 :: f38 :: f39 :: f40 :: f41 :: f42 :: f43 :: f44 :: f45 :: f46 :: f47 :: f48 :: f49 :: f50 :: f51 :: f52 :: f53 :: f54 :: f55 :: f56 :: f57 :: f58 :: f59 :: f60 :: f61 :: f62 :: f63 :: f64 :: f65 :: f66 :: f67 :: f68 :: f69 :: f70 :: f71 :: f72 :: f73 :: f74 :: f75 :: f76 :: f77 :: f78 :: f79 :: f80 :: f81 :: f82 :: f83 :: f84 :: f85 :: f86 :: f87 :: f88 :: f89 :: f90 :: f91 :: f92 :: f93 :: f94 :: f95 :: f96 :: f97 :: f98 :: f99 :: f100 :: f101 :: f102 :: f103 :: f104 :: f105 :: f106 :: f107 :: f108 :: f109 :: f110 :: f111 :: f112 :: u113 :: u114 :: u115 :: u116 :: u117 :: u118 :: u119 :: u120 :: u121 :: u122 :: u123 :: u124 :: u125 :: u126 :: u127 :: u128 :: u129 :: u130 :: u131 :: u132 :: u133 :: .bool false :: f135 :: f136 :: f137 :: f138 :: f139 :: f140 :: f141 :: f142 :: f143 :: f144 :: f145 :: f146 :: f147 :: f148 :: f149 :: f150 :: f151 :: f152 :: f153 :: f154 :: f155 :: f156 :: f157 :: f158 :: f159 :: f160 :: f161 :: f162 :: f163 :: f164 :: f165 :: f166 :: f167 :: f168 :: f169 :: f170 :: f171 :: f172 :: f173 :: f174 :: f175 :: f176 :: f177 :: f178 :: f179 :: f180 :: f181 :: f182 :: f183 :: f184 :: f185 :: f186 :: f187 :: f188 :: f189 :: f190 :: f191 :: f192 :: f193 :: f194 :: f195 :: []), []⟩ wc) :
    Code.wp Try.prog polC21 (Exit.then K Q') ⟨List.toArray (f0 :: f1 :: .slice aa len acap :: f3 :: f4 :: f5 :: f6 :: .pointer (some ⟨w.heap.size, 0, none⟩) :: .pointer (some ⟨g, 0, none⟩) :: .int .i64 n' :: .int .i64 la :: .int .i64 dl :: .int .i64 rt :: .int .i64 fy :: .int .i64 (k : Int) :: f15 :: f16 :: f17 :: f18 :: f19 :: f20 :: f21 :: f22 :: f23 :: f24 :: f25 :: f26 :: f27 :: f28 :: f29 :: f30 :: f31 :: f32 :: f33 :: f34 :: f35 :: f36 :: f37 :: f38 :: f39 :: f40 :: f41 :: f42 :: f43 :: f44 :: f45 :: f46 :: f47 :: f48 :: f49 :: f50 :: f51 :: f52 :: f53 :: f54 :: f55 :: f56 :: f57 :: f58 :: f59 :: f60 :: f61 :: f62 :: f63 :: f64 :: f65 :: f66 :: f67 :: f68 :: f69 :: f70 :: f71 :: f72 :: f73 :: f74 :: f75 :: f76 :: f77 :: f78 :: f79 :: f80 :: f81 :: f82 :: f83 :: f84 :: f85 :: f86 :: f87 :: f88 :: f89 :: f90 :: f91 :: f92 :: f93 :: f94 :: f95 :: f96 :: f97 :: f98 :: f99 :: f100 :: f101 :: f102 :: f103 :: f104 :: f105 :: f106 :: f107 :: f108 :: f109 :: f110 :: f111 :: f112 :: f113 :: f114 :: f115 :: f116 :: f117 :: f118 :: f119 :: f120 :: f121 :: f122 :: f123 :: f124 :: f125 :: f126 :: f127 :: f128 :: f129 :: f130 :: f131 :: f132 :: f133 :: f134 :: f135 :: f136 :: f137 :: f138 :: f139 :: f140 :: f141 :: f142 :: f143 :: f144 :: f145 :: f146 :: f147 :: f148 :: f149 :: f150 :: f151 :: f152 :: f153 :: f154 :: f155 :: f156 :: f157 :: f158 :: f159 :: f160 :: f161 :: f162 :: f163 :: f164 :: f165 :: f166 :: f167 :: f168 :: f169 :: f170 :: f171 :: f172 :: f173 :: f174 :: f175 :: f176 :: f177 :: f178 :: f179 :: f180 :: f181 :: f182 :: f183 :: f184 :: f185 :: f186 :: f187 :: f188 :: f189 :: f190 :: f191 :: f192 :: f193 :: f194 :: f195 :: []), []⟩ wc := by
  conv => arg 2; whnf
  have HK := Lib.hid hK
  clear hK
  obtain ⟨l0, p0, q0⟩ := hM.2.1.facts
  obtain ⟨l1, p1, q1⟩ := hM.2.2.facts
  subst haa
  by_cases hla : 0 ≤ la
  · have hd7 : decide (0 ≤ la) = true := decide_eq_true hla
    have hd14 : decide (n' - la < dl) = false := decide_eq_false (hdl hla)
    by_cases hk0 : 0 < k
    · have hd8 : decide ((0 : Int) < k) = true := decide_eq_true (by omega)
      have c9 := c9' hk0
      clear c9' hM
      by_cases hpw : pw = 2
      · have hd15 : (pw == 2) = true := by simpa using hpw
        go_wp2_with fail
        exact HK.out _ _ _ _ _ _ _ _ _ _ _ _ _ _ _ _ _ _ _ _ _
      · have hd15 : (pw == 2) = false := by simpa using hpw
        go_wp2_with fail
        exact HK.out _ _ _ _ _ _ _ _ _ _ _ _ _ _ _ _ _ _ _ _ _
    · have hd8 : decide ((0 : Int) < k) = false := decide_eq_false (by omega)
      clear hM
      go_wp2_with fail
      exact HK.out _ _ _ _ _ _ _ _ _ _ _ _ _ _ _ _ _ _ _ _ _
  · have hd7 : decide (0 ≤ la) = false := decide_eq_false hla
    clear hM
    go_wp2_with fail
    exact HK.out _ _ _ _ _ _ _ _ _ _ _ _ _ _ _ _ _ _ _ _ _
noncomputable def polC37 : Code := ((Try.f3.body).bind (regAt 37)).getD .skip
set_option maxRecDepth 100000 in
set_option maxHeartbeats 4000000 in
theorem pol37 (w wc : World) (g : Nat) (fl cp la ga ex fa st ti rt fy kn dl nw : Int) (G GF : Nat) (what id wt dr c1 r1 r2 : Int) (hM : MemP w wc fl cp g la ga ex fa st ti rt fy kn dl) (hA : Box wc G #[.int .i64 what, .int .i64 id, .int .i64 wt, .int .i64 dr] 32) (hF : Box wc GF #[.int .i64 c1, .int .i64 r1, .int .i64 r2] 35) (N : Array Value) (hN : N.size = 14) (h1 : N.all (·.oneCell') = true)
    (CA : Calls Try.prog 6 #[.agg #[.int .i64 0, .int .i64 0, .int .i64 0, .int .i64 0, .int .i64 fl, .int .i64 cp, .int .i64 20, .int .i64 500, .int .i64 3, .int .i64 200, .int .i64 0, .int .i64 0, .int .i64 1000, .string ByteArray.empty], .agg #[.int .i64 la, .int .i64 ga, .int .i64 ex, .int .i64 fa, .int .i64 st, .int .i64 ti, .int .i64 rt, .int .i64 0, .int .i64 fy, .int .i64 kn, .bool false, .bool false, .slice none 0 0, .int .i64 dl], .agg #[.int .i64 c1, .int .i64 r1, .int .i64 r2], .int .i64 nw, .int .i64 dr] wc fun e w' => e = .returned (.agg N) ∧ Below wc.heap.size wc w')
    (f0 f1 f2 f3 f4 f5 f6 f10 f11 f12 f13 f14 f16 f18 f19 f20 f21 f22 f23 f24 f25 f26 f27 f28 f29 f30 f31 f32 f33 f34 f35 f36 f37 f38 f39 f40 f41 f42 f43 f44 f45 f46 f47 f48 f49 f50 f51 f52 f53 f54 f55 f56 f57 f58 f59 f60 f61 f62 f63 f64 f65 f66 f67 f68 f69 f70 f71 f72 f73 f74 f75 f76 f77 f78 f79 f80 f81 f82 f83 f84 f85 f86 f87 f88 f89 f90 f91 f92 f93 f94 f95 f96 f97 f98 f99 f100 f101 f102 f103 f104 f105 f106 f107 f108 f109 f110 f111 f112 f113 f114 f115 f116 f117 f118 f119 f120 f121 f122 f123 f124 f125 f126 f127 f128 f129 f130 f131 f132 f133 f134 f135 f136 f137 f138 f139 f140 f141 f142 f143 f144 f145 f146 f147 f148 f149 f150 f151 f152 f153 f154 f155 f156 f157 f158 f159 f160 f161 f162 f163 f164 f165 f166 f167 f168 f169 f170 f171 f172 f173 f174 f175 f176 f177 f178 f179 f180 f181 f182 f183 f184 f185 f186 f187 f188 f189 f190 f191 f192 f193 f194 f195 : Value) (K : Act → World → Prop) (Q' : Exit → Act → World → Prop)
    (hK : ∀ (u175 u176 u177 u178 u179 u180 u181 : Value) (w3 : World), Below wc.heap.size wc w3 → K ⟨List.toArray (f0 :: f1 :: f2 :: f3 :: f4 :: f5 :: f6 :: .pointer (some ⟨w.heap.size, 0, none⟩) :: .pointer (some ⟨g, 0, none⟩) :: .int .i64 nw :: f10 :: f11 :: f12 :: f13 :: f14 :: .pointer (some ⟨G, 0, none⟩) :: f16 :: .pointer (some ⟨GF, 0, none⟩) :: f18 :: f19 :: f20 :: f21 :: f22 :: f23 :: f24 :: f25 :: f26 :: f27 :: f28 :: f29 :: f30 :: f31 :: f32 :: f33 :: f34 :: f35 :: f36 :: f37 :: f38 :: f39 :: f40 :: f41 :: f42 :: f43 :: f44 :: f45 :: f46 :: f47 :: f48 :: f49 :: f50 :: f51 :: f52 :: f53 :: f54 :: f55 :: f56 :: f57 :: f58 :: f59 :: f60 :: f61 :: f62 :: f63 :: f64 :: f65 :: f66 :: f67 :: f68 :: f69 :: f70 :: f71 :: f72 :: f73 :: f74 :: f75 :: f76 :: f77 :: f78 :: f79 :: f80 :: f81 :: f82 :: f83 :: f84 :: f85 :: f86 :: f87 :: f88 :: f89 :: f90 :: f91 :: f92 :: f93 :: f94 :: f95 :: f96 :: f97 :: f98 :: f99 :: f100 :: f101 :: f102 :: f103 :: f104 :: f105 :: f106 :: f107 :: f108 :: f109 :: f110 :: f111 :: f112 :: f113 :: f114 :: f115 :: f116 :: f117 :: f118 :: f119 :: f120 :: f121 :: f122 :: f123 :: f124 :: f125 :: f126 :: f127 :: f128 :: f129 :: f130 :: f131 :: f132 :: f133 :: f134 :: f135 :: f136 :: f137 :: f138 :: f139 :: f140 :: f141 :: f142 :: f143 :: f144 :: f145 :: f146 :: f147 :: f148 :: f149 :: f150 :: f151 :: f152 :: f153 :: f154 :: f155 :: f156 :: f157 :: f158 :: f159 :: f160 :: f161 :: f162 :: f163 :: f164 :: f165 :: f166 :: f167 :: f168 :: f169 :: f170 :: f171 :: f172 :: f173 :: f174 :: u175 :: u176 :: u177 :: u178 :: u179 :: u180 :: u181 :: f182 :: f183 :: f184 :: f185 :: f186 :: f187 :: f188 :: f189 :: f190 :: f191 :: f192 :: f193 :: f194 :: f195 :: []), []⟩ (w3.setRow g N)) :
    Code.wp Try.prog polC37 (Exit.inBlock 2 (Exit.then K Q')) ⟨List.toArray (f0 :: f1 :: f2 :: f3 :: f4 :: f5 :: f6 :: .pointer (some ⟨w.heap.size, 0, none⟩) :: .pointer (some ⟨g, 0, none⟩) :: .int .i64 nw :: f10 :: f11 :: f12 :: f13 :: f14 :: .pointer (some ⟨G, 0, none⟩) :: f16 :: .pointer (some ⟨GF, 0, none⟩) :: f18 :: f19 :: f20 :: f21 :: f22 :: f23 :: f24 :: f25 :: f26 :: f27 :: f28 :: f29 :: f30 :: f31 :: f32 :: f33 :: f34 :: f35 :: f36 :: f37 :: f38 :: f39 :: f40 :: f41 :: f42 :: f43 :: f44 :: f45 :: f46 :: f47 :: f48 :: f49 :: f50 :: f51 :: f52 :: f53 :: f54 :: f55 :: f56 :: f57 :: f58 :: f59 :: f60 :: f61 :: f62 :: f63 :: f64 :: f65 :: f66 :: f67 :: f68 :: f69 :: f70 :: f71 :: f72 :: f73 :: f74 :: f75 :: f76 :: f77 :: f78 :: f79 :: f80 :: f81 :: f82 :: f83 :: f84 :: f85 :: f86 :: f87 :: f88 :: f89 :: f90 :: f91 :: f92 :: f93 :: f94 :: f95 :: f96 :: f97 :: f98 :: f99 :: f100 :: f101 :: f102 :: f103 :: f104 :: f105 :: f106 :: f107 :: f108 :: f109 :: f110 :: f111 :: f112 :: f113 :: f114 :: f115 :: f116 :: f117 :: f118 :: f119 :: f120 :: f121 :: f122 :: f123 :: f124 :: f125 :: f126 :: f127 :: f128 :: f129 :: f130 :: f131 :: f132 :: f133 :: f134 :: f135 :: f136 :: f137 :: f138 :: f139 :: f140 :: f141 :: f142 :: f143 :: f144 :: f145 :: f146 :: f147 :: f148 :: f149 :: f150 :: f151 :: f152 :: f153 :: f154 :: f155 :: f156 :: f157 :: f158 :: f159 :: f160 :: f161 :: f162 :: f163 :: f164 :: f165 :: f166 :: f167 :: f168 :: f169 :: f170 :: f171 :: f172 :: f173 :: f174 :: f175 :: f176 :: f177 :: f178 :: f179 :: f180 :: f181 :: f182 :: f183 :: f184 :: f185 :: f186 :: f187 :: f188 :: f189 :: f190 :: f191 :: f192 :: f193 :: f194 :: f195 :: []), []⟩ wc := by
  conv => arg 2; whnf
  have HK := Lib.hid hK
  have HCA := Lib.hid CA
  have HMM := Lib.hid hM
  clear hK CA
  refine wp_region_lit ?_
  refine poL_loadv rfl rfl rfl (cfg_rowP hM.2.1 rfl) ?_
  refine poL_loadv rfl rfl rfl (pol_rowP hM.2.2 rfl) ?_
  refine poL_loadv rfl rfl rfl (fb_rowP hF rfl) ?_
  obtain ⟨lA, pA, qA⟩ := hA.facts
  clear hM
  go_wp2_with fail
  refine HCA.out.mono ?_
  rintro e w3 ⟨rfl, hb⟩
  have HB3 := Lib.hid hb
  go_wp2_with (refine poL_storeRow rfl rfl rfl rfl (HMM.out.2.2.later HB3.out) (by rw [hN]; rfl) (by rw [hN]; kernel_rfl) h1 ?_)
  exact HK.out _ _ _ _ _ _ _ w3 HB3.out
noncomputable def polC23 : Code := ((Try.f3.body).bind (regAt 23)).getD .skip
set_option maxRecDepth 100000 in
set_option maxHeartbeats 4000000 in
theorem pol23 (w wc : World) (g : Nat) (fl cp la ga ex fa st ti rt fy kn dl nw : Int) (hM : MemP w wc fl cp g la ga ex fa st ti rt fy kn dl) (N : Array Value) (hN : N.size = 14) (h1 : N.all (·.oneCell') = true)
    (CA : Calls Try.prog 9 #[.agg #[.int .i64 0, .int .i64 0, .int .i64 0, .int .i64 0, .int .i64 fl, .int .i64 cp, .int .i64 20, .int .i64 500, .int .i64 3, .int .i64 200, .int .i64 0, .int .i64 0, .int .i64 1000, .string ByteArray.empty], .agg #[.int .i64 la, .int .i64 ga, .int .i64 ex, .int .i64 fa, .int .i64 st, .int .i64 ti, .int .i64 rt, .int .i64 0, .int .i64 fy, .int .i64 kn, .bool false, .bool false, .slice none 0 0, .int .i64 dl], .int .i64 nw] wc fun e w' => e = .returned (.agg N) ∧ Below wc.heap.size wc w')
    (f0 f1 f2 f3 f4 f5 f6 f10 f11 f12 f13 f14 f15 f16 f17 f18 f19 f20 f21 f22 f23 f24 f25 f26 f27 f28 f29 f30 f31 f32 f33 f34 f35 f36 f37 f38 f39 f40 f41 f42 f43 f44 f45 f46 f47 f48 f49 f50 f51 f52 f53 f54 f55 f56 f57 f58 f59 f60 f61 f62 f63 f64 f65 f66 f67 f68 f69 f70 f71 f72 f73 f74 f75 f76 f77 f78 f79 f80 f81 f82 f83 f84 f85 f86 f87 f88 f89 f90 f91 f92 f93 f94 f95 f96 f97 f98 f99 f100 f101 f102 f103 f104 f105 f106 f107 f108 f109 f110 f111 f112 f113 f114 f115 f116 f117 f118 f119 f120 f121 f122 f123 f124 f125 f126 f127 f128 f129 f130 f131 f132 f133 f134 f135 f136 f137 f138 f139 f140 f141 f142 f143 f144 f145 f146 f147 f148 f149 f150 f151 f152 f153 f154 f155 f156 f157 f158 f159 f160 f161 f162 f163 f164 f165 f166 f167 f168 f169 f170 f171 f172 f173 f174 f175 f176 f177 f178 f179 f180 f181 f182 f183 f184 f185 f186 f187 f188 f189 f190 f191 f192 f193 f194 f195 : Value) (K : Act → World → Prop) (Q' : Exit → Act → World → Prop)
    (hK : ∀ (u135 u136 u137 u138 : Value) (w3 : World), Below wc.heap.size wc w3 → K ⟨List.toArray (f0 :: f1 :: f2 :: f3 :: f4 :: f5 :: f6 :: .pointer (some ⟨w.heap.size, 0, none⟩) :: .pointer (some ⟨g, 0, none⟩) :: .int .i64 nw :: f10 :: f11 :: f12 :: f13 :: f14 :: f15 :: f16 :: f17 :: f18 :: f19 :: f20 :: f21 :: f22 :: f23 :: f24 :: f25 :: f26 :: f27 :: f28 :: f29 :: f30 :: f31 :: f32 :: f33 :: f34 :: f35 :: f36 :: f37 :: f38 :: f39 :: f40 :: f41 :: f42 :: f43 :: f44 :: f45 :: f46 :: f47 :: f48 :: f49 :: f50 :: f51 :: f52 :: f53 :: f54 :: f55 :: f56 :: f57 :: f58 :: f59 :: f60 :: f61 :: f62 :: f63 :: f64 :: f65 :: f66 :: f67 :: f68 :: f69 :: f70 :: f71 :: f72 :: f73 :: f74 :: f75 :: f76 :: f77 :: f78 :: f79 :: f80 :: f81 :: f82 :: f83 :: f84 :: f85 :: f86 :: f87 :: f88 :: f89 :: f90 :: f91 :: f92 :: f93 :: f94 :: f95 :: f96 :: f97 :: f98 :: f99 :: f100 :: f101 :: f102 :: f103 :: f104 :: f105 :: f106 :: f107 :: f108 :: f109 :: f110 :: f111 :: f112 :: f113 :: f114 :: f115 :: f116 :: f117 :: f118 :: f119 :: f120 :: f121 :: f122 :: f123 :: f124 :: f125 :: f126 :: f127 :: f128 :: f129 :: f130 :: f131 :: f132 :: f133 :: f134 :: u135 :: u136 :: u137 :: u138 :: f139 :: f140 :: f141 :: f142 :: f143 :: f144 :: f145 :: f146 :: f147 :: f148 :: f149 :: f150 :: f151 :: f152 :: f153 :: f154 :: f155 :: f156 :: f157 :: f158 :: f159 :: f160 :: f161 :: f162 :: f163 :: f164 :: f165 :: f166 :: f167 :: f168 :: f169 :: f170 :: f171 :: f172 :: f173 :: f174 :: f175 :: f176 :: f177 :: f178 :: f179 :: f180 :: f181 :: f182 :: f183 :: f184 :: f185 :: f186 :: f187 :: f188 :: f189 :: f190 :: f191 :: f192 :: f193 :: f194 :: f195 :: []), []⟩ (w3.setRow g N)) :
    Code.wp Try.prog polC23 (Exit.then K Q') ⟨List.toArray (f0 :: f1 :: f2 :: f3 :: f4 :: f5 :: f6 :: .pointer (some ⟨w.heap.size, 0, none⟩) :: .pointer (some ⟨g, 0, none⟩) :: .int .i64 nw :: f10 :: f11 :: f12 :: f13 :: f14 :: f15 :: f16 :: f17 :: f18 :: f19 :: f20 :: f21 :: f22 :: f23 :: f24 :: f25 :: f26 :: f27 :: f28 :: f29 :: f30 :: f31 :: f32 :: f33 :: f34 :: f35 :: f36 :: f37 :: f38 :: f39 :: f40 :: f41 :: f42 :: f43 :: f44 :: f45 :: f46 :: f47 :: f48 :: f49 :: f50 :: f51 :: f52 :: f53 :: f54 :: f55 :: f56 :: f57 :: f58 :: f59 :: f60 :: f61 :: f62 :: f63 :: f64 :: f65 :: f66 :: f67 :: f68 :: f69 :: f70 :: f71 :: f72 :: f73 :: f74 :: f75 :: f76 :: f77 :: f78 :: f79 :: f80 :: f81 :: f82 :: f83 :: f84 :: f85 :: f86 :: f87 :: f88 :: f89 :: f90 :: f91 :: f92 :: f93 :: f94 :: f95 :: f96 :: f97 :: f98 :: f99 :: f100 :: f101 :: f102 :: f103 :: f104 :: f105 :: f106 :: f107 :: f108 :: f109 :: f110 :: f111 :: f112 :: f113 :: f114 :: f115 :: f116 :: f117 :: f118 :: f119 :: f120 :: f121 :: f122 :: f123 :: f124 :: f125 :: f126 :: f127 :: f128 :: f129 :: f130 :: f131 :: f132 :: f133 :: f134 :: f135 :: f136 :: f137 :: f138 :: f139 :: f140 :: f141 :: f142 :: f143 :: f144 :: f145 :: f146 :: f147 :: f148 :: f149 :: f150 :: f151 :: f152 :: f153 :: f154 :: f155 :: f156 :: f157 :: f158 :: f159 :: f160 :: f161 :: f162 :: f163 :: f164 :: f165 :: f166 :: f167 :: f168 :: f169 :: f170 :: f171 :: f172 :: f173 :: f174 :: f175 :: f176 :: f177 :: f178 :: f179 :: f180 :: f181 :: f182 :: f183 :: f184 :: f185 :: f186 :: f187 :: f188 :: f189 :: f190 :: f191 :: f192 :: f193 :: f194 :: f195 :: []), []⟩ wc := by
  conv => arg 2; whnf
  have HK := Lib.hid hK
  have HCA := Lib.hid CA
  have HMM := Lib.hid hM
  clear hK CA
  refine wp_region_lit ?_
  refine poL_loadv rfl rfl rfl (cfg_rowP hM.2.1 rfl) ?_
  refine poL_loadv rfl rfl rfl (pol_rowP hM.2.2 rfl) ?_
  clear hM
  go_wp2_with fail
  refine HCA.out.mono ?_
  rintro e w3 ⟨rfl, hb⟩
  have HB3 := Lib.hid hb
  go_wp2_with (refine poL_storeRow rfl rfl rfl rfl (HMM.out.2.2.later HB3.out) (by rw [hN]; rfl) (by rw [hN]; kernel_rfl) h1 ?_)
  exact HK.out _ _ _ _ w3 HB3.out
set_option maxRecDepth 100000 in
set_option maxHeartbeats 8000000 in
theorem policyPolite_walk (fl cq : Int) (x : Option Addr × Nat × Nat) (w : World) (wf : (Lit.int .u8 fl).wf = true) (wc : (Lit.int .u8 cq).wf = true) (hx : IsActs w x) : Calls Try.prog 3 #[.int .u8 fl, .int .u8 cq, .slice x.1 x.2.1 x.2.2] w fun e w' => e = .returned (.bool true) ∧ Below w.heap.size w w' := by
  obtain ⟨f0, f1⟩ := bounds_u8 wf
  obtain ⟨c0, c1⟩ := bounds_u8 wc
  clear wf wc
  obtain ⟨aa, len, acap⟩ := x
  obtain ⟨b, off, ha, hlm, A, hA⟩ := hx
  simp only at ha hlm hA
  show Calls Try.prog 3 #[.int .u8 fl, .int .u8 cq, .slice aa len acap] w _
  have HA := Lib.hid ha
  have HC := Lib.hid hA
  have HZ : Hid (max fl 0 = fl) := Lib.hid (by omega)
  clear ha hA
  go_enter Try.func3, Try.ntmps3
  go_wp2_with fail
  generalize hcp : cq % 3 + 1 = cp
  have cp0 : 1 ≤ cp := by omega
  have cp1 : cp ≤ 3 := by omega
  clear hcp
  refine calls_forget (fun w' => Below w.heap.size w w' ∧ Box w' w.heap.size #[.int .i64 0, .int .i64 0, .int .i64 0, .int .i64 0, .int .i64 fl, .int .i64 cp, .int .i64 20, .int .i64 500, .int .i64 3, .int .i64 200, .int .i64 0, .int .i64 0, .int .i64 1000, .string ByteArray.empty] 24) ⟨(Below.refl _ _).alloc (Nat.le_refl _) _, Box.new _ _ _⟩ ?_
  rintro wv ⟨B, b0⟩
  refine (new_as fl 0 fl HZ.out _).mono ?_
  rintro e w1 ⟨rfl, hb⟩
  have B1 := B.trans (hb.mono B.size)
  have b1 := b0.later hb
  have HM0 := Lib.hid (show MemP w (w1.alloc (.cells #[.int .i64 (-1), .int .i64 fl, .int .i64 0, .int .i64 0, .int .i64 0, .int .i64 0, .int .i64 0, .int .i64 0, .int .i64 0, .int .i64 0, .bool false, .bool false, .slice none 0 0, .int .i64 0] 29)) fl cp w1.heap.size (-1) fl 0 0 0 0 0 0 0 0 from ⟨B1.alloc B1.size _, b1.alloc _, Box.new _ _ _⟩)
  have hgw : w.heap.size < w1.heap.size := b1.lt
  clear B b0 hb B1 b1
  go_wp2_with fail
  generalize w1.heap.size = g at HM0 hgw ⊢
  go_loopw [9, 10, 11, 12, 13, 14] (fun vn vl vd va vf vi wx => ∃ (k : Nat) (now la ga ex fa st ti rt fy kn dl : Int), k ≤ len ∧ k ≤ 100 ∧ vi = .int .i64 k ∧ vn = .int .i64 now ∧ vl = .int .i64 la ∧ vd = .int .i64 dl ∧ va = .int .i64 rt ∧ vf = .int .i64 fy ∧ NumP fl cp k now la ga ti rt fy dl ∧ Hid (MemP w wx fl cp g la ga ex fa st ti rt fy kn dl)) (fun _ _ _ _ _ vi _ => len - (intOf vi).toNat)
  case atStart => exact ⟨0, 0, -1, fl, 0, 0, 0, 0, 0, 0, 0, 0, by omega, by omega, rfl, rfl, rfl, rfl, rfl, rfl, by unfold NumP; omega, HM0⟩
  case round =>
    obtain ⟨k, now, la, ga, ex, fa, st, ti, rt, fy, kn, dl, hkl, hk100, rfl, rfl, rfl, rfl, rfl, rfl, hnum, HM⟩ := hrel
    clear HM0
    unfold NumP at hnum
    obtain ⟨n1, n2, n3, n4, n5, n6, n7, n8, n9, n10, n11, n12, n13, n14, n15⟩ := hnum
    by_cases hlt : k < len
    · have hd1 : decide ((k : Int) < len) = true := decide_eq_true (by omega)
      by_cases h100 : k < 100
      · have hd2 : decide ((k : Int) < 100) = true := decide_eq_true (by omega)
        have ha := HA.out (by omega)
        subst ha
        obtain ⟨e0, e1, e2, e3⟩ := HC.out k hlt
        have c0 := (HM.out.1.cell (World.block_lt_of_cell? _ _ e0)).trans e0
        have c1 := (HM.out.1.cell (World.block_lt_of_cell? _ _ e1)).trans e1
        have c2 := (HM.out.1.cell (World.block_lt_of_cell? _ _ e2)).trans e2
        have c3 := (HM.out.1.cell (World.block_lt_of_cell? _ _ e3)).trans e3
        generalize A k = act at c0 c1 c2 c3
        obtain ⟨what, id, wt, dr⟩ := act
        simp only at c0 c1 c2 c3
        have tm := tmod_in wt
        generalize hT : wt.tmod 1000 = T at tm
        obtain ⟨tm0, tm1⟩ := tm
        clear e0 e1 e2 e3
        have HM1 := Lib.hid (HM.out.later ((Below.refl _ _).alloc (Nat.le_refl _) (.cells #[.int .i64 what, .int .i64 id, .int .i64 wt, .int .i64 dr] 32)))
        have hxA := Box.new wr #[.int .i64 what, .int .i64 id, .int .i64 wt, .int .i64 dr] 32
        obtain ⟨G, hG⟩ : ∃ G, wr.heap.size = G := ⟨_, rfl⟩
        rw [hG] at hxA
        have hGw : w.heap.size < G ∧ g < G := ⟨by rw [← hG]; exact HM.out.2.1.lt, by rw [← hG]; exact HM.out.2.2.lt⟩
        have HXA := Lib.hid hxA
        clear hxA HM
        go_upto_if 47 with fail
        generalize wr.alloc (.cells #[.int .i64 what, .int .i64 id, .int .i64 wt, .int .i64 dr] 32) = wv at *
        clear hG c0 c1 c2 c3
        go_cut [16] (fun v wx => ∃ W : Int, v = .int .i64 W ∧ 0 ≤ W ∧ W ≤ 999 ∧ wx = wv)
        case first =>
          by_cases hneg : T < 0
          · have hd3 : decide (T < 0) = true := decide_eq_true hneg
            go_wp2_with fail
            go_meet
            exact ⟨-T, rfl, by omega, by omega, rfl⟩
          · have hd3 : decide (T < 0) = false := decide_eq_false hneg
            go_wp2_with fail
            go_meet
            exact ⟨T, rfl, by omega, by omega, rfl⟩
        case rest => as_aux_lemma =>
          obtain ⟨W, rfl, W0, W1, rfl⟩ := hcut
          clear hT tm0 tm1
          by_cases w0 : what = 0
          · as_aux_lemma =>
              subst w0
              by_cases hf : fy = 0
              · subst hf
                obtain ⟨lA, pA, qA⟩ := HXA.out.facts
                go_wp2_with fail
                go_roundw
                case rel => exact ⟨k + 1, now + 1, la, ga, ex, fa, st, ti, rt, 0, kn, dl, by omega, by omega, by go_num, by first | rfl | go_num, by first | rfl | go_num, by first | rfl | go_num, by first | rfl | go_num, by first | rfl | go_num, by unfold NumP; omega, HM1⟩
                case measure => simp [intOf]; omega
              · have hd4 : (fy == 0) = false := by simpa using hf
                obtain ⟨lA, pA, qA⟩ := HXA.out.facts
                have HM2 := Lib.hid (HM1.out.later ((Below.refl _ _).alloc (Nat.le_refl _) (.cells #[.int .i64 (1 + W % 4), .int .i64 0, .int .i64 0] 35)))
                have HXA2 := Lib.hid (HXA.out.alloc (.cells #[.int .i64 (1 + W % 4), .int .i64 0, .int .i64 0] 35))
                have hxf := Box.new wc #[.int .i64 (1 + W % 4), .int .i64 0, .int .i64 0] 35
                have hGG : G < wc.heap.size := HXA.out.lt
                obtain ⟨GF, hGF⟩ : ∃ GF, wc.heap.size = GF := ⟨_, rfl⟩
                rw [hGF] at hxf hGG
                have HXF := Lib.hid hxf
                clear hxf
                go_upto_if 164 with fail
                generalize wc.alloc (.cells #[.int .i64 (1 + W % 4), .int .i64 0, .int .i64 0] 35) = wf at *
                clear hGF lA pA qA HM1 HXA
                go_cut [12] (fun va wx => ∃ R asked : Int, va = .int .i64 asked ∧ 0 ≤ R ∧ R ≤ now + 1 + W ∧ Hid (max rt R = asked) ∧ rt ≤ asked ∧ asked ≤ now + 1000 ∧ Hid (MemP w wx fl cp g la ga ex fa st ti rt fy kn dl ∧ Box wx G #[.int .i64 0, .int .i64 id, .int .i64 wt, .int .i64 dr] 32 ∧ Box wx GF #[.int .i64 (1 + W % 4), .int .i64 R, .int .i64 0] 35))
                case first =>
                  obtain ⟨lF, pF, qF⟩ := HXF.out.facts
                  by_cases h3 : W % 3 = 0
                  · have hd5 : (W % 3 == 0) = true := by simpa using h3
                    by_cases hgt : rt < now + 1 + W
                    · have hd6 : decide (rt < now + 1 + W) = true := decide_eq_true hgt
                      go_wp2_with fail
                      go_meet
                      exact ⟨now + 1 + W, now + 1 + W, rfl, by omega, by omega, Lib.hid (by omega), by omega, by omega, Lib.hid ⟨⟨HM2.out.1.setCell (p := ⟨GF, 1, none⟩) (show w.heap.size ≤ GF by omega) _, HM2.out.2.1.other (a := ⟨GF, 1, none⟩) (by simp; omega) _, HM2.out.2.2.other (a := ⟨GF, 1, none⟩) (by simp; omega) _⟩, HXA2.out.other (a := ⟨GF, 1, none⟩) (by simp; omega) _, by simpa using HXF.out.set 1 (.int .i64 (now + 1 + W))⟩⟩
                    · have hd6 : decide (rt < now + 1 + W) = false := decide_eq_false hgt
                      go_wp2_with fail
                      go_meet
                      exact ⟨now + 1 + W, rt, rfl, by omega, by omega, Lib.hid (by omega), by omega, by omega, Lib.hid ⟨⟨HM2.out.1.setCell (p := ⟨GF, 1, none⟩) (show w.heap.size ≤ GF by omega) _, HM2.out.2.1.other (a := ⟨GF, 1, none⟩) (by simp; omega) _, HM2.out.2.2.other (a := ⟨GF, 1, none⟩) (by simp; omega) _⟩, HXA2.out.other (a := ⟨GF, 1, none⟩) (by simp; omega) _, by simpa using HXF.out.set 1 (.int .i64 (now + 1 + W))⟩⟩
                  · have hd5 : (W % 3 == 0) = false := by simpa using h3
                    have hd6 : decide (rt < 0) = false := decide_eq_false (by omega)
                    go_wp2_with fail
                    go_meet
                    exact ⟨0, rt, rfl, by omega, by omega, Lib.hid (by omega), by omega, by omega, Lib.hid ⟨HM2.out, HXA2.out, HXF.out⟩⟩
                case rest => as_aux_lemma =>
                  obtain ⟨R, asked, rfl, R0, R1, HR, a1, a2, HALL⟩ := hcut
                  clear HM2 HXA2 HXF
                  have HM3 := Lib.hid HALL.out.1
                  have HXA3 := Lib.hid HALL.out.2.1
                  have HXF := Lib.hid HALL.out.2.2
                  clear HALL
                  by_cases hb : W % 4 = 2 ∨ W % 4 = 3
                  · skip
                    obtain ⟨S', hS⟩ : ∃ x, failS st fa 3 = x := ⟨_, rfl⟩
                    obtain ⟨F', hF⟩ : ∃ x, failF fa = x := ⟨_, rfl⟩
                    obtain ⟨T', hT⟩ : ∃ x, failU st fa ti (now + 1) 3 200 = x := ⟨_, rfl⟩
                    obtain ⟨E', hE⟩ : ∃ x, upI ex = x := ⟨_, rfl⟩
                    obtain ⟨M', hM'⟩ : ∃ x, mostI 20 500 E' = x := ⟨_, rfl⟩
                    obtain ⟨J', hJ⟩ : ∃ x, jitI M' dr = x := ⟨_, rfl⟩
                    obtain ⟨L', hL, hL1, hL2, hL3⟩ : ∃ x, least3 fl dl = x ∧ fl ≤ x ∧ dl ≤ x ∧ x ≤ 999 := ⟨_, rfl, by unfold least3; omega, by unfold least3; omega, by unfold least3; omega⟩
                    obtain ⟨G', hG', hG1, hG2⟩ : ∃ x, max L' J' = x ∧ L' ≤ x ∧ x ≤ 9000 := ⟨_, rfl, by omega, by
                      have h1 := mostP_le 20 500 E' (by omega)
                      rw [hM'] at h1
                      have h2 := jitP_le M' dr h1.1 (by omega)
                      rw [hJ] at h2
                      omega⟩
                    have hT0 := failU_in st fa ti (now + 1) (by omega) (by omega) (by omega) (by omega)
                    rw [hT] at hT0
                    obtain ⟨hT1, hT2⟩ := hT0
                    have HS := Lib.hid hS
                    have HF := Lib.hid hF
                    have HT := Lib.hid hT
                    have HE := Lib.hid hE
                    have HM' := Lib.hid hM'
                    have HJ := Lib.hid hJ
                    have HL := Lib.hid hL
                    have HG' := Lib.hid hG'
                    clear hS hF hT hE hM' hJ hL hG'
                    go_upto_region 37 with fail
                    refine pol37 w _ g fl cp la ga ex fa st ti rt fy kn dl (now + 1) G GF _ _ _ dr (1 + W % 4) R 0 HM3.out HXA3.out HXF.out #[.int .i64 la, .int .i64 G', .int .i64 E', .int .i64 F', .int .i64 S', .int .i64 T', .int .i64 asked, .int .i64 0, .int .i64 (fy - 1), .int .i64 kn, .bool false, .bool false, .slice none 0 0, .int .i64 dl] rfl (by simp [Value.oneCell']) ((pbad_as ⟨0, 0, 0, 0, fl, cp, 20, 500, 3, 200, 0, 0, 1000, ByteArray.empty⟩ ⟨la, ga, ex, fa, st, ti, rt, 0, fy, kn, false, false, none, 0, 0, dl⟩ ⟨1 + W % 4, R, 0⟩ (now + 1) dr S' F' T' E' M' J' L' (fy - 1) asked 0 G' (by simp; omega) (by simp; omega) HR.out (by simp) (by simp; omega) HS.out HF.out HT.out HE.out HM'.out HJ.out HL.out HG'.out _).mono fun e w' h => h) _ _ _ _ _ _ _ _ _ _ _ _ _ _ _ _ _ _ _ _ _ _ _ _ _ _ _ _ _ _ _ _ _ _ _ _ _ _ _ _ _ _ _ _ _ _ _ _ _ _ _ _ _ _ _ _ _ _ _ _ _ _ _ _ _ _ _ _ _ _ _ _ _ _ _ _ _ _ _ _ _ _ _ _ _ _ _ _ _ _ _ _ _ _ _ _ _ _ _ _ _ _ _ _ _ _ _ _ _ _ _ _ _ _ _ _ _ _ _ _ _ _ _ _ _ _ _ _ _ _ _ _ _ _ _ _ _ _ _ _ _ _ _ _ _ _ _ _ _ _ _ _ _ _ _ _ _ _ _ _ _ _ _ _ _ _ _ _ _ _ _ _ _ _ _ _ _ _ _ _ _ _ _ _ _ _ _ _ _ _ _ _ _ ?_
                    intro q175 q176 q177 q178 q179 q180 q181 w3 hb
                    have HM4 := Lib.hid (HM3.out.later hb)
                    have HM9 := Lib.hid (memP_row HM4.out (g := g) (by omega) (G') (E') (F') (S') (T') (asked) (fy - 1) (kn) (dl) (la))
                    obtain ⟨l1, p1, q1⟩ := HM9.out.2.2.facts
                    clear hb HXF HM3 HXA3 HM4
                    go_wp2_with fail
                    go_roundw
                    case rel => exact ⟨k + 1, now + 1, la, G', E', F', S', T', asked, fy - 1, kn, dl, by omega, by omega, by go_num, by first | rfl | go_num, by first | rfl | go_num, by first | rfl | go_num, by first | rfl | go_num, by first | rfl | go_num, by unfold NumP; omega, HM9⟩
                    case measure => simp [intOf]; omega
                  · skip
                    obtain ⟨L', hL, hL1, hL2, hL3⟩ : ∃ x, least3 fl dl = x ∧ fl ≤ x ∧ dl ≤ x ∧ x ≤ 999 := ⟨_, rfl, by unfold least3; omega, by unfold least3; omega, by unfold least3; omega⟩
                    have HL := Lib.hid hL
                    clear hL
                    go_upto_region 37 with fail
                    refine pol37 w _ g fl cp la ga ex fa st ti rt fy kn dl (now + 1) G GF _ _ _ dr (1 + W % 4) R 0 HM3.out HXA3.out HXF.out #[.int .i64 la, .int .i64 L', .int .i64 0, .int .i64 0, .int .i64 0, .int .i64 0, .int .i64 asked, .int .i64 0, .int .i64 (fy - 1), .int .i64 kn, .bool false, .bool false, .slice none 0 0, .int .i64 dl] rfl (by simp [Value.oneCell']) ((pans0 ⟨0, 0, 0, 0, fl, cp, 20, 500, 3, 200, 0, 0, 1000, ByteArray.empty⟩ ⟨la, ga, ex, fa, st, ti, rt, 0, fy, kn, false, false, none, 0, 0, dl⟩ ⟨1 + W % 4, R, 0⟩ (now + 1) dr L' (fy - 1) asked 0 (by simp; omega) (by simp; omega) HR.out (by simp) ⟨by simp; omega, by simp; omega⟩ HL.out _).mono fun e w' h => h) _ _ _ _ _ _ _ _ _ _ _ _ _ _ _ _ _ _ _ _ _ _ _ _ _ _ _ _ _ _ _ _ _ _ _ _ _ _ _ _ _ _ _ _ _ _ _ _ _ _ _ _ _ _ _ _ _ _ _ _ _ _ _ _ _ _ _ _ _ _ _ _ _ _ _ _ _ _ _ _ _ _ _ _ _ _ _ _ _ _ _ _ _ _ _ _ _ _ _ _ _ _ _ _ _ _ _ _ _ _ _ _ _ _ _ _ _ _ _ _ _ _ _ _ _ _ _ _ _ _ _ _ _ _ _ _ _ _ _ _ _ _ _ _ _ _ _ _ _ _ _ _ _ _ _ _ _ _ _ _ _ _ _ _ _ _ _ _ _ _ _ _ _ _ _ _ _ _ _ _ _ _ _ _ _ _ _ _ _ _ _ _ _ ?_
                    intro q175 q176 q177 q178 q179 q180 q181 w3 hb
                    have HM4 := Lib.hid (HM3.out.later hb)
                    have HM9 := Lib.hid (memP_row HM4.out (g := g) (by omega) (L') (0) (0) (0) (0) (asked) (fy - 1) (kn) (dl) (la))
                    obtain ⟨l1, p1, q1⟩ := HM9.out.2.2.facts
                    clear hb HXF HM3 HXA3 HM4
                    go_wp2_with fail
                    go_roundw
                    case rel => exact ⟨k + 1, now + 1, la, L', 0, 0, 0, 0, asked, fy - 1, kn, dl, by omega, by omega, by go_num, by first | rfl | go_num, by first | rfl | go_num, by first | rfl | go_num, by first | rfl | go_num, by first | rfl | go_num, by unfold NumP; omega, HM9⟩
                    case measure => simp [intOf]; omega
          · by_cases w1 : what = 1
            · as_aux_lemma =>
                subst w1
                by_cases hf : fy = 0
                · subst hf
                  obtain ⟨lA, pA, qA⟩ := HXA.out.facts
                  go_wp2_with fail
                  go_roundw
                  case rel => exact ⟨k + 1, now + 1, la, ga, ex, fa, st, ti, rt, 0, kn, dl, by omega, by omega, by go_num, by first | rfl | go_num, by first | rfl | go_num, by first | rfl | go_num, by first | rfl | go_num, by first | rfl | go_num, by unfold NumP; omega, HM1⟩
                  case measure => simp [intOf]; omega
                · have hd4 : (fy == 0) = false := by simpa using hf
                  obtain ⟨S', hS⟩ : ∃ x, failS st fa 3 = x := ⟨_, rfl⟩
                  obtain ⟨F', hF⟩ : ∃ x, failF fa = x := ⟨_, rfl⟩
                  obtain ⟨T', hT⟩ : ∃ x, failU st fa ti (now + 1) 3 200 = x := ⟨_, rfl⟩
                  obtain ⟨E', hE⟩ : ∃ x, upI ex = x := ⟨_, rfl⟩
                  obtain ⟨M', hM'⟩ : ∃ x, mostI 20 500 E' = x := ⟨_, rfl⟩
                  obtain ⟨J', hJ⟩ : ∃ x, jitI M' dr = x := ⟨_, rfl⟩
                  obtain ⟨L', hL, hL1, hL2, hL3⟩ : ∃ x, least3 fl dl = x ∧ fl ≤ x ∧ dl ≤ x ∧ x ≤ 999 := ⟨_, rfl, by unfold least3; omega, by unfold least3; omega, by unfold least3; omega⟩
                  obtain ⟨G', hG', hG1, hG2⟩ : ∃ x, max L' J' = x ∧ L' ≤ x ∧ x ≤ 9000 := ⟨_, rfl, by omega, by
                    have h1 := mostP_le 20 500 E' (by omega)
                    rw [hM'] at h1
                    have h2 := jitP_le M' dr h1.1 (by omega)
                    rw [hJ] at h2
                    omega⟩
                  have hT0 := failU_in st fa ti (now + 1) (by omega) (by omega) (by omega) (by omega)
                  rw [hT] at hT0
                  obtain ⟨hT1, hT2⟩ := hT0
                  have HS := Lib.hid hS
                  have HF := Lib.hid hF
                  have HT := Lib.hid hT
                  have HE := Lib.hid hE
                  have HM' := Lib.hid hM'
                  have HJ := Lib.hid hJ
                  have HL := Lib.hid hL
                  have HG' := Lib.hid hG'
                  clear hS hF hT hE hM' hJ hL hG'
                  obtain ⟨lA, pA, qA⟩ := HXA.out.facts
                  go_upto_region 31 with fail
                  refine wp_region_lit ?_
                  refine poL_loadv rfl rfl rfl (cfg_rowP HM1.out.2.1 rfl) ?_
                  refine poL_loadv rfl rfl rfl (pol_rowP HM1.out.2.2 rfl) ?_
                  go_wp2_with fail
                  refine (plost_at ⟨0, 0, 0, 0, fl, cp, 20, 500, 3, 200, 0, 0, 1000, ByteArray.empty⟩ ⟨la, ga, ex, fa, st, ti, rt, 0, fy, kn, false, false, none, 0, 0, dl⟩ (now + 1) dr S' F' T' E' M' J' L' (fy - 1) G' (by simp; omega) (by simp; omega) HS.out HF.out HT.out HE.out HM'.out HJ.out HL.out HG'.out _).mono ?_
                  rintro e w3 ⟨rfl, hb⟩
                  have HM2 := Lib.hid (HM1.out.later hb)
                  clear hb lA pA qA HM1 HXA HS HF HT HE HM' HJ HL HG'
                  go_wp2_with (refine poL_storeRow rfl rfl rfl rfl HM2.out.2.2 rfl (by kernel_rfl) (by simp [Value.oneCell']) ?_; have HM9 := Lib.hid (memP_row HM2.out (g := g) (by omega) G' E' F' S' T' rt (fy - 1) kn dl la); obtain ⟨l1, p1, q1⟩ := HM9.out.2.2.facts)
                  go_roundw
                  case rel => exact ⟨k + 1, now + 1, la, G', E', F', S', T', rt, fy - 1, kn, dl, by omega, by omega, by go_num, by first | rfl | go_num, by first | rfl | go_num, by first | rfl | go_num, by first | rfl | go_num, by first | rfl | go_num, by unfold NumP; omega, HM9⟩
                  case measure => simp [intOf]; omega
            · by_cases w2 : what = 2
              · as_aux_lemma =>
                  subst w2
                  obtain ⟨lA, pA, qA⟩ := HXA.out.facts
                  obtain ⟨K', hK⟩ : ∃ x, addI (now + 1) 1000 = x := ⟨_, rfl⟩
                  obtain ⟨L', hL, hL1, hL2, hL3⟩ : ∃ x, least3 fl W = x ∧ fl ≤ x ∧ W ≤ x ∧ x ≤ 999 := ⟨_, rfl, by unfold least3; omega, by unfold least3; omega, by unfold least3; omega⟩
                  obtain ⟨G', hG', hG1, hG2, hG3⟩ : ∃ x, max ga L' = x ∧ L' ≤ x ∧ ga ≤ x ∧ x ≤ 9000 := ⟨_, rfl, by omega, by omega, by omega⟩
                  have HK := Lib.hid hK
                  have HL := Lib.hid hL
                  have HG' := Lib.hid hG'
                  clear hK hL hG'
                  go_upto_region 40 with fail
                  refine wp_region_lit ?_
                  refine poL_loadv rfl rfl rfl (cfg_rowP HM1.out.2.1 rfl) ?_
                  refine poL_loadv rfl rfl rfl (pol_rowP HM1.out.2.2 rfl) ?_
                  go_wp2_with fail
                  refine (plearn_at ⟨0, 0, 0, 0, fl, cp, 20, 500, 3, 200, 0, 0, 1000, ByteArray.empty⟩ ⟨la, ga, ex, fa, st, ti, rt, 0, fy, kn, false, false, none, 0, 0, dl⟩ ⟨false, false, none, 0, 0, W⟩ (now + 1) K' L' G' HK.out HL.out HG'.out _).mono ?_
                  rintro e w3 ⟨rfl, hb⟩
                  have HM2 := Lib.hid (HM1.out.later hb)
                  clear hb lA pA qA HM1 HXA HK HL HG'
                  go_wp2_with (refine poL_storeRow rfl rfl rfl rfl HM2.out.2.2 rfl (by kernel_rfl) (by simp [Value.oneCell']) ?_; have HM9 := Lib.hid (memP_row HM2.out (g := g) (by omega) (G') (ex) (fa) (st) (ti) (rt) (fy) (K') (W) (la)); obtain ⟨l1, p1, q1⟩ := HM9.out.2.2.facts)
                  go_roundw
                  case rel => exact ⟨k + 1, now + 1, la, G', ex, fa, st, ti, rt, fy, K', W, by omega, by omega, by go_num, by first | rfl | go_num, by first | rfl | go_num, by first | rfl | go_num, by first | rfl | go_num, by first | rfl | go_num, by unfold NumP; omega, HM9⟩
                  case measure => simp [intOf]; omega
              · have hw0 : (what == 0) = false := by simpa using w0
                have hw1 : (what == 1) = false := by simpa using w1
                have hw2 : (what == 2) = false := by simpa using w2
                obtain ⟨lA, pA, qA⟩ := HXA.out.facts
                by_cases hnv : cp ≤ fy ∨ (st ≠ 0 ∧ 0 < fy)
                · have HV := Lib.hid (eligP_never ⟨0, 0, 0, 0, fl, cp, 20, 500, 3, 200, 0, 0, 1000, ByteArray.empty⟩ ⟨la, ga, ex, fa, st, ti, rt, 0, fy, kn, false, false, none, 0, 0, dl⟩ (addI la ga) hnv)
                  go_upto_region 13 with fail
                  refine wp_region_lit ?_
                  refine poL_loadv rfl rfl rfl (cfg_rowP HM1.out.2.1 rfl) ?_
                  refine poL_loadv rfl rfl rfl (pol_rowP HM1.out.2.2 rfl) ?_
                  go_wp2_with fail
                  refine (elig_as ⟨0, 0, 0, 0, fl, cp, 20, 500, 3, 200, 0, 0, 1000, ByteArray.empty⟩ ⟨la, ga, ex, fa, st, ti, rt, 0, fy, kn, false, false, none, 0, 0, dl⟩ 4611686018427387903 HV.out _).mono ?_
                  rintro e w3 ⟨rfl, hb⟩
                  have HM2 := Lib.hid (HM1.out.later hb)
                  clear hb lA pA qA HM1 HXA HV
                  obtain ⟨l0, p0, q0⟩ := HM2.out.2.1.facts
                  obtain ⟨l1, p1, q1⟩ := HM2.out.2.2.facts
                  by_cases hcf : cp ≤ fy
                  · skip
                    have hd5 : decide (fy < cp) = false := decide_eq_false (by omega)
                    go_wp2_with fail
                    go_roundw
                    case rel => exact ⟨k + 1, now + 1, la, ga, ex, fa, st, ti, rt, fy, kn, dl, by omega, by omega, by go_num, by first | rfl | go_num, by first | rfl | go_num, by first | rfl | go_num, by first | rfl | go_num, by first | rfl | go_num, by unfold NumP; omega, HM2⟩
                    case measure => simp [intOf]; omega
                  · skip
                    have hd5 : decide (fy < cp) = true := decide_eq_true (by omega)
                    have hd6 : (st == 0) = false := by simp; omega
                    go_wp2_with fail
                    go_roundw
                    case rel => exact ⟨k + 1, now + 1, la, ga, ex, fa, st, ti, rt, fy, kn, dl, by omega, by omega, by go_num, by first | rfl | go_num, by first | rfl | go_num, by first | rfl | go_num, by first | rfl | go_num, by first | rfl | go_num, by unfold NumP; omega, HM2⟩
                    case measure => simp [intOf]; omega
                · have hvv := eligP_at ⟨0, 0, 0, 0, fl, cp, 20, 500, 3, 200, 0, 0, 1000, ByteArray.empty⟩ ⟨la, ga, ex, fa, st, ti, rt, 0, fy, kn, false, false, none, 0, 0, dl⟩ (addI la ga) (now + 9000) hnv (by simp; omega) (by simp; omega) (by simp; omega) (by omega) (fun h => by simp at h; rw [addP_in la ga h (by omega) (by omega) (by omega)]; omega)
                  have hlg : 0 ≤ la → addI la ga = la + ga := fun h => addP_in la ga h (by omega) (by omega) (by omega)
                  obtain ⟨v, hv⟩ : ∃ v, eligP ⟨0, 0, 0, 0, fl, cp, 20, 500, 3, 200, 0, 0, 1000, ByteArray.empty⟩ ⟨la, ga, ex, fa, st, ti, rt, 0, fy, kn, false, false, none, 0, 0, dl⟩ (addI la ga) = v := ⟨_, rfl⟩
                  rw [hv] at hvv
                  obtain ⟨v0, v1, v2, v3, v4⟩ := hvv
                  simp only at v2 v3 v4
                  have v3 : 0 ≤ la → la + ga ≤ v := fun h => by rw [← hlg h]; exact v3 h
                  have HV := Lib.hid hv
                  clear hv hlg
                  go_upto_region 13 with fail
                  refine wp_region_lit ?_
                  refine poL_loadv rfl rfl rfl (cfg_rowP HM1.out.2.1 rfl) ?_
                  refine poL_loadv rfl rfl rfl (pol_rowP HM1.out.2.2 rfl) ?_
                  go_wp2_with fail
                  refine (elig_as ⟨0, 0, 0, 0, fl, cp, 20, 500, 3, 200, 0, 0, 1000, ByteArray.empty⟩ ⟨la, ga, ex, fa, st, ti, rt, 0, fy, kn, false, false, none, 0, 0, dl⟩ v HV.out _).mono ?_
                  rintro e w3 ⟨rfl, hb⟩
                  have HM2 := Lib.hid (HM1.out.later hb)
                  clear hb lA pA qA HM1 HXA HV
                  have hne : (v == 4611686018427387903) = false := by simp; omega
                  go_upto_if 70 with fail
                  go_cut [9] (fun vn wx => ∃ n' : Int, vn = .int .i64 n' ∧ now + 1 ≤ n' ∧ v ≤ n' ∧ n' ≤ now + 9001 ∧ wx = w3)
                  case first =>
                    by_cases hgt : now + 1 < v
                    · have hd5 : decide (now + 1 < v) = true := decide_eq_true hgt
                      go_wp2_with fail
                      go_meet
                      exact ⟨v, rfl, by omega, by omega, by omega, rfl⟩
                    · have hd5 : decide (now + 1 < v) = false := decide_eq_false hgt
                      go_wp2_with fail
                      go_meet
                      exact ⟨now + 1, rfl, by omega, by omega, by omega, rfl⟩
                  case rest => as_aux_lemma =>
                    obtain ⟨n', rfl, m1, m2, m3, rfl⟩ := hcut
                    obtain ⟨l0, p0, q0⟩ := HM2.out.2.1.facts
                    obtain ⟨l1, p1, q1⟩ := HM2.out.2.2.facts
                    have hcf : ¬ cp ≤ fy := fun h => hnv (Or.inl h)
                    have hd6 : decide (cp ≤ fy) = false := decide_eq_false hcf
                    have hd9 : decide (n' < rt) = false := decide_eq_false (by omega)
                    go_upto_region 19 with fail
                    refine pol19 w _ g fl cp la ga ex fa st ti rt fy kn dl n' HM2.out (by omega) (by omega) (by omega) (by omega) hcf (by omega) (fun h => by have := v3 h; omega) (fun h => by have := v4 h; omega) (fun h h2 => hnv (Or.inr ⟨h, h2⟩)) _ _ _ _ _ _ _ _ _ _ _ _ _ _ _ _ _ _ _ _ _ _ _ _ _ _ _ _ _ _ _ _ _ _ _ _ _ _ _ _ _ _ _ _ _ _ _ _ _ _ _ _ _ _ _ _ _ _ _ _ _ _ _ _ _ _ _ _ _ _ _ _ _ _ _ _ _ _ _ _ _ _ _ _ _ _ _ _ _ _ _ _ _ _ _ _ _ _ _ _ _ _ _ _ _ _ _ _ _ _ _ _ _ _ _ _ _ _ _ _ _ _ _ _ _ _ _ _ _ _ _ _ _ _ _ _ _ _ _ _ _ _ _ _ _ _ _ _ _ _ _ _ _ _ _ _ _ _ _ _ _ _ _ _ _ _ _ _ _ _ _ _ _ _ _ _ _ _ _ _ _ _ _ _ _ _ _ _ _ _ _ _ ?_
                    intro z72 z73 z74 z75 z76 z77 z78 z79 z80 z81 z82 z83 z84 z85 z86 z87 z88 z89 z90 z91 z92 z93 z94 z95 z96 z97 z98 z99 z100 z101 z102 z103 z104 z105 z106 z107 z108 z109 z110 z111
                    clear hd6 hd9
                    go_upto_region 21 with fail
                    have hc9 : 0 < k → _ := fun hk0 => (HM2.out.1.cell (World.block_lt_of_cell? _ _ (HC.out (k - 1) (by omega)).1)).trans (HC.out (k - 1) (by omega)).1
                    refine pol21 w _ g fl cp la ga ex fa st ti rt fy kn dl n' b off len acap k _ rfl (A (k - 1)).1 HM2.out (by omega) (by omega) (by omega) (by omega) hlt h100 hc9 (fun h => by have := v3 h; omega) _ _ _ _ _ _ _ _ _ _ _ _ _ _ _ _ _ _ _ _ _ _ _ _ _ _ _ _ _ _ _ _ _ _ _ _ _ _ _ _ _ _ _ _ _ _ _ _ _ _ _ _ _ _ _ _ _ _ _ _ _ _ _ _ _ _ _ _ _ _ _ _ _ _ _ _ _ _ _ _ _ _ _ _ _ _ _ _ _ _ _ _ _ _ _ _ _ _ _ _ _ _ _ _ _ _ _ _ _ _ _ _ _ _ _ _ _ _ _ _ _ _ _ _ _ _ _ _ _ _ _ _ _ _ _ _ _ _ _ _ _ _ _ _ _ _ _ _ _ _ _ _ _ _ _ _ _ _ _ _ _ _ _ _ _ _ _ _ _ _ _ _ _ _ _ _ _ _ _ _ _ _ _ _ _ _ _ _ _ ?_
                    intro y113 y114 y115 y116 y117 y118 y119 y120 y121 y122 y123 y124 y125 y126 y127 y128 y129 y130 y131 y132 y133
                    clear hc9
                    obtain ⟨S', hS⟩ : ∃ x, sendS st ti n' = x := ⟨_, rfl⟩
                    have HS := Lib.hid hS
                    clear hS
                    clear l0 p0 q0 l1 p1 q1
                    go_upto_region 23 with fail
                    refine pol23 w _ g fl cp la ga ex fa st ti rt fy kn dl n' HM2.out #[.int .i64 n', .int .i64 ga, .int .i64 ex, .int .i64 fa, .int .i64 S', .int .i64 ti, .int .i64 rt, .int .i64 0, .int .i64 (fy + 1), .int .i64 kn, .bool false, .bool false, .slice none 0 0, .int .i64 dl] rfl (by simp [Value.oneCell']) ((psend_as ⟨0, 0, 0, 0, fl, cp, 20, 500, 3, 200, 0, 0, 1000, ByteArray.empty⟩ ⟨la, ga, ex, fa, st, ti, rt, 0, fy, kn, false, false, none, 0, 0, dl⟩ n' S' (fy + 1) (by simp; omega) (by simp; omega) HS.out (by simp) _).mono fun e w' h => h) _ _ _ _ _ _ _ _ _ _ _ _ _ _ _ _ _ _ _ _ _ _ _ _ _ _ _ _ _ _ _ _ _ _ _ _ _ _ _ _ _ _ _ _ _ _ _ _ _ _ _ _ _ _ _ _ _ _ _ _ _ _ _ _ _ _ _ _ _ _ _ _ _ _ _ _ _ _ _ _ _ _ _ _ _ _ _ _ _ _ _ _ _ _ _ _ _ _ _ _ _ _ _ _ _ _ _ _ _ _ _ _ _ _ _ _ _ _ _ _ _ _ _ _ _ _ _ _ _ _ _ _ _ _ _ _ _ _ _ _ _ _ _ _ _ _ _ _ _ _ _ _ _ _ _ _ _ _ _ _ _ _ _ _ _ _ _ _ _ _ _ _ _ _ _ _ _ _ _ _ _ _ _ _ _ _ _ _ _ _ _ _ _ _ _ ?_
                    intro q135 q136 q137 q138 w4 hb
                    have HM4 := Lib.hid (HM2.out.later hb)
                    have HM9 := Lib.hid (memP_row HM4.out (g := g) (by omega) (ga) (ex) (fa) (S') (ti) (rt) (fy + 1) (kn) (dl) (n'))
                    obtain ⟨l1, p1, q1⟩ := HM9.out.2.2.facts
                    clear hb HM2 HM4
                    go_wp2_with fail
                    go_roundw
                    case rel => exact ⟨k + 1, n', n', ga, ex, fa, S', ti, rt, fy + 1, kn, dl, by omega, by omega, by go_num, by first | rfl | go_num, by first | rfl | go_num, by first | rfl | go_num, by first | rfl | go_num, by first | rfl | go_num, by unfold NumP; omega, HM9⟩
                    case measure => simp [intOf]; omega
      · have hd2 : decide ((k : Int) < 100) = false := decide_eq_false (by omega)
        go_wp2_with fail
        refine (awake20 _).mono ?_
        rintro e w9 ⟨rfl, hb⟩
        go_wp2_with fail
        exact bodyPost_ret (v := .bool true) (by simp [results, Try.results3, go_sem]) rfl ⟨rfl, HM.out.1.trans (hb.mono HM.out.1.size)⟩
    · have hd1 : decide ((k : Int) < len) = false := decide_eq_false (by omega)
      go_wp2_with fail
      refine (awake20 _).mono ?_
      rintro e w9 ⟨rfl, hb⟩
      go_wp2_with fail
      exact bodyPost_ret (v := .bool true) (by simp [results, Try.results3, go_sem]) rfl ⟨rfl, HM.out.1.trans (hb.mono HM.out.1.size)⟩
end Go.Proofs.Ytonfbkffngplcaa
