/- Part of a chain: DkMem, DkFn, DkApp, DkDel, DkDel2, DkDel3, DkDrop, DkCra. -/
import Derived.Test.YtimkgaokcldgkaaGreatDoorFq06
import Derived.Test.YtimkgaokcldgkaaGreatDoorFq05
import Derived.Test.YtimkgaokcldgkaaGreatDoorFq00
import Derived.Test.YtimkgaokcldgkaaGreatDoorFq07
import Derived.Test.YtimkgaokcldgkaaGreatDoorFq09
import Derived.Test.YtimkgaokcldgkaaGreatDoorChecked
import Derived.Maps.OwnSet
import Derived.Maps.Range
import Derived.Lib.SlKeysI
import Derived.WalkKit
import Derived.BigQuiet
import Derived.Lib.Hide
import Derived.OpenShut
import Derived.Shelf.Abstract
import Derived.IntWalk
import Derived.Deep.Cut
import Derived.Deep.CutRange
import Derived.Deep.DeepCutAuto
import Derived.Deep.CutBlock
/- The simulated disk: what it is in memory. -/
namespace Go.Proofs.YtimkgaokcldgkaaGreatDoor
open Go Go.RowKit Go.Maps
set_option linter.unusedVariables false
set_option linter.unusedSimpArgs false
set_option maxRecDepth 10000

theorem rowPc : RowTy Tryz.prog 68 135 2 16 := ⟨Tryz.underlying68, ⟨.agg #[.int .i64 0, .int .i64 0], by kernel_rfl, rfl⟩, by decide⟩
theorem rowU8 : RowTy Tryz.prog 55 5 1 1 := ⟨Tryz.underlying55, ⟨.int .u8 0, by kernel_rfl, rfl⟩, by decide⟩
theorem lawI : Keyed Tryz.prog 3 := int_keyed Tryz.underlying3
theorem zeroB (w : World) : (zeroValue 55).run Tryz.prog w = .ok (.slice none 0 0) w := by kernel_rfl
/-- An element reads as itself. -/
def RH : Value → Option (DataW Value × List MemPlace) := fun v => some (.held v, [])
def kn (n : Int) : Lit := .int .i64 n
theorem kn_key (n : Int) (h : (Lit.int .i64 n).wf = true) : keyOf Tryz.prog 3 (.int .i64 n) = some (kn n) := keyOf_int_mk Tryz.underlying3 h
theorem kn_ne {a b : Int} (h : a ≠ b) : kn a ≠ kn b := fun e => h (by injection e)
theorem kn_lit (n : Int) (h : (Lit.int .i64 n).wf = true) : WideAt.IsKeyLit (kn n) := by
  unfold kn WideAt.IsKeyLit
  trivial
abbrev VF := Int → Option Addr × Nat
def sv (V : VF) (n : Int) (b : List Int) : Value := .slice (V n).1 b.length (V n).2
def u8L (b : List Int) : List Value := b.map (Value.int .u8)
/-- The map of segments; where x is a number, what lies at it is not told. -/
structure Mp (w : World) (B bm : Nat) (S : Sgs) (V : VF) (x : Option Int) : Prop where
  mp : ∃ (D : DataW Value) (m : Nat), w.ownsMap Tryz.prog 3 RH bm m D ∧ m ≤ 2000 ∧ (∀ n, Maps.has D (kn n) = (gS S n).isSome) ∧ (∀ n b, gS S n = some b → ∀ z, D.atKey (kn n) z = .held (sv V n b))
  rows : ∀ n b, gS S n = some b → x ≠ some n → Own w B 5 1 (V n).1 b.length (V n).2 (u8L b)
  ne : ∀ n m b c, n ≠ m → gS S n = some b → gS S m = some c → ∀ g, (V n).1 = some ⟨g, 0, none⟩ → (V m).1 ≠ some ⟨g, 0, none⟩
  ss : SS S
  bB : B ≤ bm
theorem u8L_len (b : List Int) : (u8L b).length = b.length * 1 := by simp [u8L]
theorem u8L_app (a b : List Int) : u8L (a ++ b) = u8L a ++ u8L b := by simp [u8L]
theorem u8L_one (b : List Int) : ∀ u ∈ u8L b, u.oneCell' = true := by
  intro u hu
  unfold u8L at hu
  obtain ⟨c, _, rfl⟩ := List.mem_map.1 hu
  rfl
theorem map_not_cells {w : World} {b : Nat} {es : Array MapEntry} {cl : Nat} {cs : Array Value} {t : TypeId} {z : Nat × Nat} (h : w.heap[b]? = some (.map es cl)) (k : w.heap[b]? = some (.cells cs t z)) : False := by
  rw [h] at k
  cases k
theorem ownsMap_not_own {w : World} {B size n cap b m : Nat} {E : TypeId} {a : Option Addr} {xs : List Value} {D : DataW Value} {g : Nat} (h : w.ownsMap Tryz.prog 3 RH b m D) (ho : Own w B E size a n cap xs) (hg : a = some ⟨g, 0, none⟩) : g ≠ b := fun e => by
  subst hg
  obtain ⟨cur, hc, _⟩ := ho.block
  obtain ⟨es, cl, hm, _⟩ := h
  rw [e] at hc
  exact map_not_cells hm hc
theorem ownsMap_not_box {w : World} {b m H : Nat} {cs : Array Value} {t : TypeId} {D : DataW Value} (h : w.ownsMap Tryz.prog 3 RH b m D) (ho : Box w H cs t) : H ≠ b := fun e => by
  obtain ⟨es, cl, hm, _⟩ := h
  have hc : w.heap[H]? = some (.cells cs t (0, 0)) := ho
  rw [e] at hc
  exact map_not_cells hm hc
theorem ownsMap_blk {w w' : World} {b m : Nat} {D : DataW Value} (h : w.ownsMap Tryz.prog 3 RH b m D) (he : w'.heap[b]? = w.heap[b]?) : w'.ownsMap Tryz.prog 3 RH b m D := by
  obtain ⟨es, cl, hm, h2⟩ := h
  exact ⟨es, cl, he.trans hm, h2⟩
theorem Mp.lt {w : World} {B bm : Nat} {S : Sgs} {V : VF} {x : Option Int} (h : Mp w B bm S V x) : bm < w.heap.size := by
  obtain ⟨D, m, ho, _⟩ := h.mp
  exact ho.lt
/-- The map's own blocks. -/
def MineM (bm : Nat) (S : Sgs) (V : VF) (x : Option Int) (k : Nat) : Prop := k = bm ∨ ∃ n b, gS S n = some b ∧ x ≠ some n ∧ (V n).1 = some ⟨k, 0, none⟩
theorem Mp.blocks {w w' : World} {B bm : Nat} {S : Sgs} {V : VF} {x : Option Int} (h : Mp w B bm S V x) (hb : ∀ k, MineM bm S V x k → w'.heap[k]? = w.heap[k]?) : Mp w' B bm S V x := by
  obtain ⟨D, m, ho, h2⟩ := h.mp
  exact ⟨⟨D, m, ownsMap_blk ho (hb bm (Or.inl rfl)), h2⟩, fun n b hn hx => (h.rows n b hn hx).blocks fun g e => hb g (Or.inr ⟨n, b, hn, hx, e⟩), h.ne, h.ss, h.bB⟩
theorem Mp.mine_lt {w : World} {B bm : Nat} {S : Sgs} {V : VF} {x : Option Int} (h : Mp w B bm S V x) {k : Nat} (hk : MineM bm S V x k) : k < w.heap.size ∧ B ≤ k := by
  rcases hk with hk | ⟨n, b, hn, hx, e⟩
  · rw [hk]; exact ⟨h.lt, h.bB⟩
  · exact own_lt (h.rows n b hn hx) e
theorem Mp.later {w w' : World} {B bm : Nat} {S : Sgs} {V : VF} {x : Option Int} (h : Mp w B bm S V x) (hb : Below w.heap.size w w') : Mp w' B bm S V x :=
  h.blocks fun k hk => hb.block k (h.mine_lt hk).1
theorem Mp.hole {w : World} {B bm : Nat} {S : Sgs} {V : VF} (h : Mp w B bm S V none) (n : Int) : Mp w B bm S V (some n) :=
  ⟨h.mp, fun k b hk hx => h.rows k b hk (by simp), h.ne, h.ss, h.bB⟩
/-- A row of the map's grows or is written: the others are as they were. -/
theorem Mp.grown {w w' : World} {B bm : Nat} {S : Sgs} {V : VF} {n : Int} (h : Mp w B bm S V none) {row : Option Nat} (hg : w.grownBy w' row) (hr : ∀ k, row = some k → (gS S n).isSome = true ∧ (V n).1 = some ⟨k, 0, none⟩) : Mp w' B bm S V (some n) :=
  (h.hole n).blocks fun k hk => by
    refine hg.block k ((h.hole n).mine_lt hk).1 fun e => ?_
    obtain ⟨h1, h2⟩ := hr k e.symm
    obtain ⟨b, hb⟩ := Option.isSome_iff_exists.1 h1
    rcases hk with hk | ⟨m, c, hm, hx, e3⟩
    · obtain ⟨D, mm, ho, _⟩ := h.mp
      exact ownsMap_not_own ho (h.rows n b hb (by simp)) h2 hk
    · exact h.ne n m b c (fun e4 => hx (by rw [e4])) hb hm k h2 e3
theorem Mp.size {w : World} {B bm : Nat} {S : Sgs} {V : VF} {x : Option Int} (h : Mp w B bm S V x) :
    ∃ (D : DataW Value) (m : Nat), w.ownsMap Tryz.prog 3 RH bm m D ∧ Maps.size D = S.length ∧ (S.map Prod.fst).Perm (intKeys D) := by
  obtain ⟨D, m, ho, _, hh, _⟩ := h.mp
  obtain ⟨es, rfl, hp, hk⟩ := ho.entries lawI
  have hki : ∀ p ∈ es, ∃ x, p.1 = .int .i64 x := by
    obtain ⟨es2, e2, hk2⟩ := ho.keysOf
    injection e2 with e2
    subst e2
    intro p hp'
    obtain ⟨v, hv⟩ := hk2 p hp'
    obtain ⟨x, _, e3, _⟩ := Maps.keyOf_i64 Tryz.underlying3 hv
    exact ⟨x, e3⟩
  have hP := perm_intKeys hp hki (keys_nodup h.ss) (fun x => by rw [gS_keys]; exact (by rw [← hh x]; rfl))
  refine ⟨_, m, ho, ?_, hP⟩
  have := hP.length_eq
  rw [List.length_map] at this
  rw [this]
  show es.length = (es.map fun p => intOf p.1).length
  rw [List.length_map]
def lkA (S : Sgs) (V : VF) (n : Int) : Option Addr := if (gS S n).isSome then (V n).1 else none
def lkC (S : Sgs) (V : VF) (n : Int) : Nat := if (gS S n).isSome then (V n).2 else 0
theorem lk_own {w : World} {B bm : Nat} {S : Sgs} {V : VF} (h : Mp w B bm S V none) (n : Int) : Own w B 5 1 (lkA S V n) (gD S n).length (lkC S V n) (u8L (gD S n)) := by
  unfold lkA lkC gD
  cases hg : gS S n with
  | none => exact Own.nil _ _ _ _
  | some b => exact h.rows n b hg (by simp)
theorem Mp.look_ok {w : World} {B bm : Nat} {S : Sgs} {V : VF} {x : Option Int} (h : Mp w B bm S V x) (n : Int) (hn : (Lit.int .i64 n).wf = true) :
    (Instr.lookup 67 (.map (some bm)) (.int .i64 n) true).run Tryz.prog w = .ok (.tuple #[.slice (lkA S V n) (gD S n).length (lkC S V n), .bool (gS S n).isSome]) w := by
  obtain ⟨D, m, ho, _, hh, ha⟩ := h.mp
  obtain ⟨v, ps, h1, h2⟩ := ho.look_ok lawI Tryz.underlying67 (zeroB w) (zd := .held (.slice none 0 0)) (zp := []) rfl (kn_key n hn)
  rw [hh n] at h1
  rw [h1]
  unfold lkA lkC gD
  cases hg : gS S n with
  | none =>
    rw [Maps.atKey_of_not_has (by rw [hh n, hg]; rfl)] at h2
    unfold RH at h2
    injection h2 with h2
    injection h2 with h2 _
    injection h2 with h2
    rw [h2]
    rfl
  | some b =>
    rw [ha n b hg] at h2
    unfold RH at h2
    injection h2 with h2
    injection h2 with h2 _
    injection h2 with h2
    rw [h2]
    rfl
theorem Mp.look {w : World} {B bm : Nat} {S : Sgs} {V : VF} {x : Option Int} (h : Mp w B bm S V x) (n : Int) (hn : (Lit.int .i64 n).wf = true) :
    (Instr.lookup 67 (.map (some bm)) (.int .i64 n) false).run Tryz.prog w = .ok (.slice (lkA S V n) (gD S n).length (lkC S V n)) w := by
  obtain ⟨D, m, ho, _, hh, ha⟩ := h.mp
  obtain ⟨v, ps, h1, h2⟩ := ho.lookup lawI Tryz.underlying67 (zeroB w) (zd := .held (.slice none 0 0)) (zp := []) rfl (kn_key n hn)
  rw [h1]
  unfold lkA lkC gD
  cases hg : gS S n with
  | none =>
    rw [Maps.atKey_of_not_has (by rw [hh n, hg]; rfl)] at h2
    unfold RH at h2
    injection h2 with h2
    injection h2 with h2 _
    injection h2 with h2
    rw [h2]
    rfl
  | some b =>
    rw [ha n b hg] at h2
    unfold RH at h2
    injection h2 with h2
    injection h2 with h2 _
    injection h2 with h2
    rw [h2]
    rfl
theorem ownsMap_tight {w : World} {b m : Nat} {D : DataW Value} (h : w.ownsMap Tryz.prog 3 RH b m D) : w.ownsMap Tryz.prog 3 RH b (Maps.size D) D := by
  obtain ⟨es, cl, h1, h2, _, rfl⟩ := h
  exact ⟨es, cl, h1, h2, by simp [Maps.size, length_sorted], rfl⟩
def setV (V : VF) (n : Int) (a : Option Addr) (c : Nat) : VF := fun k => if k = n then (a, c) else V k
theorem setV_same (V : VF) (n : Int) (a : Option Addr) (c : Nat) : setV V n a c n = (a, c) := if_pos rfl
theorem setV_other (V : VF) (n : Int) (a : Option Addr) (c : Nat) {k : Int} (h : k ≠ n) : setV V n a c k = V k := if_neg h
theorem Mp.store {w : World} {B bm : Nat} {S : Sgs} {V : VF} {n : Int} (h : Mp w B bm S V (some n)) (hl : S.length ≤ 1000) (hn : (Lit.int .i64 n).wf = true) {a : Option Addr} {c : Nat} {b : List Int} (ho : Own w B 5 1 a b.length c (u8L b))
    (hd : ∀ k, k ≠ n → (gS S k).isSome = true → ∀ g, a = some ⟨g, 0, none⟩ → (V k).1 ≠ some ⟨g, 0, none⟩) :
    ∃ w', (Instr.mapUpdate 67 (.map (some bm)) (.int .i64 n) (.slice a b.length c)).run Tryz.prog w = .ok () w' ∧ Mp w' B bm (pS S n b) (setV V n a c) none ∧ w.mapTurned w' bm := by
  obtain ⟨D1, m1, hm1, hs1, _⟩ := h.size
  obtain ⟨D, m, hm, hmm, hh, ha⟩ := h.mp
  have hD : D = D1 := by
    obtain ⟨e1, c1, a1, _, _, r1⟩ := hm
    obtain ⟨e2, c2, a2, _, _, r2⟩ := hm1
    rw [a1] at a2
    injection a2 with a2
    injection a2 with a2 _
    rw [r1, r2, a2]
  subst hD
  have hm2 := ownsMap_tight hm
  rw [hs1] at hm2
  obtain ⟨w', h1, h2, h3⟩ := hm2.store lawI Tryz.underlying67 (by unfold maxLen; omega) (kn_key n hn) (val := .slice a b.length c) (d := .held (.slice a b.length c)) (ps := []) rfl
  have hg := h3.grown
  have other : ∀ {k b'}, k ≠ n → gS (pS S n b) k = some b' → gS S k = some b' := fun {k b'} hk hb' => by
    rw [gS_put, if_neg hk] at hb'
    exact hb'
  have same : ∀ {b'}, gS (pS S n b) n = some b' → b' = b := fun {b'} hb' => by
    rw [gS_put, if_pos rfl] at hb'
    exact (Option.some.inj hb').symm
  have keep : ∀ g, g < w.heap.size → g ≠ bm → w'.heap[g]? = w.heap[g]? := fun g h4 h5 => hg.block g h4 (fun e => h5 (Option.some.inj e))
  refine ⟨w', h1, ⟨⟨_, _, h2, by omega, fun k => ?_, fun k b' hk z => ?_⟩, fun k b' hk _ => ?_, fun i j bi bj hij hi hj g hgi hgj => ?_, SS_put h.ss n b, h.bB⟩, h3⟩
  · by_cases e : k = n
    · subst e
      rw [has_put_same hm.isMap (kn_lit k hn), gS_put, if_pos rfl]
      rfl
    · rw [has_put_other (kn_ne e), gS_put, if_neg e]
      exact hh k
  · by_cases e : k = n
    · subst e
      rw [atKey_put_same hm.isMap (kn_lit k hn), same hk]
      unfold sv
      rw [setV_same]
    · rw [atKey_put_other (kn_ne e), ha k b' (other e hk)]
      unfold sv
      rw [setV_other _ _ _ _ e]
  · by_cases e : k = n
    · subst e
      rw [same hk, setV_same]
      exact ho.blocks fun g hgg => keep g (own_lt ho hgg).1 (ownsMap_not_own hm ho hgg)
    · rw [setV_other _ _ _ _ e]
      have hr := h.rows k b' (other e hk) (fun e2 => e (Option.some.inj e2).symm)
      exact hr.blocks fun g hgg => keep g (own_lt hr hgg).1 (ownsMap_not_own hm hr hgg)
  · by_cases ei : i = n
    · subst ei
      rw [setV_same] at hgi
      rw [setV_other _ _ _ _ (fun e => hij e.symm)] at hgj
      exact hd j (fun e => hij e.symm) (by rw [other (fun e => hij e.symm) hj]; rfl) g hgi hgj
    · rw [setV_other _ _ _ _ ei] at hgi
      by_cases ej : j = n
      · subst ej
        rw [setV_same] at hgj
        exact hd i ei (by rw [other ei hi]; rfl) g hgj hgi
      · rw [setV_other _ _ _ _ ej] at hgj
        exact h.ne i j bi bj hij (other ei hi) (other ej hj) g hgi hgj
theorem Mp.off {w : World} {B bm k : Nat} {S : Sgs} {V : VF} {x : Option Int} {cs : Array Value} {t : TypeId} {z : Nat × Nat} (h : Mp w B bm S V x) (hk : w.heap[k]? = some (.cells cs t z)) (ht : t ≠ 5) : ¬ MineM bm S V x k := fun hm => by
  rcases hm with hm | ⟨n, b, hn, hx, e⟩
  · obtain ⟨D, m, ho, _⟩ := h.mp
    obtain ⟨es, cl, h1, _⟩ := ho
    rw [hm] at hk
    exact map_not_cells h1 hk
  · have ho := h.rows n b hn hx
    rw [e] at ho
    obtain ⟨cur, hc, _⟩ := ho.block
    rw [hc] at hk
    injection hk with hk
    injection hk with _ h2 _
    exact ht h2.symm
theorem Mp.put_row {w2 w3 : World} {B bm : Nat} {S : Sgs} {V : VF} {n : Int} (h : Mp w2 B bm S V none) (hl : S.length ≤ 1000) (hn : (Lit.int .i64 n).wf = true) {a : Option Addr} {c : Nat} {b : List Int} (q1 : Own w3 B 5 1 a b.length c (u8L b))
    (q2 : w2.grownBy w3 ((lkA S V n).map (·.block))) (q4 : ∀ g, a = some ⟨g, 0, none⟩ → (lkA S V n).map (·.block) = some g ∨ w2.heap.size ≤ g) :
    ∃ w', (Instr.mapUpdate 67 (.map (some bm)) (.int .i64 n) (.slice a b.length c)).run Tryz.prog w3 = .ok () w' ∧ Mp w' B bm (pS S n b) (setV V n a c) none ∧ w3.mapTurned w' bm := by
  have hlk : ∀ k, (lkA S V n).map (·.block) = some k → (gS S n).isSome = true ∧ (V n).1 = some ⟨k, 0, none⟩ := fun k hk => by
    unfold lkA at hk
    split at hk
    · rename_i hs
      refine ⟨hs, ?_⟩
      obtain ⟨b', hb'⟩ := Option.isSome_iff_exists.1 hs
      rcases (h.rows n b' hb' (by simp)).form with ⟨e, _⟩ | ⟨g, e, _⟩
      · rw [e] at hk; cases hk
      · rw [e] at hk ⊢
        exact congrArg (fun x => some (⟨x, 0, none⟩ : Addr)) (Option.some.inj hk)
    · cases hk
  refine (h.grown q2 hlk).store hl hn q1 fun k hk hs g hg hv => ?_
  obtain ⟨b', hb'⟩ := Option.isSome_iff_exists.1 hs
  rcases q4 g hg with h5 | h5
  · obtain ⟨h6, h7⟩ := hlk g h5
    obtain ⟨b2, hb2⟩ := Option.isSome_iff_exists.1 h6
    exact h.ne n k b2 b' (fun e => hk e.symm) hb2 hb' g h7 hv
  · have := (own_lt (h.rows k b' hb' (by simp)) hv).1
    omega
/-- Pieces as cells. -/
def pcL (p : Int × Nat) : List Value := [.int .i64 p.1, .int .i64 (p.2 : Int)]
def pcC (u : Pcs) : List Value := u.flatMap pcL
theorem pcC_app (a b : Pcs) : pcC (a ++ b) = pcC a ++ pcC b := by unfold pcC; rw [List.flatMap_append]
theorem pcC_get {u : Pcs} {i : Nat} {p : Int × Nat} (h : u[i]? = some p) : (pcC u)[i * 2]? = some (.int .i64 p.1) ∧ (pcC u)[i * 2 + 1]? = some (.int .i64 (p.2 : Int)) := by
  induction u generalizing i with
  | nil => simp at h
  | cons q t ih =>
    have e : pcC (q :: t) = .int .i64 q.1 :: .int .i64 (q.2 : Int) :: pcC t := rfl
    rw [e]
    cases i with
    | zero =>
      have := Option.some.inj (by simpa using h)
      subst this
      exact ⟨rfl, rfl⟩
    | succ j =>
      obtain ⟨h1, h2⟩ := ih (i := j) (by simpa using h)
      rw [show (j + 1) * 2 = j * 2 + 1 + 1 by omega]
      exact ⟨by simpa using h1, by simpa using h2⟩
/-- A disk. -/
structure Dm (w : World) (B d bm : Nat) (S : Sgs) (V : VF) (ua : Option Addr) (uc : Nat) (un : Pcs) (most beh fal : Int) : Prop where
  box : Box w d #[.int .i64 most, .map (some bm), .slice ua un.length uc, .int .i64 beh, .int .i64 fal] 70
  mp : Mp w B bm S V none
  own : Own w B 135 2 ua un.length uc (pcC un)
  un_ok : UN S un
  dB : B ≤ d
  behB : beh ≤ 9223372036854775807
  falB : fal ≤ 9223372036854775807
  mo : most ≤ 16
  cnt : S.length ≤ 16
  seg : ∀ n, (gD S n).length ≤ 2048
  kw : ∀ n, (gS S n).isSome = true → (Lit.int .i64 n).wf = true
theorem Dm.later {w w' : World} {B d bm uc : Nat} {S : Sgs} {V : VF} {ua : Option Addr} {un : Pcs} {most beh fal : Int} (h : Dm w B d bm S V ua uc un most beh fal) (hb : Below w.heap.size w w') : Dm w' B d bm S V ua uc un most beh fal :=
  ⟨h.box.later hb, h.mp.later hb, h.own.later hb, h.un_ok, h.dB, h.behB, h.falB, h.mo, h.cnt, h.seg, h.kw⟩
def MineD (d bm : Nat) (S : Sgs) (V : VF) (ua : Option Addr) (k : Nat) : Prop := k = d ∨ MineM bm S V none k ∨ ua = some ⟨k, 0, none⟩
/-- What a disk's function does to the world. -/
def TurnD (d bm : Nat) (S : Sgs) (V : VF) (ua : Option Addr) (w : World) (S' : Sgs) (V' : VF) (ua' : Option Addr) (w' : World) : Prop := Only (MineD d bm S V ua) w w' ∧ ∀ k, MineD d bm S' V' ua' k → MineD d bm S V ua k ∨ w.heap.size ≤ k
theorem Dm.mine {w : World} {B d bm uc : Nat} {S : Sgs} {V : VF} {ua : Option Addr} {un : Pcs} {most beh fal : Int} (h : Dm w B d bm S V ua uc un most beh fal) {k : Nat} (hk : MineD d bm S V ua k) : k < w.heap.size ∧ B ≤ k := by
  rcases hk with hk | hk | hk
  · rw [hk]; exact ⟨h.box.lt, h.dB⟩
  · exact h.mp.mine_lt hk
  · exact own_lt h.own hk
theorem Dm.turn {w w' : World} {B d bm uc : Nat} {S S' : Sgs} {V V' : VF} {ua ua' : Option Addr} {un : Pcs} {most beh fal : Int} (h : Dm w B d bm S V ua uc un most beh fal) (ht : TurnD d bm S V ua w S' V' ua' w') (hB : B ≤ w.heap.size) : Below B w w' :=
  ht.1.below hB fun k hk => (h.mine hk).2
/-- What a disk is behind a call. -/
def AftD (B d bm : Nat) (S : Sgs) (V : VF) (ua : Option Addr) (w : World) (S' : Sgs) (un' : Pcs) (most beh' fal' : Int) (w' : World) : Prop := ∃ V' ua' uc', Dm w' B d bm S' V' ua' uc' un' most beh' fal' ∧ TurnD d bm S V ua w S' V' ua' w'
theorem TurnD.refl {d bm : Nat} {S : Sgs} {V : VF} {ua : Option Addr} {w w' : World} (h : Below w.heap.size w w') : TurnD d bm S V ua w S V ua w' := ⟨Only.of_below _ h, fun k hk => Or.inl hk⟩
theorem TurnD.trans {d bm : Nat} {S S1 S2 : Sgs} {V V1 V2 : VF} {ua u1 u2 : Option Addr} {w w1 w2 : World} (h : TurnD d bm S V ua w S1 V1 u1 w1) (k : TurnD d bm S1 V1 u1 w1 S2 V2 u2 w2) : TurnD d bm S V ua w S2 V2 u2 w2 :=
  ⟨h.1.trans k.1 h.2, fun x hx => by
    rcases k.2 x hx with h2 | h2
    · exact h.2 x h2
    · exact Or.inr (Nat.le_trans h.1.size h2)⟩
end Go.Proofs.YtimkgaokcldgkaaGreatDoor
/- Package disk: the functions that read, and those that write no bytes. -/
namespace Go.Proofs.YtimkgaokcldgkaaGreatDoor
open Go Go.RowKit Go.Maps
set_option linter.unusedVariables false
set_option linter.unusedSimpArgs false
set_option maxRecDepth 10000

def wfB (beh fal : Int) : Bool := !decide (0 < beh) && decide (0 < fal)
def wfH (beh : Int) : Int := if 0 < beh then beh - 1 else beh
def wfF (beh fal : Int) : Int := if 0 < beh then fal else if 0 < fal then fal - 1 else fal
section
variable {w : World} {B d bm uc : Nat} {S : Sgs} {V : VF} {ua : Option Addr} {un : Pcs} {most beh fal : Int}
/-- One of a disk's own cells is written. -/
theorem Dm.cells (h : Dm w B d bm S V ua uc un most beh fal) {w' : World} {ua' : Option Addr} {uc' : Nat} {un' : Pcs} {beh' fal' : Int} (hb : Box w' d #[.int .i64 most, .map (some bm), .slice ua' un'.length uc', .int .i64 beh', .int .i64 fal'] 70)
    (ho : Only (fun k => k = d) w w') (hu : UN S un') (hown : (ua' = ua ∧ uc' = uc ∧ un' = un) ∨ (ua' = none ∧ uc' = 0 ∧ un' = [])) (h1 : beh' ≤ 9223372036854775807) (h2 : fal' ≤ 9223372036854775807) :
    Dm w' B d bm S V ua' uc' un' most beh' fal' ∧ TurnD d bm S V ua w S V ua' w' := by
  have hmp : Mp w' B bm S V none := h.mp.blocks fun k hk => ho.block k (h.mp.mine_lt hk).1 (fun e => h.mp.off (k := d) (cs := _) (t := 70) (z := (0, 0)) h.box (by decide) (e ▸ hk))
  have hO : Only (MineD d bm S V ua) w w' := ⟨ho.os, ho.tape, ho.output, ho.size, fun k hk hne => ho.block k hk fun e => hne (Or.inl e)⟩
  rcases hown with ⟨rfl, rfl, rfl⟩ | ⟨rfl, rfl, rfl⟩
  · exact ⟨⟨hb, hmp, h.own.only ho (fun g hg e => by have h9 := h.own; rw [hg] at h9; exact own_not_box h9 h.box (by decide) e), hu, h.dB, h1, h2, h.mo, h.cnt, h.seg, h.kw⟩, hO, fun k hk => Or.inl hk⟩
  · refine ⟨⟨hb, hmp, Own.nil _ _ _ _, hu, h.dB, h1, h2, h.mo, h.cnt, h.seg, h.kw⟩, hO, fun k hk => Or.inl ?_⟩
    rcases hk with hk | hk | hk
    · exact Or.inl hk
    · exact Or.inr (Or.inl hk)
    · cases hk
theorem wf_at (h : Dm w B d bm S V ua uc un most beh fal) : Calls Tryz.prog 71 #[.pointer (some ⟨d, 0, none⟩)] w fun e w' => e = .returned (.bool (wfB beh fal)) ∧ Dm w' B d bm S V ua uc un most (wfH beh) (wfF beh fal) ∧ TurnD d bm S V ua w S V ua w' := by
  have H := Lib.hid h
  have BX := Lib.hid h.box
  have c3 := h.box.cell 3
  have c4 := h.box.cell 4
  have f3 := h.box.free 3
  have f4 := h.box.free 4
  have ld := h.box.lt
  have hb := h.behB
  have hf := h.falB
  clear h
  unfold wfB wfH wfF
  by_cases h1 : 0 < beh
  · have d1 : decide (0 < beh) = true := decide_eq_true h1
    rw [if_pos h1, if_pos h1, d1]
    have hw : IntKind.i64.wrap (beh - 1) = beh - 1 := IntWalk.i64_in _ (by omega)
    have FIN := Lib.hid (H.out.cells (w' := w.setCell ⟨d, 3, none⟩ (.int .i64 (beh - 1))) (beh' := beh - 1) (fal' := fal) (BX.out.set 3 _) ((Only.refl (fun k => k = d) _).setCell (Or.inl rfl) _) H.out.un_ok (Or.inl ⟨rfl, rfl, rfl⟩) (by omega) hf)
    go_enter Tryz.func71, Tryz.ntmps71
    go_wp2
    go_ret
    exact ⟨rfl, FIN.out⟩
  · have d1 : decide (0 < beh) = false := decide_eq_false h1
    rw [if_neg h1, if_neg h1, d1]
    by_cases h2 : 0 < fal
    · have d2 : decide (0 < fal) = true := decide_eq_true h2
      rw [if_pos h2, d2]
      have hw : IntKind.i64.wrap (fal - 1) = fal - 1 := IntWalk.i64_in _ (by omega)
      have FIN := Lib.hid (H.out.cells (w' := w.setCell ⟨d, 4, none⟩ (.int .i64 (fal - 1))) (beh' := beh) (fal' := fal - 1) (BX.out.set 4 _) ((Only.refl (fun k => k = d) _).setCell (Or.inl rfl) _) H.out.un_ok (Or.inl ⟨rfl, rfl, rfl⟩) hb (by omega))
      go_enter Tryz.func71, Tryz.ntmps71
      go_wp2
      go_ret
      exact ⟨rfl, FIN.out⟩
    · have d2 : decide (0 < fal) = false := decide_eq_false h2
      rw [if_neg h2, d2]
      go_enter Tryz.func71, Tryz.ntmps71
      go_wp2
      go_ret
      exact ⟨rfl, H.out, TurnD.refl (Below.refl _ _)⟩
theorem sync_at (h : Dm w B d bm S V ua uc un most beh fal) : Calls Tryz.prog 51 #[.pointer (some ⟨d, 0, none⟩)] w fun e w' => e = .returned (.int .i64 (if wfB beh fal then 7 else 0)) ∧ AftD B d bm S V ua w S (if wfB beh fal then un else []) most (wfH beh) (wfF beh fal) w' := by
  have WF := Lib.hid (wf_at h)
  clear h
  obtain ⟨b, hb⟩ : ∃ b, wfB beh fal = b := ⟨_, rfl⟩
  rw [hb] at WF ⊢
  clear hb
  go_enter Tryz.func51, Tryz.ntmps51
  cases b with
  | true =>
    go_wp2_with fail
    refine WF.out.mono ?_
    rintro e w1 ⟨rfl, D1, T1⟩
    have D := Lib.hid D1
    have T := Lib.hid T1
    clear D1 T1 WF
    go_wp2
    go_ret
    exact ⟨rfl, V, ua, uc, D.out, T.out⟩
  | false =>
    go_wp2_with fail
    refine WF.out.mono ?_
    rintro e w1 ⟨rfl, D1, T1⟩
    have c2 := D1.box.cell 2
    have f2 := D1.box.free 2
    have ld := D1.box.lt
    have FIN := Lib.hid (D1.cells (w' := w1.setCell ⟨d, 2, none⟩ (.slice none 0 0)) (ua' := none) (uc' := 0) (un' := []) (D1.box.set 2 _) ((Only.refl (fun k => k = d) _).setCell (Or.inl rfl) _) (UN.nil _) (Or.inr ⟨rfl, rfl, rfl⟩) D1.behB D1.falB)
    have T := Lib.hid T1
    clear D1 T1 WF
    go_wp2
    go_ret
    exact ⟨rfl, V, none, 0, FIN.out.1, T.out.trans FIN.out.2⟩
def moI (x : Int) : Int := max 0 (min x 16)
theorem dnew_at (x : Int) (w : World) (B : Nat) (hB : B ≤ w.heap.size) : Calls Tryz.prog 7 #[.int .i64 x] w fun e w' => e = .returned (.pointer (some ⟨w.heap.size + 1, 0, none⟩)) ∧ Dm w' B (w.heap.size + 1) w.heap.size [] (fun _ => (none, 0)) none 0 [] (moI x) 0 0 ∧ Below w.heap.size w w' := by
  have hmm := @run_makeMap Tryz.prog
  have W1 := World.ownsMap_made w Tryz.prog 3 RH
  obtain ⟨w1, hw1⟩ : ∃ W, w.alloc (.map #[] 0) = W := ⟨_, rfl⟩
  have B1 : Below w.heap.size w w1 := by rw [← hw1]; exact (Below.refl _ _).alloc (Nat.le_refl _) _
  have sz : w1.heap.size = w.heap.size + 1 := by rw [← hw1]; simp
  rw [hw1] at W1
  obtain ⟨m, hm⟩ : ∃ m, moI x = m := ⟨_, rfl⟩
  have FIN : Hid (Dm (w1.alloc (.cells #[.int .i64 m, .map (some w.heap.size), .slice none 0 0, .int .i64 0, .int .i64 0] 70)) B (w.heap.size + 1) w.heap.size [] (fun _ => (none, 0)) none 0 [] m 0 0 ∧ Below w.heap.size w (w1.alloc (.cells #[.int .i64 m, .map (some w.heap.size), .slice none 0 0, .int .i64 0, .int .i64 0] 70))) := Lib.hid (by
    have hbx := Box.new w1 #[.int .i64 m, .map (some w.heap.size), .slice none 0 0, .int .i64 0, .int .i64 0] 70
    rw [sz] at hbx
    refine ⟨⟨hbx, ⟨⟨_, 0, W1.alloc _, by omega, fun n => rfl, fun n b hn => (by cases hn)⟩, fun n b hn => (by cases hn), fun n m b c _ hn => (by cases hn), List.Pairwise.nil, hB⟩, Own.nil _ _ _ _, UN.nil _, by omega, by omega, by omega, by rw [← hm]; unfold moI; omega, Nat.zero_le _, fun n => Nat.zero_le _, fun n hn => (by cases hn)⟩, B1.alloc (by omega) _⟩)
  rw [hm]
  unfold moI at hm
  clear W1 B1
  go_enter Tryz.func7, Tryz.ntmps7
  go_wp2
  · obtain rfl : m = 16 := by omega
    go_ret
    exact ⟨rfl, FIN.out⟩
  · obtain rfl : m = x := by omega
    go_ret
    exact ⟨rfl, FIN.out⟩
  · obtain rfl : m = 0 := by omega
    go_ret
    exact ⟨rfl, FIN.out⟩
end
end Go.Proofs.YtimkgaokcldgkaaGreatDoor
/- Package disk: Append. -/
namespace Go.Proofs.YtimkgaokcldgkaaGreatDoor
open Go Go.RowKit Go.Maps
set_option linter.unusedVariables false
set_option linter.unusedSimpArgs false
set_option maxRecDepth 10000

theorem own_block5 {w : World} {B : Nat} {E : TypeId} {size n cap : Nat} {a : Option Addr} {xs : List Value} (h : Own w B E size a n cap xs) {k : Nat} (hk : a.map (·.block) = some k) : a = some ⟨k, 0, none⟩ := by
  rcases h.form with ⟨e, _⟩ | ⟨g, e, _⟩
  · rw [e] at hk; cases hk
  · rw [e] at hk ⊢
    exact congrArg (fun x => some (⟨x, 0, none⟩ : Addr)) (Option.some.inj hk)
theorem pc_one (n m : Int) : (#[.int .i64 n, .int .i64 m] : Array Value).all (·.oneCell') = true := by simp [Value.oneCell']
theorem dk_drewN {B : Nat} {a w : World} (h : Below B a w) (n : Nat) : Below B a (w.drewN n) := ⟨h.os, h.tape, h.output, h.size, h.block⟩
/-- A row of another element type is another block. -/
theorem own_apart {w : World} {B1 B2 s1 s2 n1 n2 c1 c2 : Nat} {E1 E2 : TypeId} {a1 a2 : Option Addr} {x1 x2 : List Value} {g : Nat} (h1 : Own w B1 E1 s1 a1 n1 c1 x1) (h2 : Own w B2 E2 s2 a2 n2 c2 x2) (e1 : a1 = some ⟨g, 0, none⟩) (e2 : a2 = some ⟨g, 0, none⟩) (hne : E1 ≠ E2) : False := by
  subst e1 e2
  obtain ⟨u, hu, _⟩ := h1.block
  obtain ⟨v, hv, _⟩ := h2.block
  rw [hu] at hv
  injection hv with hv
  injection hv with _ h _
  exact hne h
theorem Box.kept5 {w w' : World} {B d U uc : Nat} {cs : Array Value} {ua : Option Addr} {xs : List Value} (h : Box w d cs 70) (hg : w.grownBy w' (ua.map (·.block))) (ho : Own w B 135 2 ua U uc xs) : Box w' d cs 70 :=
  (hg.block d h.lt (fun e => by
    have h9 := own_block5 ho e.symm
    rw [h9] at ho
    exact own_not_box ho h (by decide) rfl)).trans h
section
variable {w : World} {B d bm uc : Nat} {S : Sgs} {V : VF} {ua : Option Addr} {un : Pcs} {most beh fal : Int}
theorem Dm.bm_ne (h : Dm w B d bm S V ua uc un most beh fal) : d ≠ bm := by
  obtain ⟨D, m, ho, _⟩ := h.mp.mp
  exact ownsMap_not_box ho h.box
theorem Dm.lk_d (h : Dm w B d bm S V ua uc un most beh fal) (n : Int) : some d ≠ (lkA S V n).map (·.block) := fun e => by
  have h8 := lk_own h.mp n
  have h9 := own_block5 h8 e.symm
  rw [h9] at h8
  exact own_not_box h8 h.box (by decide) rfl
theorem Dm.box_map (h : Dm w B d bm S V ua uc un most beh fal) {n : Int} {w3 w4 : World} (h1 : w.grownBy w3 ((lkA S V n).map (·.block))) (h2 : w3.mapTurned w4 bm) : Box w4 d #[.int .i64 most, .map (some bm), .slice ua un.length uc, .int .i64 beh, .int .i64 fal] 70 :=
  (h2.grown.block d (Nat.lt_of_lt_of_le h.box.lt h1.size) (fun e => h.bm_ne (Option.some.inj e))).trans ((h1.block d h.box.lt (h.lk_d n)).trans h.box)
theorem Dm.own_map (h : Dm w B d bm S V ua uc un most beh fal) {n : Int} {w3 w4 : World} (h1 : w.grownBy w3 ((lkA S V n).map (·.block))) (h2 : w3.mapTurned w4 bm) : Own w4 B 135 2 ua un.length uc (pcC un) := by
  refine h.own.blocks fun g e => ?_
  have hl := (own_lt h.own e).1
  refine (h2.grown.block g (Nat.lt_of_lt_of_le hl h1.size) (fun e2 => ?_)).trans (h1.block g hl fun e2 => ?_)
  · obtain ⟨D, m, ho, _⟩ := h.mp.mp
    exact ownsMap_not_own ho h.own e (Option.some.inj e2)
  · have h8 := lk_own h.mp n
    exact own_apart h8 h.own (own_block5 h8 e2.symm) e (by decide)
theorem lk_mine (S : Sgs) (V : VF) (n : Int) {k : Nat} (hk : lkA S V n = some ⟨k, 0, none⟩) (bm : Nat) : MineM bm S V none k := by
  unfold lkA at hk
  split at hk
  · rename_i hs
    obtain ⟨b, hb⟩ := Option.isSome_iff_exists.1 hs
    exact Or.inr ⟨n, b, hb, by simp, hk⟩
  · cases hk
/-- Bytes have been added to a segment, and the piece noted. -/
theorem Dm.added (h : Dm w B d bm S V ua uc un most beh fal) {n : Int} {b : List Int} {a3 : Option Addr} {c3 g5 c5 : Nat} {w3 w4 w5 : World} (hnw : (Lit.int .i64 n).wf = true) (hc : (pS S n (gD S n ++ b)).length ≤ 16) (hs : (gD S n ++ b).length ≤ 2048)
    (q2 : w.grownBy w3 ((lkA S V n).map (·.block))) (q6 : Mp w4 B bm (pS S n (gD S n ++ b)) (setV V n a3 c3) none) (q7 : w3.mapTurned w4 bm) (q4 : ∀ g, a3 = some ⟨g, 0, none⟩ → (lkA S V n).map (·.block) = some g ∨ w.heap.size ≤ g)
    (p1 : Own w5 B 135 2 (some ⟨g5, 0, none⟩) (un.length + 1) c5 (pcC (un ++ [(n, b.length)]))) (p2 : w4.grownBy w5 (ua.map (·.block))) (p4 : ua.map (·.block) = some g5 ∨ g5 = w4.heap.size + 1) :
    Dm (w5.setCell ⟨d, 2, none⟩ (.slice (some ⟨g5, 0, none⟩) (un.length + 1) c5)) B d bm (pS S n (gD S n ++ b)) (setV V n a3 c3) (some ⟨g5, 0, none⟩) c5 (un ++ [(n, b.length)]) most beh fal ∧
      TurnD d bm S V ua w (pS S n (gD S n ++ b)) (setV V n a3 c3) (some ⟨g5, 0, none⟩) (w5.setCell ⟨d, 2, none⟩ (.slice (some ⟨g5, 0, none⟩) (un.length + 1) c5)) := by
  have b4 := h.box_map q2 q7
  have o4 := h.own_map q2 q7
  have b5 := Box.kept5 b4 p2 o4
  have s4 : w.heap.size ≤ w4.heap.size := Nat.le_trans q2.size q7.grown.size
  have m5 : Mp w5 B bm (pS S n (gD S n ++ b)) (setV V n a3 c3) none := q6.blocks fun k hk => p2.block k (q6.mine_lt hk).1 fun e => by
    have h9 := own_block5 o4 e.symm
    rw [h9] at o4
    obtain ⟨cur, hcur, _⟩ := o4.block
    exact q6.off hcur (by decide) hk
  have hO : Only (MineD d bm S V ua) w (w5.setCell ⟨d, 2, none⟩ (.slice (some ⟨g5, 0, none⟩) (un.length + 1) c5)) := by
    have h1 : Only (MineD d bm S V ua) w w3 := Only.of_grown q2 fun k hk => Or.inr (Or.inl (lk_mine S V n (own_block5 (lk_own h.mp n) hk) bm))
    have h2 : Only (MineD d bm S V ua) w3 w4 := Only.of_grown q7.grown fun k hk => Or.inr (Or.inl (Or.inl (Option.some.inj hk).symm))
    have h3 : Only (MineD d bm S V ua) w4 w5 := Only.of_grown p2 fun k hk => Or.inr (Or.inr (own_block5 o4 hk))
    exact ((h1.trans h2 fun x hx => Or.inl hx).trans h3 fun x hx => Or.inl hx).setCell (Or.inl (Or.inl rfl)) _
  refine ⟨⟨?_, ?_, ?_, ?_, h.dB, h.behB, h.falB, h.mo, hc, fun k => ?_, fun k hk => ?_⟩, hO, fun k hk => ?_⟩
  · rw [List.length_append]
    exact b5.set 2 _
  · exact m5.blocks fun k hk => Below.heap_setCell w5 ⟨d, 2, none⟩ _ k fun e => m5.off (k := d) (cs := _) (t := 70) (z := (0, 0)) b5 (by decide) (by rw [show d = k from e.symm]; exact hk)
  · rw [List.length_append]
    exact p1.other (fun g e => by
      injection e with e
      injection e with e
      subst e
      exact own_not_box p1 b5 (by decide)) _
  · exact h.un_ok.add n b
  · rw [gD_put]
    split
    · exact hs
    · exact h.seg k
  · by_cases e : k = n
    · rw [e]; exact hnw
    · rw [gS_put, if_neg e] at hk
      exact h.kw k hk
  · rcases hk with hk | hk | hk
    · exact Or.inl (Or.inl hk)
    · rcases hk with hk | ⟨m, b', hm, _, e⟩
      · exact Or.inl (Or.inr (Or.inl (Or.inl hk)))
      · by_cases em : m = n
        · subst em
          rw [setV_same] at e
          rcases q4 k e with h5 | h5
          · exact Or.inl (Or.inr (Or.inl (lk_mine S V m (own_block5 (lk_own h.mp m) h5) bm)))
          · exact Or.inr h5
        · rw [setV_other _ _ _ _ em] at e
          rw [gS_put, if_neg em] at hm
          exact Or.inl (Or.inr (Or.inl (Or.inr ⟨m, b', hm, by simp, e⟩)))
    · injection hk with hk
      injection hk with hk
      subst hk
      rcases p4 with p4 | p4
      · exact Or.inl (Or.inr (Or.inr (own_block5 h.own p4)))
      · exact Or.inr (by omega)
def apF (S : Sgs) (most : Int) (n : Int) (m : Nat) : Bool := (!(gS S n).isSome && decide (most ≤ (S.length : Int))) || decide (2048 < ((gD S n).length : Int) + (m : Int))
def AppP (B d bm : Nat) (S : Sgs) (V : VF) (ua : Option Addr) (w : World) (un : Pcs) (most beh fal n : Int) (b : List Int) (e : Ending) (w' : World) : Prop :=
  (apF S most n b.length = true ∧ e = .returned (.int .i64 5) ∧ Below w.heap.size w w') ∨
  (apF S most n b.length = false ∧ wfB beh fal = true ∧ e = .returned (.int .i64 7) ∧ AftD B d bm S V ua w S un most (wfH beh) (wfF beh fal) w') ∨
  (apF S most n b.length = false ∧ wfB beh fal = false ∧ e = .returned (.int .i64 0) ∧ AftD B d bm S V ua w (pS S n (gD S n ++ b)) (un ++ [(n, b.length)]) most (wfH beh) (wfF beh fal) w')
theorem RdC.only {R : Nat → Prop} {w w' : World} {a2 : Option Addr} {ys : List Value} (h : RdC w a2 ys) (ho : Only R w w') (hne : ∀ g off, a2 = some ⟨g, off, none⟩ → ¬ R g) : RdC w' a2 ys := fun j u hj => by
  obtain ⟨b, o, e, hc⟩ := h j u hj
  exact ⟨b, o, e, (cell_blk (ho.block b (World.block_lt_of_cell? _ _ hc) (hne b o e)) _).trans hc⟩
set_option maxHeartbeats 4000000 in
theorem app_at (h : Dm w B d bm S V ua uc un most beh fal) (n : Int) (hn : 0 ≤ n) (hnw : (Lit.int .i64 n).wf = true) (hu : un.length ≤ 99999) (b : List Int) (m : Nat) (hm : b.length = m) (hm2 : m ≤ 100000) (ab : Option Addr) (cb : Nat) (hr : RdC w ab (u8L b)) (hnm : ∀ g off, ab = some ⟨g, off, none⟩ → b ≠ [] → ¬ MineD d bm S V ua g) :
    Calls Tryz.prog 50 #[.pointer (some ⟨d, 0, none⟩), .int .i64 n, .slice ab m cb] w (AppP B d bm S V ua w un most beh fal n b) := by
  have LK := h.mp.look_ok n hnw
  have ML : ∀ k ty, (Builtin.len_ #[67] ty #[.map (some bm)]).run Tryz.prog (w.drewN k) = .ok (.int .i64 (S.length : Int)) (w.drewN k) := by
    obtain ⟨D, mm, ho, hsz, _⟩ := h.mp.size
    intro k ty
    rw [(ownsMap_blk (w' := w.drewN k) ho rfl).len Tryz.underlying67 ty, hsz]
  obtain ⟨fb, hfb⟩ : ∃ x, apF S most n m = x := ⟨_, rfl⟩
  have HD := Lib.hid h
  have HM := Lib.hid hm
  have HR := Lib.hid hr
  have HNM := Lib.hid hnm
  have c0 := h.box.cell 0
  have c1 := h.box.cell 1
  have ld := h.box.lt
  have hsg := h.seg n
  obtain ⟨A, hA⟩ : ∃ A, lkA S V n = A := ⟨_, rfl⟩
  obtain ⟨C, hC⟩ : ∃ C, lkC S V n = C := ⟨_, rfl⟩
  obtain ⟨L, hL⟩ : ∃ L, (gD S n).length = L := ⟨_, rfl⟩
  obtain ⟨has, hhas⟩ : ∃ b, (gS S n).isSome = b := ⟨_, rfl⟩
  obtain ⟨K, hK⟩ : ∃ K, S.length = K := ⟨_, rfl⟩
  obtain ⟨c9, hc9⟩ : ∃ b, decide (most ≤ (K : Int)) = b := ⟨_, rfl⟩
  obtain ⟨c8, hc8⟩ : ∃ b, decide (2048 < (L : Int) + (m : Int)) = b := ⟨_, rfl⟩
  have HFB := Lib.hid hfb
  have hfb2 := hfb
  unfold apF at hfb2
  rw [hhas, hK, hL, hc9, hc8] at hfb2
  have HF2 := Lib.hid hfb2
  have HHAS := Lib.hid hhas
  have HL := Lib.hid hL
  have HK := Lib.hid hK
  have HC9 := Lib.hid hc9
  have HC8 := Lib.hid hc8
  rw [hA, hC, hL, hhas] at LK
  rw [hL] at hsg
  rw [hK] at ML
  have hwr : IntKind.i64.wrap ((L : Int) + (m : Int)) = (L : Int) + (m : Int) := IntWalk.i64_in _ (by omega)
  have d1 : decide (n < 0) = false := decide_eq_false (by omega)
  have d1p : ¬ n < 0 := by omega
  clear h hm hr hnm hfb hfb2 hhas hK
  go_enter Tryz.func50, Tryz.ntmps50
  go_upto_region 4 with fail
  clear LK
  go_cut [45] (fun v wx => v = .bool fb ∧ Hid (Below w.heap.size w wx))
  case first =>
    have HF := HF2.out
    cases has with
    | true =>
      obtain rfl : c8 = fb := by simpa using HF
      go_quiet (fail)
      go_wp2
      go_meet
      exact ⟨rfl, Lib.hid (dk_drewN (Below.refl _ _) nq)⟩
    | false =>
      cases c9 with
      | true =>
        obtain rfl : true = fb := by simpa using HF
        go_quiet (fail)
        go_wp2
        go_meet
        exact ⟨rfl, Lib.hid (dk_drewN (Below.refl _ _) nq)⟩
      | false =>
        obtain rfl : c8 = fb := by simpa using HF
        go_quiet (fail)
        go_wp2
        go_meet
        exact ⟨rfl, Lib.hid (dk_drewN (Below.refl _ _) nq)⟩
  case rest =>
    obtain ⟨rfl, BC⟩ := hcut
    obtain ⟨w1, hw1⟩ : ∃ W, wc = W := ⟨_, rfl⟩
    rw [hw1] at BC ⊢
    clear hw1 ML c0 c1 hc9 hc8 hwr
    cases fb with
    | true =>
      have FIN : Hid (AppP B d bm S V ua w un most beh fal n b (.returned (.int .i64 5)) w1) := Lib.hid (Or.inl ⟨by rw [HM.out]; exact HFB.out, rfl, BC.out⟩)
      go_wp2
      go_ret
      exact FIN.out
    | false =>
      have WF := Lib.hid (wf_at (HD.out.later BC.out))
      have APF : Hid (apF S most n b.length = false) := Lib.hid (by rw [HM.out]; exact HFB.out)
      obtain ⟨wb, hwb⟩ : ∃ x, wfB beh fal = x := ⟨_, rfl⟩
      rw [hwb] at WF
      have WFB := Lib.hid hwb
      clear hwb
      go_wp2_with fail
      refine WF.out.mono ?_
      rintro e w2 ⟨rfl, dd2, tt2⟩
      have D2 := Lib.hid dd2
      have T2 := Lib.hid ((TurnD.refl (d := d) (bm := bm) (S := S) (V := V) (ua := ua) BC.out).trans tt2)
      clear dd2 tt2 WF
      cases wb with
      | true =>
        have FIN : Hid (AppP B d bm S V ua w un most beh fal n b (.returned (.int .i64 7)) w2) := Lib.hid (Or.inr (Or.inl ⟨APF.out, WFB.out, rfl, _, _, _, D2.out, T2.out⟩))
        go_wp2
        go_ret
        exact FIN.out
      | false =>
        have R2 : Hid (RdC w2 ab (u8L b)) := Lib.hid (by
          by_cases hb0 : b = []
          · intro j u hj
            rw [hb0] at hj
            simp [u8L] at hj
          · exact HR.out.only T2.out.1 (fun g off e => HNM.out g off e hb0))
        have BX2 := Lib.hid D2.out.box
        have ld2 := BX2.out.lt
        have NF : Hid ((pS S n (gD S n ++ b)).length ≤ 16 ∧ (gD S n ++ b).length ≤ 2048) := Lib.hid (by
          have h1 := APF.out
          unfold apF at h1
          rw [Bool.or_eq_false_iff, decide_eq_false_iff_not] at h1
          obtain ⟨h2, h3⟩ := h1
          refine ⟨?_, by rw [List.length_append]; omega⟩
          rw [len_put D2.out.mp.ss]
          have h4 := D2.out.cnt
          have h5 := D2.out.mo
          cases hg : (gS S n).isSome with
          | true => simpa using h4
          | false =>
            rw [hg, Bool.not_false, Bool.true_and, decide_eq_false_iff_not] at h2
            simp
            omega)
        obtain ⟨N, hN⟩ : ∃ N, (gD S n ++ b).length = N := ⟨_, rfl⟩
        have hNs : L + m = N := by rw [← hN, List.length_append, hL, HM.out]
        obtain ⟨U, hU⟩ : ∃ U, un.length = U := ⟨_, rfl⟩
        have HUU := Lib.hid hU
        have hu2 : U ≤ 99999 := by omega
        have HZP : Hid (pcC un ++ (#[.int .i64 n, .int .i64 (m : Int)] : Array Value).toList = pcC (un ++ [(n, m)])) := Lib.hid (by rw [pcC_app]; rfl)
        have hL9 : L ≤ 2048 := hsg
        clear HR HNM HD BC HF2 HC9 HC8 HHAS HFB
        go_upto_region 8 with fail
        refine wp_region_last 8 (fun w' => w'.heap[d]? = w2.heap[d]?) (by kernel_rfl) (rfl) (fun hHeld hClosed => ?_)
        have BW := Lib.hid ((Below.refl w2.heap.size w2).drew)
        generalize w2.drew = wc at BW hHeld ⊢
        have D3 := Lib.hid (D2.out.later BW.out)
        have O3 := Lib.hid (lk_own D3.out.mp n)
        rw [hA, hC, hL] at O3
        have R3 := Lib.hid (R2.out.later BW.out)
        have szB : B ≤ wc.heap.size := Nat.le_trans (Nat.le_of_lt (Nat.lt_of_le_of_lt D2.out.dB D2.out.box.lt)) BW.out.size
        have ND : Hid (d < wc.heap.size ∧ some d ≠ A.map (·.block)) := Lib.hid ⟨D3.out.box.lt, fun e => by have h8 := O3.out; have h9 := own_block5 h8 e.symm; rw [h9] at h8; exact own_not_box h8 D3.out.box (by decide) rfl⟩
        have PUT : Hid (∀ a3 c3 w3, Own w3 B 5 1 a3 N c3 (u8L (gD S n ++ b)) → wc.grownBy w3 (A.map (·.block)) → (∀ g, a3 = some ⟨g, 0, none⟩ → A.map (·.block) = some g ∨ wc.heap.size ≤ g) → ∃ w', (Instr.mapUpdate 67 (.map (some bm)) (.int .i64 n) (.slice a3 N c3)).run Tryz.prog w3 = .ok () w' ∧ Mp w' B bm (pS S n (gD S n ++ b)) (setV V n a3 c3) none ∧ w3.mapTurned w' bm) := Lib.hid (fun a3 c3 w3 h1 h2 h3 => by rw [← hN] at h1 ⊢; rw [← hA] at h2 h3; exact D3.out.mp.put_row (Nat.le_trans D3.out.cnt (by decide)) hnw h1 h2 h3)
        have BXS : Hid (∀ w3 w4, wc.grownBy w3 (A.map (·.block)) → w3.mapTurned w4 bm → Box w4 d #[.int .i64 most, .map (some bm), .slice ua U uc, .int .i64 (wfH beh), .int .i64 (wfF beh fal)] 70) := Lib.hid (fun w3 w4 h1 h2 => by have h9 := D3.out.box_map (by rw [hA]; exact h1) h2; rw [hU] at h9; exact h9)
        have OUS : Hid (∀ w3 w4, wc.grownBy w3 (A.map (·.block)) → w3.mapTurned w4 bm → Own w4 B 135 2 ua U uc (pcC un)) := Lib.hid (fun w3 w4 h1 h2 => by have h9 := D3.out.own_map (by rw [hA]; exact h1) h2; rw [hU] at h9; exact h9)
        have ADD : Hid (∀ a3 c3 w3 w4, Own w3 B 5 1 a3 N c3 (u8L (gD S n ++ b)) → wc.grownBy w3 (A.map (·.block)) → (∀ g, a3 = some ⟨g, 0, none⟩ → A.map (·.block) = some g ∨ wc.heap.size ≤ g) → Mp w4 B bm (pS S n (gD S n ++ b)) (setV V n a3 c3) none → w3.mapTurned w4 bm → ∀ g5 c5 w5, Own w5 B 135 2 (some ⟨g5, 0, none⟩) (U + 1) c5 (pcC (un ++ [(n, m)])) → w4.grownBy w5 (ua.map (·.block)) → (ua.map (·.block) = some g5 ∨ g5 = w4.heap.size + 1) → AppP B d bm S V ua w un most beh fal n b (.returned (.int .i64 0)) (w5.setCell ⟨d, 2, none⟩ (.slice (some ⟨g5, 0, none⟩) (U + 1) c5))) := Lib.hid (fun a3 c3 w3 w4 h1 h2 h3 h4 h5 g5 c5 w5 h6 h7 h8 => by
          rw [← hA] at h2 h3
          rw [← hU] at h6 ⊢
          rw [← HM.out] at h6
          obtain ⟨k1, k2⟩ := D3.out.added (b := b) hnw NF.out.1 NF.out.2 h2 h4 h5 h3 h6 h7 h8
          exact Or.inr (Or.inr ⟨APF.out, WFB.out, rfl, _, _, _, k1, (T2.out.trans (TurnD.refl BW.out)).trans k2⟩))
        refine wtk (i := 0) (v := ?_) rfl hClosed (Or.inl ⟨by rfl, ?_⟩) hHeld (fun hClosed => ?_)
        rotate_left
        · intro wv hSw; go_simp; all_goals (with_reducible rfl)
        (try simp only [List.getElem_toArray, List.getElem_cons_zero, put_at, List.set])
        refine wtk (i := 1) (v := ?_) rfl hClosed (Or.inl ⟨by rfl, ?_⟩) hHeld (fun hClosed => ?_)
        rotate_left
        · intro wv hSw; go_simp; all_goals (with_reducible rfl)
        (try simp only [List.getElem_toArray, List.getElem_cons_succ, List.getElem_cons_zero, put_at, List.set])
        refine wtk (i := 2) (v := ?_) rfl hClosed (Or.inl ⟨by rfl, ?_⟩) hHeld (fun hClosed => ?_)
        rotate_left
        · intro wv hSw; go_simp; all_goals (with_reducible rfl)
        (try simp only [List.getElem_toArray, List.getElem_cons_succ, List.getElem_cons_zero, put_at, List.set])
        refine wtk (i := 3) (v := ?_) rfl hClosed (Or.inl ⟨by rfl, ?_⟩) hHeld (fun hClosed => ?_)
        rotate_left
        · intro wv hSw; have c1 := (cell_blk hSw 1).trans (BX2.out.cell 1); go_simp; all_goals (with_reducible rfl)
        (try simp only [List.getElem_toArray, List.getElem_cons_succ, List.getElem_cons_zero, put_at, List.set])
        refine wtk (i := 4) (v := ?_) rfl hClosed (Or.inl ⟨by rfl, ?_⟩) hHeld (fun hClosed => ?_)
        rotate_left
        · intro wv hSw; go_simp; all_goals (with_reducible rfl)
        (try simp only [List.getElem_toArray, List.getElem_cons_succ, List.getElem_cons_zero, put_at, List.set])
        refine wtk (i := 5) (v := ?_) rfl hClosed (Or.inl ⟨by rfl, ?_⟩) hHeld (fun hClosed => ?_)
        rotate_left
        · intro wv hSw; go_simp; all_goals (with_reducible rfl)
        (try simp only [List.getElem_toArray, List.getElem_cons_succ, List.getElem_cons_zero, put_at, List.set])
        refine wtk (i := 6) (v := ?_) rfl hClosed (Or.inl ⟨by rfl, ?_⟩) hHeld (fun hClosed => ?_)
        rotate_left
        · intro wv hSw; go_simp; all_goals (with_reducible rfl)
        (try simp only [List.getElem_toArray, List.getElem_cons_succ, List.getElem_cons_zero, put_at, List.set])
        refine wpAnyL_one (i := 7) rfl (by kernel_rfl) (by kernel_rfl) hClosed (fun KK hK => ?_)
        refine step_appE rowU8 rfl _ _ rfl B A L C (u8L (gD S n)) rfl O3.out ab m cb (u8L b) rfl (by rw [u8L_len, HM.out]) R3.out (u8L_one _) (by omega) (by decide) szB N hNs (u8L (gD S n ++ b)) (u8L_app _ _).symm ?_
        rintro a3 c3 w3 q1 q2 q3 q4
        refine hK.out _ _ ?_ (fun hClosed hHeld => ?_)
        · exact (q2.block d ND.out.1 ND.out.2).trans hHeld
        clear hK KK
        (first | simp only [List.getElem_toArray, List.getElem_cons_succ, List.getElem_cons_zero, put_at, List.set] | (try simp only [put_at, List.set]))
        obtain ⟨w4, q5, q6, q7⟩ := PUT.out a3 c3 w3 q1 q2 q4
        have BX4 := Lib.hid (BXS.out _ _ q2 q7)
        have OU4 := Lib.hid (OUS.out _ _ q2 q7)
        have FIN := Lib.hid (ADD.out a3 c3 w3 w4 q1 q2 q4 q6 q7)
        have sz4 : B ≤ w4.heap.size := Nat.le_trans (Nat.le_trans szB q2.size) q7.grown.size
        clear q1 q2 q3 q4 q6 q7 O3 R3 PUT BXS OUS ADD ND D3
        refine wpAnyL_last rfl (by kernel_rfl) (by kernel_rfl) (fun KK hK => ?_)
        go_simp
        refine hK.out _ _ ?_
        (try simp only [put_at, List.set])
        have e2 := BX4.out.cell 2
        have f2 := BX4.out.free 2
        have ld4 := BX4.out.lt
        clear q5
        go_wp2_with (at_builtin; refine wpList_app1 rowPc rfl _ _ rfl B ua U uc (pcC un) rfl OU4.out #[.int .i64 n, .int .i64 (m : Int)] rfl rfl (pc_one _ _) (by omega) (by decide) sz4 (U + 1) rfl (pcC (un ++ [(n, m)])) HZP.out ?_; rintro g5 c5 w5 p1 p2 p3 p4; have BX5 := Box.kept5 BX4.out p2 OU4.out; have f5 := BX5.free 2; have e5 := BX5.cell 2; have ld5 := BX5.lt; have FF := Lib.hid (FIN.out g5 c5 w5 p1 p2 p4); clear p1 p2 p3 p4 FIN BX5 BX4 OU4 e2 f2 ld4)
        go_ret
        exact FF.out

end
end Go.Proofs.YtimkgaokcldgkaaGreatDoor
/- The library's DeleteFunc over pieces, with the program's own question. -/
namespace Go.Proofs.YtimkgaokcldgkaaGreatDoor
open Go Go.RowKit Go.Maps
set_option linter.unusedVariables false
set_option linter.unusedSimpArgs false
set_option maxRecDepth 10000

def vJ : Value → Int
  | .int _ x => x
  | _ => 0
def pcB (id : Int) (q : Int × Nat) : Bool := decide (q.1 = id)
theorem del1_at (q : Int × Nat) (id : Int) (g : Nat) (w : World) (hbx : Box w g #[.int .i64 id] 3) :
    Calls Tryz.prog 87 #[.agg #[.int .i64 q.1, .int .i64 (q.2 : Int)], .pointer (some ⟨g, 0, none⟩)] w fun e w' => e = .returned (.bool (pcB id q)) ∧ Below w.heap.size w w' := by
  obtain ⟨x, z⟩ := q
  have BX := Lib.hid (hbx.alloc (.cells #[.int .i64 x, .int .i64 (z : Int)] 135))
  have BN := Lib.hid (Box.new w #[.int .i64 x, .int .i64 (z : Int)] 135)
  have BB := Lib.hid ((Below.refl w.heap.size w).alloc (Nat.le_refl _) (.cells #[.int .i64 x, .int .i64 (z : Int)] 135))
  have hv : (x == id) = pcB id (x, z) := rfl
  obtain ⟨b, hb⟩ : ∃ b, pcB id (x, z) = b := ⟨_, rfl⟩
  rw [hb] at hv ⊢
  clear hb hbx
  go_enter Tryz.func87, Tryz.ntmps87
  go_upto_region 1 with fail
  obtain ⟨w1, hw1⟩ : ∃ W, w.alloc (.cells #[.int .i64 x, .int .i64 (z : Int)] 135) = W := ⟨_, rfl⟩
  rw [hw1] at BX BN BB
  rw [hw1]
  clear hw1
  have c0 := BN.out.cell 0
  have k0 := BX.out.cell 0
  go_wp2
  go_ret
  exact ⟨rfl, BB.out⟩
theorem egP : ∀ args w, (callFunc 87 args).run Tryz.prog w = .ok (.enter 87 args) w := enters_of Tryz.func87 (by kernel_rfl) rfl
def IdxP (u : Pcs) (id : Int) (w : World) (e : Ending) (w' : World) : Prop := ∃ i : Int, e = .returned (.int .i64 i) ∧ Below w.heap.size w w' ∧
  ((i = -1 ∧ ∀ q ∈ u, pcB id q = false) ∨ ∃ k : Nat, i = (k : Int) ∧ k < u.length ∧ (∀ j q, j < k → u[j]? = some q → pcB id q = false) ∧ ∃ q, u[k]? = some q ∧ pcB id q = true)
set_option maxHeartbeats 2000000 in
theorem idxP_at (u : Pcs) (n : Nat) (hn : u.length = n) {w : World} {B uc idb : Nat} {ua : Option Addr} (ho : Own w B 135 2 ua n uc (pcC u)) (id : Int) (hbx : Box w idb #[.int .i64 id] 3) :
    Calls Tryz.prog 109 #[.slice ua n uc, .func (.func 87) #[] #[.pointer (some ⟨idb, 0, none⟩)]] w (IdxP u id w) := by
  have eg := egP
  have hn2 : n ≤ 9223372036854775807 := Nat.le_trans ho.cap_le ho.max
  have HO := Lib.hid ho
  have HB := Lib.hid hbx
  have HN := Lib.hid hn
  clear ho hbx hn
  go_enter Tryz.func109, Tryz.ntmps109
  go_wp2
  go_loopw [4, 8] (fun r j wr => ∃ k : Nat, k ≤ n ∧ r = .int .i64 0 ∧ j = .int .i64 (k : Int) ∧ Hid (Below w.heap.size w wr) ∧ Hid (∀ i z, i < k → u[i]? = some z → pcB id z = false)) (fun _ j _ => n - (vJ j).toNat)
  case atStart => exact ⟨0, by omega, rfl, rfl, Lib.hid (Below.refl _ _), Lib.hid (fun i z hi => by omega)⟩
  case round =>
    obtain ⟨k, hk, rfl, rfl, BR, HP⟩ := hrel
    by_cases hlt : k < n
    · have hkd : decide ((k : Int) < (n : Int)) = true := decide_eq_true (by omega)
      obtain ⟨z, hz⟩ : ∃ z, u[k]? = some z := ⟨_, List.getElem?_eq_getElem (by rw [HN.out]; exact hlt)⟩
      obtain ⟨r, rfl, _⟩ := HO.out.some_ (by omega)
      obtain ⟨x0, x1⟩ := pcC_get hz
      have ol := HO.out.later BR.out
      have c0 := ol.cell x0
      have c1 := ol.cell x1
      have M := Lib.hid (del1_at z id idb wr (HB.out.later BR.out))
      have hx0 : (0 : Int) ≤ (k : Int) := by omega
      have hx1 : (k : Int) < (n : Int) := by omega
      have HZ := Lib.hid hz
      obtain ⟨b, hb⟩ : ∃ b, pcB id z = b := ⟨_, rfl⟩
      rw [hb] at M
      have HBB := Lib.hid hb
      clear x0 x1 ol hz hb
      obtain ⟨zx, zz⟩ := z
      dsimp only at c0 c1 M
      go_wp2_with fail
      refine (M.out).mono ?_
      rintro e wx ⟨rfl, hwx⟩
      have B2 := Lib.hid (BR.out.trans (hwx.mono BR.out.size))
      clear hwx
      cases b with
      | true =>
        go_wp2
        go_ret
        exact ⟨(k : Int), rfl, B2.out, Or.inr ⟨k, rfl, by rw [HN.out]; exact hlt, HP.out, _, HZ.out, HBB.out⟩⟩
      | false =>
        go_wp2
        go_roundw
        case rel => exact ⟨k + 1, by omega, rfl, by go_num, B2, Lib.hid (fun i y hi hy => by
          by_cases h : i = k
          · subst h
            rw [HZ.out] at hy
            injection hy with hy
            rw [← hy, HBB.out]
          · exact HP.out i y (by omega) hy)⟩
        case measure =>
          simp only [vJ]
          omega
    · have hkd : decide ((k : Int) < (n : Int)) = false := decide_eq_false (by omega)
      go_wp2
      go_ret
      refine ⟨-1, rfl, BR.out, Or.inl ⟨rfl, fun q hq => ?_⟩⟩
      obtain ⟨i, hi, e⟩ := List.getElem_of_mem hq
      exact HP.out i q (by rw [HN.out] at hi; omega) (by rw [List.getElem?_eq_getElem hi, e])
end Go.Proofs.YtimkgaokcldgkaaGreatDoor
/- The library's DeleteFunc over pieces: the loop. -/
namespace Go.Proofs.YtimkgaokcldgkaaGreatDoor
open Go Go.RowKit Go.Maps
set_option linter.unusedVariables false
set_option linter.unusedSimpArgs false
set_option maxRecDepth 10000

theorem pcC_take (u : Pcs) (k : Nat) : pcC (u.take k) = (pcC u).take (k * 2) := by
  induction u generalizing k with
  | nil => simp [pcC]
  | cons q t ih =>
    cases k with
    | zero => simp [pcC]
    | succ j =>
      rw [List.take_succ_cons, show (j + 1) * 2 = j * 2 + 1 + 1 by omega]
      show pcL q ++ pcC (t.take j) = (pcL q ++ pcC t).take _
      rw [ih]
      rfl
theorem pcC_drop (u : Pcs) (k : Nat) : pcC (u.drop k) = (pcC u).drop (k * 2) := by
  induction u generalizing k with
  | nil => simp [pcC]
  | cons q t ih =>
    cases k with
    | zero => simp
    | succ j =>
      rw [List.drop_succ_cons, show (j + 1) * 2 = j * 2 + 1 + 1 by omega]
      show pcC (t.drop j) = (pcL q ++ pcC t).drop _
      rw [ih]
      rfl
def keepP (id : Int) (u : Pcs) : Pcs := u.filter fun q => !pcB id q
theorem keepP_snoc (id : Int) {u : Pcs} {j : Nat} {q : Int × Nat} (h : u[j]? = some q) : keepP id (u.take (j + 1)) = keepP id (u.take j) ++ if pcB id q then [] else [q] := by
  unfold keepP
  rw [List.take_add_one, h, List.filter_append]
  cases hb : pcB id q <;> simp [hb]
/-- The row while elements are moved up. -/
structure DelS (w wr : World) (B g n uc : Nat) (u : Pcs) (id : Int) (i j : Nat) (xs : List Value) : Prop where
  own : Own wr B 135 2 (some ⟨g, 0, none⟩) n uc xs
  only : Only (fun k => k = g) w wr
  head : xs.take (i * 2) = pcC (keepP id (u.take j))
  tail : xs.drop (j * 2) = pcC (u.drop j)
  len : (keepP id (u.take j)).length = i
theorem DelS.later {w wr w' : World} {B g n uc i j : Nat} {u : Pcs} {id : Int} {xs : List Value} (h : DelS w wr B g n uc u id i j xs) (hb : Below wr.heap.size wr w') : DelS w w' B g n uc u id i j xs :=
  ⟨h.own.later hb, h.only.later hb, h.head, h.tail, h.len⟩
theorem DelS.skip {w wr : World} {B g n uc i j : Nat} {u : Pcs} {id : Int} {xs : List Value} (h : DelS w wr B g n uc u id i j xs) {q : Int × Nat} (hq : u[j]? = some q) (hp : pcB id q = true) : DelS w wr B g n uc u id i (j + 1) xs := by
  have hk := keepP_snoc id hq
  rw [hp, if_pos rfl, List.append_nil] at hk
  refine ⟨h.own, h.only, by rw [hk]; exact h.head, ?_, by rw [hk]; exact h.len⟩
  have := h.tail
  rw [show (j + 1) * 2 = j * 2 + 2 by omega, ← List.drop_drop, this]
  obtain ⟨h1, h2⟩ := List.getElem?_eq_some_iff.1 hq
  rw [List.drop_eq_getElem_cons h1]
  rfl
theorem DelS.move {w wr w' : World} {B g n uc i j : Nat} {u : Pcs} {id : Int} {xs : List Value} (h : DelS w wr B g n uc u id i j xs) {q : Int × Nat} (hq : u[j]? = some q) (hp : pcB id q = false) (hij : i < j) (hjn : j < n)
    (ho : Own w' B 135 2 (some ⟨g, 0, none⟩) n uc ((xs.set (i * 2) (.int .i64 q.1)).set (i * 2 + 1) (.int .i64 (q.2 : Int)))) (hg : wr.grownBy w' (some g)) :
    DelS w w' B g n uc u id (i + 1) (j + 1) ((xs.set (i * 2) (.int .i64 q.1)).set (i * 2 + 1) (.int .i64 (q.2 : Int))) := by
  have hk := keepP_snoc id hq
  rw [hp, if_neg (by decide)] at hk
  have hl := h.own.len
  refine ⟨ho, h.only.trans (Only.of_grown (R := fun k => k = g) hg fun k hk => (Option.some.inj hk).symm) (fun x hx => Or.inl hx), ?_, ?_, by rw [hk, List.length_append, h.len]; rfl⟩
  · rw [hk, pcC_app, ← h.head]
    apply List.ext_getElem?
    intro m
    rw [List.getElem?_take]
    by_cases hm : m < i * 2
    · rw [if_pos (by omega), List.getElem?_set_ne (by omega), List.getElem?_set_ne (by omega), List.getElem?_append_left (by rw [List.length_take]; omega), List.getElem?_take, if_pos hm]
    · have hlt : (xs.take (i * 2)).length = i * 2 := by rw [List.length_take]; omega
      rw [List.getElem?_append_right (by omega), hlt]
      by_cases h0 : m = i * 2
      · subst h0
        rw [if_pos (by omega), List.getElem?_set_ne (by omega), List.getElem?_set_self (by omega), Nat.sub_self]
        rfl
      · by_cases h1 : m = i * 2 + 1
        · subst h1
          rw [if_pos (by omega), List.getElem?_set_self (by rw [List.length_set]; omega), show i * 2 + 1 - i * 2 = 1 by omega]
          rfl
        · rw [if_neg (by omega), List.getElem?_eq_none]
          show (pcL q ++ pcC []).length ≤ m - i * 2
          show 2 ≤ m - i * 2
          omega
  · have ht := h.tail
    obtain ⟨h1, h2⟩ := List.getElem?_eq_some_iff.1 hq
    have e : u.drop j = q :: u.drop (j + 1) := by rw [List.drop_eq_getElem_cons h1, h2]
    rw [e] at ht
    have e2 : (xs.drop (j * 2)).drop 2 = pcC (u.drop (j + 1)) := by rw [ht]; rfl
    rw [List.drop_drop, show j * 2 + 2 = (j + 1) * 2 by omega] at e2
    rw [← e2]
    apply List.ext_getElem?
    intro m
    rw [List.getElem?_drop, List.getElem?_drop, List.getElem?_set_ne (by omega), List.getElem?_set_ne (by omega)]
theorem put2 {cur : List Value} {a b : Value} {o m : Nat} (h : o + 2 ≤ m) (hm : m ≤ cur.length) : (cur.take o ++ [a, b] ++ cur.drop (o + 2)).take m = ((cur.take m).set o a).set (o + 1) b := by
  apply List.ext_getElem?
  intro k
  have l1 : (cur.take o).length = o := by rw [List.length_take]; omega
  have l2 : (cur.take o ++ [a, b]).length = o + 2 := by rw [List.length_append, l1]; rfl
  rw [List.getElem?_take]
  by_cases hk : k < m
  · rw [if_pos hk]
    by_cases h1 : k = o + 1
    · subst h1
      rw [List.getElem?_set_self (by rw [List.length_set, List.length_take]; omega), List.getElem?_append_left (by omega), List.getElem?_append_right (by omega), l1, show o + 1 - o = 1 by omega]
      rfl
    · rw [List.getElem?_set_ne (by omega)]
      by_cases h0 : k = o
      · subst h0
        rw [List.getElem?_set_self (by rw [List.length_take]; omega), List.getElem?_append_left (by omega), List.getElem?_append_right (by omega), l1, Nat.sub_self]
        rfl
      · rw [List.getElem?_set_ne (by omega), List.getElem?_take, if_pos hk]
        by_cases h2 : k < o
        · rw [List.getElem?_append_left (by omega), List.getElem?_append_left (by omega), List.getElem?_take, if_pos h2]
        · rw [List.getElem?_append_right (by omega), l2, List.getElem?_drop, show o + 2 + (k - (o + 2)) = k by omega]
  · rw [if_neg hk, List.getElem?_eq_none]
    rw [List.length_set, List.length_set, List.length_take]
    omega
theorem storeP {wr : World} {B g n uc i : Nat} {xs : List Value} (h : Own wr B 135 2 (some ⟨g, 0, none⟩) n uc xs) (hi : i < n) (x : Int) (z : Int) :
    ∃ w', (Instr.storeAt 135 (.pointer (some ⟨g, i * 2, none⟩)) (.agg #[.int .i64 x, .int .i64 z])).run Tryz.prog wr = .ok () w' ∧ Own w' B 135 2 (some ⟨g, 0, none⟩) n uc ((xs.set (i * 2) (.int .i64 x)).set (i * 2 + 1) (.int .i64 z)) ∧ wr.grownBy w' (some g) := by
  obtain ⟨cur, hg, hs, ht, hnc, hm, hB⟩ := h.block
  have hin : i * 2 + 2 ≤ n * 2 := by omega
  have hnu : n * 2 ≤ uc * 2 := Nat.mul_le_mul_right _ hnc
  have hst := run_storeCells_at Tryz.prog g (i * 2) 135 [.int .i64 x, .int .i64 z] 0 cur wr hg (by rw [hs]; show i * 2 + 0 + 2 ≤ _; omega) (fun v hv => by
    rcases List.mem_cons.1 hv with rfl | hv
    · rfl
    · rcases List.mem_cons.1 hv with rfl | hv
      · rfl
      · cases hv)
  have hsz : (Tryz.prog.info? 135).map (·.size) = some 2 := by kernel_rfl
  obtain ⟨inf, hq, hi2⟩ := Option.map_eq_some_iff.1 hsz
  refine ⟨wr.setRow g (cur.toList.take (i * 2 + 0) ++ [Value.int .i64 x, Value.int .i64 z] ++ cur.toList.drop (i * 2 + 0 + 2)).toArray, ?_, ?_, ?_⟩
  · simp only [Instr.storeAt, Instr.sureAddr, Sem.run_bind, Sem.run_pure, Result.andThen]
    simp [storeVar, sizeOf, typeInfo, hq, Value.cells, hi2]
    simpa using hst
  · refine Own.of_block (setRow_heap _ _ _ _ _ _ hg) ?_ ?_ hnc hm hB
    · simp [hs]
      omega
    · rw [← ht]
      show (List.take (n * 2) _) = _
      simp only [Nat.add_zero]
      exact put2 hin (by rw [Array.length_toList, hs]; exact hnu)
  · exact ⟨rfl, rfl, rfl, by simp, fun k _ hk => setRow_other wr g k _ (fun e => hk (by rw [e]))⟩
theorem DelS.at {w wr : World} {B g n uc i j : Nat} {u : Pcs} {id : Int} {xs : List Value} (h : DelS w wr B g n uc u id i j xs) {q : Int × Nat} (hq : u[j]? = some q) : wr.cell? ⟨g, j * 2, none⟩ = some (.int .i64 q.1) ∧ wr.cell? ⟨g, j * 2 + 1, none⟩ = some (.int .i64 (q.2 : Int)) := by
  obtain ⟨h1, h2⟩ := List.getElem?_eq_some_iff.1 hq
  have e : u.drop j = q :: u.drop (j + 1) := by rw [List.drop_eq_getElem_cons h1, h2]
  have ht := h.tail
  rw [e] at ht
  have h0 : (xs.drop (j * 2))[0]? = some (.int .i64 q.1) := by rw [ht]; rfl
  have h3 : (xs.drop (j * 2))[1]? = some (.int .i64 (q.2 : Int)) := by rw [ht]; rfl
  rw [List.getElem?_drop] at h0 h3
  exact ⟨h.own.cell h0, h.own.cell h3⟩
theorem clearP {wr : World} {B g n uc i : Nat} {xs : List Value} (h : Own wr B 135 2 (some ⟨g, 0, none⟩) n uc xs) (hi : i < n) (ty : TypeId) :
    ∃ w', (Builtin.clear_ #[68] ty #[.slice (some ⟨g, i * 2, none⟩) (n - i) (uc - i)]).run Tryz.prog wr = .ok (.tuple #[]) w' ∧ Own w' B 135 2 (some ⟨g, 0, none⟩) i uc (xs.take (i * 2)) ∧ wr.grownBy w' (some g) := by
  obtain ⟨cur, hg, hs, ht, hnc, hm, hB⟩ := h.block
  have hv : ∀ w, (zeroValue 135).run Tryz.prog w = .ok (.agg #[.int .i64 0, .int .i64 0]) w := fun w => by kernel_rfl
  obtain ⟨cs, hcs⟩ : ∃ cs, (Builtin.zeroCells (Value.agg #[.int .i64 0, .int .i64 0]).cells (n - i)).toList = cs := ⟨_, rfl⟩
  have hcl : cs.length = (n - i) * 2 := by rw [← hcs]; simp [Builtin.zeroCells, Value.cells]
  have hc1 : ∀ v ∈ cs, v.oneCell' = true := fun v hv' => by
    rw [← hcs] at hv'
    simp [Builtin.zeroCells, Value.cells] at hv'
    obtain ⟨x, hx, rfl⟩ := hv'
    have h2 : x % 2 = 0 ∨ x % 2 = 1 := by omega
    rcases h2 with e | e <;> (rw [e]; rfl)
  have hfit : i * 2 + 0 + cs.length ≤ cur.size := by
    rw [hcl, hs]
    have : (i + (n - i)) * 2 ≤ uc * 2 := Nat.mul_le_mul_right _ (by omega)
    rw [Nat.add_mul] at this
    omega
  have hst := run_storeCells_at Tryz.prog g (i * 2) 135 cs 0 cur wr hg hfit hc1
  obtain ⟨m, hm2⟩ : ∃ m, n - i = m + 1 := ⟨n - i - 1, by omega⟩
  refine ⟨wr.setRow g (cur.toList.take (i * 2 + 0) ++ cs ++ cur.toList.drop (i * 2 + 0 + cs.length)).toArray, ?_, ?_, ?_⟩
  · rw [hm2] at hcs ⊢
    simp [Builtin.clear_, run_underlying Tryz.underlying68, hv, hcs, hst]
  · refine Own.of_block (setRow_heap _ _ _ _ _ _ hg) ?_ ?_ (by omega) hm hB
    · simp [hs] at hfit ⊢
      omega
    · have hlt : (cur.toList.take (i * 2 + 0)).length = i * 2 := by
        rw [List.length_take, Array.length_toList]
        omega
      simp only [List.append_assoc]
      rw [List.take_append_of_le_length (by rw [hlt]; exact Nat.le_refl _), ← ht, List.take_take, List.take_take, Nat.add_zero, Nat.min_self, Nat.min_eq_left (by omega)]
  · exact ⟨rfl, rfl, rfl, by simp, fun k _ hk => setRow_other wr g k _ (fun e => hk (by rw [e]))⟩
end Go.Proofs.YtimkgaokcldgkaaGreatDoor
/- The library's DeleteFunc over pieces: its walk. -/
namespace Go.Proofs.YtimkgaokcldgkaaGreatDoor
open Go Go.RowKit Go.Maps
set_option linter.unusedVariables false
set_option linter.unusedSimpArgs false
set_option maxRecDepth 10000

theorem keepP_none {id : Int} {u : Pcs} (h : ∀ q ∈ u, pcB id q = false) : keepP id u = u := by
  unfold keepP
  rw [List.filter_eq_self]
  intro q hq
  rw [h q hq]
  rfl
theorem wpList_storeP {P : Program} {ops : Array Oper} {rest : List Oper} {o : Oper} {act : Act} {Q : Exit → Act → World → Prop} {w w' : World} (hgd : o.guard = none) (ty : TypeId) (x y : Operand) (ho : o.op = .store ty x y) {u v : Value} (hx : act.eval x = u) (hy : act.eval y = v)
    (hr : (Instr.storeAt ty u v).run P w = .ok () w') (h : wpList P ops Q rest (act.put o.dst undef) w') : wpList P ops Q (o :: rest) act w := by
  refine wpList_plain hgd fun K hK => ?_
  unfold Oper.wp execOp
  simp only [ho, hx, hy, Sem.run_bind, Sem.run_pure, hr, Result.andThen_ok]
  exact hK _ _ h
def DelP (B : Nat) (u : Pcs) (id : Int) (uc : Nat) (ua : Option Addr) (w : World) (e : Ending) (w' : World) : Prop := ∃ m, e = .returned (.slice ua m uc) ∧ (keepP id u).length = m ∧ Own w' B 135 2 ua m uc (pcC (keepP id u)) ∧ Only (fun k => ua = some ⟨k, 0, none⟩) w w'
theorem del_ms (mk i4 : Nat) (h : i4 < mk) : mk - ((i4 : Int) + 1).toNat < mk - ((i4 : Int)).toNat := by omega
set_option maxHeartbeats 4000000 in
theorem delf_at (u : Pcs) (n : Nat) (hn : u.length = n) {w : World} {B uc idb : Nat} {ua : Option Addr} (ho : Own w B 135 2 ua n uc (pcC u)) (id : Int) (hbx : Box w idb #[.int .i64 id] 3) :
    Calls Tryz.prog 86 #[.slice ua n uc, .func (.func 87) #[] #[.pointer (some ⟨idb, 0, none⟩)]] w (DelP B u id uc ua w) := by
  have eg := egP
  have hn2 : n ≤ 9223372036854775807 := Nat.le_trans ho.cap_le ho.max
  have hnc := ho.cap_le
  have IX := Lib.hid (idxP_at u n hn ho id hbx)
  have HO := Lib.hid ho
  have HB := Lib.hid hbx
  have HN := Lib.hid hn
  clear ho hbx hn
  go_enter Tryz.func86, Tryz.ntmps86
  go_wp2_with fail
  refine IX.out.mono ?_
  rintro e w1 ⟨i0, rfl, b1, hc⟩
  have B1 := Lib.hid b1
  clear b1 IX
  rcases hc with ⟨rfl, hno⟩ | ⟨k, rfl, hkn, hpre, q, hq, hpq⟩
  · have FIN : Hid (DelP B u id uc ua w (.returned (.slice ua n uc)) w1) := Lib.hid ⟨n, rfl, by rw [keepP_none hno]; exact HN.out, by rw [keepP_none hno]; exact HO.out.later B1.out, Only.of_below _ B1.out⟩
    clear hno HO HB
    go_wp2
    go_ret
    exact FIN.out
  · rw [HN.out] at hkn
    obtain ⟨g, rfl, _⟩ := HO.out.some_ (by omega)
    have hk1 : ((k : Int) == -1) = false := by simp
    have D0 : Hid (DelS w w1 B g n uc u id k (k + 1) (pcC u)) := Lib.hid (by
      have h1 : keepP id (u.take k) = u.take k := keepP_none fun q hq => by
        obtain ⟨j, hj⟩ := List.mem_iff_getElem?.1 hq
        rw [List.getElem?_take] at hj
        split at hj
        · rename_i hlt
          exact hpre j q hlt hj
        · cases hj
      have h2 := keepP_snoc id hq
      rw [hpq, if_pos rfl, List.append_nil, h1] at h2
      exact ⟨HO.out.later B1.out, Only.of_below _ B1.out, by rw [h2, pcC_take], (pcC_drop u _).symm, by rw [h2, List.length_take, HN.out]; omega⟩)
    have NB : Hid (idb ≠ g) := Lib.hid (fun e => own_not_box HO.out HB.out (by decide) e.symm)
    clear hpre hq hpq
    go_wp2_with fail
    go_loopw [5, 6] (fun vi vj wr => ∃ (i j : Nat) (xs : List Value), i < j ∧ j ≤ n ∧ vi = .int .i64 (i : Int) ∧ vj = .int .i64 (j : Int) ∧ Hid (DelS w wr B g n uc u id i j xs)) (fun _ vj _ => n - (vJ vj).toNat)
    case atStart => exact ⟨k, k + 1, _, by omega, by omega, rfl, by go_num, D0⟩
    case round =>
      obtain ⟨i, j, xs, hij, hjn, rfl, rfl, HS⟩ := hrel
      clear D0
      obtain ⟨wl, rfl⟩ : ∃ W, W = wr := ⟨_, rfl⟩
      by_cases hlt : j < n
      · have hkd : decide ((j : Int) < (n : Int)) = true := decide_eq_true (by omega)
        obtain ⟨q, hq⟩ : ∃ q, u[j]? = some q := ⟨_, List.getElem?_eq_getElem (by rw [HN.out]; exact hlt)⟩
        obtain ⟨m0, m1⟩ := HS.out.at hq
        have hj0 : (0 : Int) ≤ (j : Int) := by omega
        have hj1 : (j : Int) < (n : Int) := by omega
        have hi0 : (0 : Int) ≤ (i : Int) := by omega
        have hi1 : (i : Int) < (n : Int) := by omega
        have HQ := Lib.hid hq
        clear hq
        have BXI := Lib.hid (HB.out.only HS.out.only NB.out)
        obtain ⟨b, hb⟩ : ∃ b, pcB id q = b := ⟨_, rfl⟩
        have HBB := Lib.hid hb
        have MQ : Hid (∀ W, Below wl.heap.size wl W → Calls Tryz.prog 87 #[.agg #[.int .i64 q.1, .int .i64 (q.2 : Int)], .pointer (some ⟨idb, 0, none⟩)] W fun e w' => e = .returned (.bool b) ∧ Below W.heap.size W w') := Lib.hid (fun W hW => by rw [← hb]; exact del1_at q id idb W (BXI.out.later hW))
        have MV : Hid (∀ w' W, b = false → Below wl.heap.size wl W → Own w' B 135 2 (some ⟨g, 0, none⟩) n uc ((xs.set (i * 2) (.int .i64 q.1)).set (i * 2 + 1) (.int .i64 (q.2 : Int))) → W.grownBy w' (some g) → DelS w w' B g n uc u id (i + 1) (j + 1) ((xs.set (i * 2) (.int .i64 q.1)).set (i * 2 + 1) (.int .i64 (q.2 : Int)))) := Lib.hid (fun w' W hb' hW h1 h2 => (HS.out.later hW).move HQ.out (by rw [HBB.out]; exact hb') hij hlt h1 h2)
        have SK : Hid (b = true → ∀ W, Below wl.heap.size wl W → DelS w W B g n uc u id i (j + 1) xs) := Lib.hid (fun hb' W hW => (HS.out.later hW).skip HQ.out (by rw [HBB.out]; exact hb'))
        have OX : Hid (∀ W, Below wl.heap.size wl W → Own W B 135 2 (some ⟨g, 0, none⟩) n uc xs) := Lib.hid (fun W hW => (HS.out.later hW).own)
        obtain ⟨qx, qz⟩ := q
        dsimp only at m0 m1 MQ MV
        have BN := Lib.hid (Box.new wl #[.int .i64 qx, .int .i64 (qz : Int)] 135)
        have BB := Lib.hid ((Below.refl wl.heap.size wl).alloc (Nat.le_refl _) (.cells #[.int .i64 qx, .int .i64 (qz : Int)] 135))
        clear hb HS
        go_upto_region 8 with fail
        obtain ⟨w4, hw4⟩ : ∃ W, wl.alloc (.cells #[.int .i64 qx, .int .i64 (qz : Int)] 135) = W := ⟨_, rfl⟩
        obtain ⟨vb, hvb⟩ : ∃ B, wl.heap.size = B := ⟨_, rfl⟩
        have hbel : Below wl.heap.size wl w4 := by rw [← hw4]; exact BB.out
        have BE := Lib.hid hbel
        rw [hw4] at BN
        rw [hvb] at BN
        rw [hw4, hvb]
        clear hw4 hvb hbel m0 m1 BB
        have p0 := BN.out.cell 0
        have p1 := BN.out.cell 1
        have lp := BN.out.lt
        go_wp2_with fail
        refine (MQ.out _ BE.out).mono ?_
        rintro e w5 ⟨rfl, b5⟩
        have B5 := Lib.hid (BE.out.trans (b5.mono BE.out.size))
        have BN5 := Lib.hid (BN.out.later b5)
        clear b5 MQ BN p0 p1 lp
        cases b with
        | true =>
          have NX := Lib.hid (SK.out rfl w5 B5.out)
          clear MV SK OX
          go_wp2
          go_roundw
          case rel => exact ⟨i, j + 1, xs, by omega, by omega, rfl, by go_num, NX⟩
          case measure => exact del_ms n j hlt
        | false =>
          obtain ⟨w6, hst, o6, g6⟩ := storeP (OX.out w5 B5.out) (by omega : i < n) qx (qz : Int)
          have NX := Lib.hid (MV.out _ _ rfl B5.out o6 g6)
          have p0 := BN5.out.cell 0
          have p1 := BN5.out.cell 1
          have lp := BN5.out.lt
          clear MV SK OX o6 g6
          go_wp2_with (refine wpList_storeP rfl _ _ _ rfl rfl rfl hst ?_)
          go_roundw
          case rel => exact ⟨i + 1, j + 1, _, by omega, by omega, by go_num, by go_num, NX⟩
          case measure => exact del_ms n j hlt
      · have hkd : decide ((j : Int) < (n : Int)) = false := decide_eq_false (by omega)
        obtain rfl : j = n := by omega
        obtain ⟨w6, hcl, o6, g6⟩ := clearP HS.out.own (by omega : i < j) 3
        have hcl2 : ∀ ty, (Builtin.clear_ #[68] ty #[.slice (some ⟨g, i * 2, none⟩) (j - i) (uc - i)]).run Tryz.prog wl = .ok (.tuple #[]) w6 := fun ty => hcl
        have hsf : ∀ W, (Instr.sliceAt 68 (.slice (some ⟨g, 0, none⟩) j uc) (some (.int .i64 (i : Int))) none none).run Tryz.prog W = .ok (.slice (some ⟨g, i * 2, none⟩) (j - i) (uc - i)) W := fun W => by
          obtain ⟨off, h1, h2⟩ := sliceFrom_off rowPc g j uc i (by omega) hnc
          rw [h1 W, h2 (by omega)]
        have hsl : ∀ W, (Instr.sliceAt 68 (.slice (some ⟨g, 0, none⟩) j uc) none (some (.int .i64 (i : Int))) none).run Tryz.prog W = .ok (.slice (some ⟨g, 0, none⟩) i uc) W := fun W => sliceTo_run rowPc (some ⟨g, 0, none⟩) j uc i (by omega) W (fun e => by cases e)
        have FIN : Hid (DelP B u id uc (some ⟨g, 0, none⟩) w (.returned (.slice (some ⟨g, 0, none⟩) i uc)) w6) := Lib.hid (by
          have hh := HS.out.head
          have hl := HS.out.len
          have e9 : u.take j = u := List.take_of_length_le (by rw [HN.out]; exact Nat.le_refl _)
          rw [e9] at hh hl
          rw [hh] at o6
          refine ⟨i, rfl, hl, o6, ?_⟩
          have hO := HS.out.only.trans (Only.of_grown (R := fun k => k = g) g6 fun k hk => (Option.some.inj hk).symm) (fun x hx => Or.inl hx)
          exact ⟨hO.os, hO.tape, hO.output, hO.size, fun k hk hne => hO.block k hk fun e => hne (by rw [e])⟩)
        clear HS o6 g6 hcl HB HO
        go_wp2
        go_ret
        exact FIN.out
end Go.Proofs.YtimkgaokcldgkaaGreatDoor
/- Package disk: Drop. -/
namespace Go.Proofs.YtimkgaokcldgkaaGreatDoor
open Go Go.RowKit Go.Maps
set_option linter.unusedVariables false
set_option linter.unusedSimpArgs false
set_option maxRecDepth 10000

def dS (S : Sgs) (n : Int) : Sgs := S.filter fun p => decide (p.1 ≠ n)
theorem gS_drop (S : Sgs) (n k : Int) : gS (dS S n) k = if k = n then none else gS S k := by
  induction S with
  | nil => simp [dS, gS]
  | cons x t ih =>
    obtain ⟨m, c⟩ := x
    unfold dS at ih ⊢
    rw [List.filter_cons]
    by_cases h : m = n
    · rw [if_neg (by simp [h]), ih, gS]
      by_cases hk : k = n
      · rw [if_pos hk, if_pos hk]
      · rw [if_neg hk, if_neg hk, if_neg (fun e => hk (e.symm.trans h))]
    · rw [if_pos (by simp [h]), gS, ih, gS]
      by_cases hm : m = k
      · rw [if_pos hm, if_pos hm, if_neg (fun e => h (hm.trans e))]
      · rw [if_neg hm, if_neg hm]
theorem SS_drop {S : Sgs} (h : SS S) (n : Int) : SS (dS S n) := List.Pairwise.filter _ h
theorem gD_drop (S : Sgs) (n k : Int) : gD (dS S n) k = if k = n then [] else gD S k := by
  unfold gD
  rw [gS_drop]
  split <;> rfl
theorem loose_keep (n : Int) (u : Pcs) (k : Int) : loose (keepP n u) k = if k = n then 0 else loose u k := by
  induction u with
  | nil => simp [keepP, loose]
  | cons x t ih =>
    obtain ⟨m, z⟩ := x
    unfold keepP at ih ⊢
    rw [List.filter_cons]
    by_cases h : m = n
    · have hb : pcB n (m, z) = true := decide_eq_true h
      rw [hb, Bool.not_true, if_neg (by decide), ih, loose]
      by_cases hk : k = n
      · rw [if_pos hk, if_pos hk]
      · rw [if_neg hk, if_neg hk, if_neg (fun e => hk (e.symm.trans h))]
        omega
    · have hb : pcB n (m, z) = false := decide_eq_false h
      rw [hb, Bool.not_false, if_pos rfl, loose, ih, loose]
      by_cases hk : k = n
      · rw [if_pos hk, if_pos hk, if_neg (fun e => h (e.trans hk))]
      · rw [if_neg hk, if_neg hk]
theorem UN.drop {S : Sgs} {u : Pcs} (h : UN S u) (n : Int) : UN (dS S n) (keepP n u) := by
  refine ⟨fun p hp => ?_, fun k => ?_⟩
  · unfold keepP at hp
    obtain ⟨h1, h2⟩ := List.mem_filter.1 hp
    have h3 : ¬ p.1 = n := by
      intro e
      have : pcB n p = true := decide_eq_true e
      rw [this] at h2
      cases h2
    rw [gS_drop, if_neg h3]
    exact h.1 p h1
  · rw [loose_keep, gD_drop]
    split
    · exact Nat.zero_le _
    · exact h.2 k
theorem Mp.drop {w : World} {B bm : Nat} {S : Sgs} {V : VF} {n : Int} (h : Mp w B bm S V none) (hn : (Lit.int .i64 n).wf = true) (ty : TypeId) :
    ∃ w', (Builtin.delete_ #[67, 3] ty #[.map (some bm), .int .i64 n]).run Tryz.prog w = .ok (.tuple #[]) w' ∧ Mp w' B bm (dS S n) V none ∧ w.mapTurned w' bm := by
  obtain ⟨D, m, hm, hmm, hh, ha⟩ := h.mp
  obtain ⟨w', h1, h2, h3⟩ := hm.drop lawI Tryz.underlying67 (kn_key n hn) ty
  have hg := h3.grown
  have other : ∀ {k b'}, gS (dS S n) k = some b' → k ≠ n ∧ gS S k = some b' := fun {k b'} hb' => by
    rw [gS_drop] at hb'
    split at hb'
    · cases hb'
    · rename_i e
      exact ⟨e, hb'⟩
  have keep : ∀ g, g < w.heap.size → g ≠ bm → w'.heap[g]? = w.heap[g]? := fun g h4 h5 => hg.block g h4 (fun e => h5 (Option.some.inj e))
  refine ⟨w', h1, ⟨⟨_, m, h2, hmm, fun k => ?_, fun k b' hk z => ?_⟩, fun k b' hk _ => ?_, fun i j bi bj hij hi hj => h.ne i j bi bj hij (other hi).2 (other hj).2, SS_drop h.ss n, h.bB⟩, h3⟩
  · by_cases e : k = n
    · subst e
      rw [has_del_same, gS_drop, if_pos rfl]
      rfl
    · rw [has_del_other (kn_ne e), gS_drop, if_neg e]
      exact hh k
  · obtain ⟨h4, h5⟩ := other hk
    rw [atKey_del_other (kn_ne h4)]
    exact ha k b' h5 z
  · have hr := h.rows k b' (other hk).2 (by simp)
    exact hr.blocks fun g hgg => keep g (own_lt hr hgg).1 (ownsMap_not_own hm hr hgg)
section
variable {w : World} {B d bm uc : Nat} {S : Sgs} {V : VF} {ua : Option Addr} {un : Pcs} {most beh fal : Int}
theorem Dm.turn_box (h : Dm w B d bm S V ua uc un most beh fal) {w4 : World} (q7 : w.mapTurned w4 bm) : Box w4 d #[.int .i64 most, .map (some bm), .slice ua un.length uc, .int .i64 beh, .int .i64 fal] 70 :=
  (q7.grown.block d h.box.lt (fun e => h.bm_ne (Option.some.inj e))).trans h.box
theorem Dm.turn_own (h : Dm w B d bm S V ua uc un most beh fal) {w4 : World} (q7 : w.mapTurned w4 bm) : Own w4 B 135 2 ua un.length uc (pcC un) :=
  h.own.blocks fun g e => q7.grown.block g (own_lt h.own e).1 (fun e2 => by
    obtain ⟨D, m, ho, _⟩ := h.mp.mp
    exact ownsMap_not_own ho h.own e (Option.some.inj e2))
theorem Dm.dropped (h : Dm w B d bm S V ua uc un most beh fal) {n : Int} {w4 w5 : World} {m : Nat} (q6 : Mp w4 B bm (dS S n) V none) (q7 : w.mapTurned w4 bm) (hm : (keepP n un).length = m) (p1 : Own w5 B 135 2 ua m uc (pcC (keepP n un))) (p2 : Only (fun k => ua = some ⟨k, 0, none⟩) w4 w5) :
    Dm (w5.setCell ⟨d, 2, none⟩ (.slice ua m uc)) B d bm (dS S n) V ua uc (keepP n un) most beh fal ∧ TurnD d bm S V ua w (dS S n) V ua (w5.setCell ⟨d, 2, none⟩ (.slice ua m uc)) := by
  subst hm
  have b4 := h.turn_box q7
  have o4 := h.turn_own q7
  have b5 : Box w5 d _ 70 := b4.only p2 fun e => by
    rw [e] at o4
    exact own_not_box o4 b4 (by decide) rfl
  have m5 : Mp w5 B bm (dS S n) V none := q6.blocks fun k hk => p2.block k (q6.mine_lt hk).1 fun e => by
    rw [e] at o4
    obtain ⟨cur, hcur, _⟩ := o4.block
    exact q6.off hcur (by decide) hk
  have hO : Only (MineD d bm S V ua) w (w5.setCell ⟨d, 2, none⟩ (.slice ua (keepP n un).length uc)) := by
    have h1 : Only (MineD d bm S V ua) w w4 := Only.of_grown q7.grown fun k hk => Or.inr (Or.inl (Or.inl (Option.some.inj hk).symm))
    exact (h1.trans p2 fun x hx => Or.inl (Or.inr (Or.inr hx))).setCell (Or.inl (Or.inl rfl)) _
  refine ⟨⟨b5.set 2 _, ?_, ?_, h.un_ok.drop n, h.dB, h.behB, h.falB, h.mo, Nat.le_trans (List.length_filter_le _ _) h.cnt, fun k => ?_, fun k hk => ?_⟩, hO, fun k hk => Or.inl ?_⟩
  · exact m5.blocks fun k hk => Below.heap_setCell w5 ⟨d, 2, none⟩ _ k fun e => m5.off (k := d) (cs := _) (t := 70) (z := (0, 0)) b5 (by decide) (by rw [show d = k from e.symm]; exact hk)
  · exact p1.other (fun g e => by
      rw [e] at p1
      exact own_not_box p1 b5 (by decide)) _
  · rw [gD_drop]
    split
    · exact Nat.zero_le _
    · exact h.seg k
  · rw [gS_drop] at hk
    split at hk
    · cases hk
    · exact h.kw k hk
  · rcases hk with hk | hk | hk
    · exact Or.inl hk
    · rcases hk with hk | ⟨m, b', hm, hx, e⟩
      · exact Or.inr (Or.inl (Or.inl hk))
      · rw [gS_drop] at hm
        split at hm
        · cases hm
        · exact Or.inr (Or.inl (Or.inr ⟨m, b', hm, hx, e⟩))
    · exact Or.inr (Or.inr hk)
def DropP (B d bm : Nat) (S : Sgs) (V : VF) (ua : Option Addr) (w : World) (un : Pcs) (most beh fal n : Int) (e : Ending) (w' : World) : Prop :=
  (gS S n = none ∧ e = .returned (.int .i64 4) ∧ Below w.heap.size w w') ∨
  ((gS S n).isSome = true ∧ wfB beh fal = true ∧ e = .returned (.int .i64 7) ∧ AftD B d bm S V ua w S un most (wfH beh) (wfF beh fal) w') ∨
  ((gS S n).isSome = true ∧ wfB beh fal = false ∧ e = .returned (.int .i64 0) ∧ AftD B d bm S V ua w (dS S n) (keepP n un) most (wfH beh) (wfF beh fal) w')
set_option maxHeartbeats 4000000 in
theorem drop_at (h : Dm w B d bm S V ua uc un most beh fal) (n : Int) (hnw : (Lit.int .i64 n).wf = true) :
    Calls Tryz.prog 70 #[.pointer (some ⟨d, 0, none⟩), .int .i64 n] w (DropP B d bm S V ua w un most beh fal n) := by
  have BN := Lib.hid (Box.new w #[.int .i64 n] 3)
  have BB := Lib.hid ((Below.refl w.heap.size w).alloc (Nat.le_refl _) (.cells #[.int .i64 n] 3))
  have HD := Lib.hid h
  obtain ⟨has, hhas⟩ : ∃ b, (gS S n).isSome = b := ⟨_, rfl⟩
  have HHAS := Lib.hid hhas
  obtain ⟨A, hA⟩ : ∃ A, lkA S V n = A := ⟨_, rfl⟩
  obtain ⟨C, hC⟩ : ∃ C, lkC S V n = C := ⟨_, rfl⟩
  obtain ⟨L, hL⟩ : ∃ L, (gD S n).length = L := ⟨_, rfl⟩
  go_enter Tryz.func70, Tryz.ntmps70
  go_upto_region 1 with fail
  obtain ⟨w1, hw1⟩ : ∃ W, w.alloc (.cells #[.int .i64 n] 3) = W := ⟨_, rfl⟩
  obtain ⟨ib, hib⟩ : ∃ B, w.heap.size = B := ⟨_, rfl⟩
  have hbel : Below w.heap.size w w1 := by rw [← hw1]; exact BB.out
  have B1 := Lib.hid hbel
  rw [hw1] at BN
  rw [hib] at BN
  rw [hw1, hib]
  clear hw1 hib BB hbel
  have D1 := Lib.hid (HD.out.later B1.out)
  have LK : ∀ j, (Instr.lookup 67 (.map (some bm)) (.int .i64 n) true).run Tryz.prog (w1.drewN j) = .ok (.tuple #[.slice A L C, .bool has]) (w1.drewN j) := fun j => by
    rw [← hA, ← hC, ← hL, ← hhas]
    exact (D1.out.mp.blocks (w' := w1.drewN j) (fun _ _ => rfl)).look_ok n hnw
  have BX1 := Lib.hid D1.out.box
  have c1 := BX1.out.cell 1
  have k0 := BN.out.cell 0
  have ld := BX1.out.lt
  have li := BN.out.lt
  clear h hA hC hL hhas
  go_upto_region 3 with fail
  go_quiet (fail)
  go_upto_region 4 with fail
  have BQ : Hid (Below w1.heap.size w1 (w1.drewN nq)) := Lib.hid (dk_drewN (Below.refl _ _) nq)
  obtain ⟨w3, hw3⟩ : ∃ W, w1.drewN nq = W := ⟨_, rfl⟩
  rw [hw3] at BQ ⊢
  have D3 := Lib.hid (D1.out.later BQ.out)
  have I3 := Lib.hid (BN.out.later BQ.out)
  have B3 := Lib.hid (B1.out.trans (BQ.out.mono B1.out.size))
  clear hw3 BQ D1 BX1 c1 k0 ld li LK BN B1
  cases has with
  | false =>
    have FIN : Hid (DropP B d bm S V ua w un most beh fal n (.returned (.int .i64 4)) w3) := Lib.hid (Or.inl ⟨by have h9 := HHAS.out; cases hg : gS S n with | none => rfl | some b => (rw [hg] at h9; cases h9), rfl, B3.out⟩)
    go_wp2
    go_ret
    exact FIN.out
  | true =>
    have WF := Lib.hid (wf_at D3.out)
    obtain ⟨wb, hwb⟩ : ∃ x, wfB beh fal = x := ⟨_, rfl⟩
    rw [hwb] at WF
    have WFB := Lib.hid hwb
    have MI : Hid (∀ k, MineD d bm S V ua k → k ≠ ib) := Lib.hid (fun k hk e => by
      subst e
      rcases hk with hk | hk | hk
      · exact box_other D3.out.box I3.out (by decide) hk.symm
      · exact D3.out.mp.off (k := k) I3.out (by decide) hk
      · have h9 := D3.out.own
        rw [hk] at h9
        exact own_not_box h9 I3.out (by decide) rfl)
    clear hwb
    go_wp2_with fail
    refine WF.out.mono ?_
    rintro e w6 ⟨rfl, dd6, tt6⟩
    have D6 := Lib.hid dd6
    have I6 := Lib.hid (I3.out.only tt6.1 (fun hm => MI.out _ hm rfl))
    have T6 := Lib.hid ((TurnD.refl (d := d) (bm := bm) (S := S) (V := V) (ua := ua) B3.out).trans tt6)
    clear dd6 tt6 WF D3 I3
    cases wb with
    | true =>
      have FIN : Hid (DropP B d bm S V ua w un most beh fal n (.returned (.int .i64 7)) w6) := Lib.hid (Or.inr (Or.inl ⟨HHAS.out, WFB.out, rfl, _, _, _, D6.out, T6.out⟩))
      go_wp2
      go_ret
      exact FIN.out
    | false =>
      obtain ⟨U, hU⟩ : ∃ U, un.length = U := ⟨_, rfl⟩
      have HU := Lib.hid hU
      have BX6 := Lib.hid D6.out.box
      have IB6 := I6
      have ld6 := BX6.out.lt
      have li6 := IB6.out.lt
      have MD : Hid (∀ W, Below w6.heap.size w6 W → ∃ w', (∀ ty, (Builtin.delete_ #[67, 3] ty #[.map (some bm), .int .i64 n]).run Tryz.prog W = .ok (.tuple #[]) w') ∧ Mp w' B bm (dS S n) V none ∧ W.mapTurned w' bm) := Lib.hid (fun W hW => by
        obtain ⟨w', h1, h2⟩ := (D6.out.later hW).mp.drop hnw 3
        exact ⟨w', fun ty => h1, h2⟩)
      have BXS : Hid (∀ W, Below w6.heap.size w6 W → ∀ w4, W.mapTurned w4 bm → Box w4 d #[.int .i64 most, .map (some bm), .slice ua U uc, .int .i64 (wfH beh), .int .i64 (wfF beh fal)] 70) := Lib.hid (fun W hW w4 h1 => by have h9 := (D6.out.later hW).turn_box h1; rw [hU] at h9; exact h9)
      have OUS : Hid (∀ W, Below w6.heap.size w6 W → ∀ w4, W.mapTurned w4 bm → Own w4 B 135 2 ua U uc (pcC un)) := Lib.hid (fun W hW w4 h1 => by have h9 := (D6.out.later hW).turn_own h1; rw [hU] at h9; exact h9)
      have IBS : Hid (∀ W, Below w6.heap.size w6 W → ∀ w4, W.mapTurned w4 bm → Box w4 ib #[.int .i64 n] 3) := Lib.hid (fun W hW w4 h1 => (h1.grown.block ib (I6.out.later hW).lt (fun e => MI.out bm (Or.inr (Or.inl (Or.inl rfl))) (Option.some.inj e).symm)).trans (I6.out.later hW))
      have FIN : Hid (∀ W, Below w6.heap.size w6 W → ∀ w4, Mp w4 B bm (dS S n) V none → W.mapTurned w4 bm → ∀ w5 m, (keepP n un).length = m → Own w5 B 135 2 ua m uc (pcC (keepP n un)) → Only (fun k => ua = some ⟨k, 0, none⟩) w4 w5 → DropP B d bm S V ua w un most beh fal n (.returned (.int .i64 0)) (w5.setCell ⟨d, 2, none⟩ (.slice ua m uc))) := Lib.hid (fun W hW w4 h1 h2 w5 m h3 h4 h5 => by
        obtain ⟨k1, k2⟩ := (D6.out.later hW).dropped h1 h2 h3 h4 h5
        exact Or.inr (Or.inr ⟨HHAS.out, WFB.out, rfl, _, _, _, k1, (T6.out.trans (TurnD.refl hW)).trans k2⟩))
      clear D6 I6 T6 HD B3 MI hU
      go_upto_region 8 with fail
      refine wp_region_last 5 (fun w' => Below w6.heap.size w6 w') (by kernel_rfl) ((Below.refl _ _).drew) (fun hHeld hClosed => ?_)
      have BW := Lib.hid ((Below.refl w6.heap.size w6).drew)
      generalize w6.drew = wc at BW hHeld ⊢
      refine wtk (i := 0) (v := ?_) rfl hClosed (Or.inl ⟨by rfl, ?_⟩) hHeld (fun hClosed => ?_)
      rotate_left
      · intro wv hSw; go_simp; all_goals (with_reducible rfl)
      (try simp only [List.getElem_toArray, List.getElem_cons_zero, put_at, List.set])
      refine wtk (i := 1) (v := ?_) rfl hClosed (Or.inl ⟨by rfl, ?_⟩) hHeld (fun hClosed => ?_)
      rotate_left
      · intro wv hSw; go_simp; all_goals (with_reducible rfl)
      (try simp only [List.getElem_toArray, List.getElem_cons_succ, List.getElem_cons_zero, put_at, List.set])
      refine wtk (i := 2) (v := ?_) rfl hClosed (Or.inl ⟨by rfl, ?_⟩) hHeld (fun hClosed => ?_)
      rotate_left
      · intro wv hSw; go_simp; all_goals (with_reducible rfl)
      (try simp only [List.getElem_toArray, List.getElem_cons_succ, List.getElem_cons_zero, put_at, List.set])
      refine wtk (i := 3) (v := ?_) rfl hClosed (Or.inl ⟨by rfl, ?_⟩) hHeld (fun hClosed => ?_)
      rotate_left
      · intro wv hSw; have c1 := (BX6.out.later hSw).cell 1; have k0 := (IB6.out.later hSw).cell 0; go_simp; all_goals (with_reducible rfl)
      (try simp only [List.getElem_toArray, List.getElem_cons_succ, List.getElem_cons_zero, put_at, List.set])
      refine wtk (i := 4) (v := ?_) rfl hClosed (Or.inl ⟨by rfl, ?_⟩) hHeld (fun hClosed => ?_)
      rotate_left
      · intro wv hSw; have c1 := (BX6.out.later hSw).cell 1; have k0 := (IB6.out.later hSw).cell 0; go_simp; all_goals (with_reducible rfl)
      (try simp only [List.getElem_toArray, List.getElem_cons_succ, List.getElem_cons_zero, put_at, List.set])
      refine wpAnyL_last rfl (by kernel_rfl) (by kernel_rfl) (fun KK hK => ?_)
      obtain ⟨w8, q5, q6, q7⟩ := MD.out wc BW.out
      go_simp
      refine hK.out _ _ ?_
      (try simp only [put_at, List.set])
      have FINW := Lib.hid (FIN.out wc BW.out w8 q6 q7)
      have BX8 := Lib.hid (BXS.out wc BW.out w8 q7)
      have OU8 := Lib.hid (OUS.out wc BW.out w8 q7)
      have IB8 := Lib.hid (IBS.out wc BW.out w8 q7)
      clear q5 q6 q7 BXS OUS IBS FIN MD hHeld
      have e2 := BX8.out.cell 2
      have f2 := BX8.out.free 2
      have ld8 := BX8.out.lt
      go_wp2_with fail
      refine (delf_at un U HU.out OU8.out n IB8.out).mono ?_
      rintro e w9 ⟨m, rfl, hm, o9, n9⟩
      have BX9 := Lib.hid (BX8.out.only n9 (fun e => by have h9 := OU8.out; rw [e] at h9; exact own_not_box h9 BX8.out (by decide) rfl))
      have FF := Lib.hid (FINW.out w9 m hm o9 n9)
      have g2 := BX9.out.free 2
      have e9 := BX9.out.cell 2
      have ld9 := BX9.out.lt
      clear o9 n9 hm FINW BX8 OU8 IB8 e2 f2 ld8
      go_wp2
      go_ret
      exact FF.out

end
end Go.Proofs.YtimkgaokcldgkaaGreatDoor
/- Package disk: Crash. -/
namespace Go.Proofs.YtimkgaokcldgkaaGreatDoor
open Go Go.RowKit Go.Maps
set_option linter.unusedVariables false
set_option linter.unusedSimpArgs false
set_option maxRecDepth 10000

def vI : Value → Int
  | .int _ x => x
  | _ => 0
theorem cra_ms (mk i4 : Nat) (h : i4 < mk) : mk - ((i4 : Int) + 1).toNat < mk - ((i4 : Int)).toNat := by omega
end Go.Proofs.YtimkgaokcldgkaaGreatDoor
