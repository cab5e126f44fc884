/- Part of a chain: DkMem, DkFn. -/
import Derived.Test.YteinblpkcpjpnaaGreatDoorSc10
import Derived.Test.YteinblpkcpjpnaaGreatDoorSc11
import Derived.Test.YteinblpkcpjpnaaGreatDoorSc08
import Derived.Test.YteinblpkcpjpnaaGreatDoorSc12
import Derived.Test.YteinblpkcpjpnaaGreatDoorSc03
import Derived.Test.YteinblpkcpjpnaaGreatDoorSc04
import Derived.Test.YteinblpkcpjpnaaGreatDoorChecked
import Derived.Maps.OwnSet
import Derived.Maps.Range
import Derived.Lib.SlKeysI
import Derived.WalkKit
import Derived.BigQuiet
import Derived.Lib.Hide
import Derived.OpenShut
import Derived.Shelf.Abstract
import Derived.IntWalk
import Derived.Deep.Cut
import Derived.Deep.CutRange
import Derived.Deep.DeepCutAuto
import Derived.Deep.CutBlock
/- The simulated disk: what it is in memory. -/
namespace Go.Proofs.YteinblpkcpjpnaaGreatDoor
open Go Go.RowKit Go.Maps
set_option linter.unusedVariables false
set_option linter.unusedSimpArgs false
set_option maxRecDepth 10000

theorem rowPc : RowTy Tryz.prog 60 89 2 16 := ⟨Tryz.underlying60, ⟨.agg #[.int .i64 0, .int .i64 0], by kernel_rfl, rfl⟩, by decide⟩
theorem rowU8 : RowTy Tryz.prog 46 5 1 1 := ⟨Tryz.underlying46, ⟨.int .u8 0, by kernel_rfl, rfl⟩, by decide⟩
theorem lawI : Keyed Tryz.prog 3 := int_keyed Tryz.underlying3
theorem zeroB (w : World) : (zeroValue 46).run Tryz.prog w = .ok (.slice none 0 0) w := by kernel_rfl
/-- An element reads as itself. -/
def RH : Value → Option (DataW Value × List MemPlace) := fun v => some (.held v, [])
def kn (n : Int) : Lit := .int .i64 n
theorem kn_key (n : Int) (h : (Lit.int .i64 n).wf = true) : keyOf Tryz.prog 3 (.int .i64 n) = some (kn n) := keyOf_int_mk Tryz.underlying3 h
theorem kn_ne {a b : Int} (h : a ≠ b) : kn a ≠ kn b := fun e => h (by injection e)
theorem kn_lit (n : Int) (h : (Lit.int .i64 n).wf = true) : WideAt.IsKeyLit (kn n) := by
  unfold kn WideAt.IsKeyLit
  trivial
abbrev VF := Int → Option Addr × Nat
def sv (V : VF) (n : Int) (b : List Int) : Value := .slice (V n).1 b.length (V n).2
def u8L (b : List Int) : List Value := b.map (Value.int .u8)
/-- The map of segments; where x is a number, what lies at it is not told. -/
structure Mp (w : World) (B bm : Nat) (S : Sgs) (V : VF) (x : Option Int) : Prop where
  mp : ∃ (D : DataW Value) (m : Nat), w.ownsMap Tryz.prog 3 RH bm m D ∧ m ≤ 2000 ∧ (∀ n, Maps.has D (kn n) = (gS S n).isSome) ∧ (∀ n b, gS S n = some b → ∀ z, D.atKey (kn n) z = .held (sv V n b))
  rows : ∀ n b, gS S n = some b → x ≠ some n → Own w B 5 1 (V n).1 b.length (V n).2 (u8L b)
  ne : ∀ n m b c, n ≠ m → gS S n = some b → gS S m = some c → ∀ g, (V n).1 = some ⟨g, 0, none⟩ → (V m).1 ≠ some ⟨g, 0, none⟩
  ss : SS S
  bB : B ≤ bm
theorem u8L_len (b : List Int) : (u8L b).length = b.length * 1 := by simp [u8L]
theorem u8L_app (a b : List Int) : u8L (a ++ b) = u8L a ++ u8L b := by simp [u8L]
theorem u8L_one (b : List Int) : ∀ u ∈ u8L b, u.oneCell' = true := by
  intro u hu
  unfold u8L at hu
  obtain ⟨c, _, rfl⟩ := List.mem_map.1 hu
  rfl
theorem map_not_cells {w : World} {b : Nat} {es : Array MapEntry} {cl : Nat} {cs : Array Value} {t : TypeId} {z : Nat × Nat} (h : w.heap[b]? = some (.map es cl)) (k : w.heap[b]? = some (.cells cs t z)) : False := by
  rw [h] at k
  cases k
theorem ownsMap_not_own {w : World} {B size n cap b m : Nat} {E : TypeId} {a : Option Addr} {xs : List Value} {D : DataW Value} {g : Nat} (h : w.ownsMap Tryz.prog 3 RH b m D) (ho : Own w B E size a n cap xs) (hg : a = some ⟨g, 0, none⟩) : g ≠ b := fun e => by
  subst hg
  obtain ⟨cur, hc, _⟩ := ho.block
  obtain ⟨es, cl, hm, _⟩ := h
  rw [e] at hc
  exact map_not_cells hm hc
theorem ownsMap_not_box {w : World} {b m H : Nat} {cs : Array Value} {t : TypeId} {D : DataW Value} (h : w.ownsMap Tryz.prog 3 RH b m D) (ho : Box w H cs t) : H ≠ b := fun e => by
  obtain ⟨es, cl, hm, _⟩ := h
  have hc : w.heap[H]? = some (.cells cs t (0, 0)) := ho
  rw [e] at hc
  exact map_not_cells hm hc
theorem ownsMap_blk {w w' : World} {b m : Nat} {D : DataW Value} (h : w.ownsMap Tryz.prog 3 RH b m D) (he : w'.heap[b]? = w.heap[b]?) : w'.ownsMap Tryz.prog 3 RH b m D := by
  obtain ⟨es, cl, hm, h2⟩ := h
  exact ⟨es, cl, he.trans hm, h2⟩
theorem Mp.lt {w : World} {B bm : Nat} {S : Sgs} {V : VF} {x : Option Int} (h : Mp w B bm S V x) : bm < w.heap.size := by
  obtain ⟨D, m, ho, _⟩ := h.mp
  exact ho.lt
/-- The map's own blocks. -/
def MineM (bm : Nat) (S : Sgs) (V : VF) (x : Option Int) (k : Nat) : Prop := k = bm ∨ ∃ n b, gS S n = some b ∧ x ≠ some n ∧ (V n).1 = some ⟨k, 0, none⟩
theorem Mp.blocks {w w' : World} {B bm : Nat} {S : Sgs} {V : VF} {x : Option Int} (h : Mp w B bm S V x) (hb : ∀ k, MineM bm S V x k → w'.heap[k]? = w.heap[k]?) : Mp w' B bm S V x := by
  obtain ⟨D, m, ho, h2⟩ := h.mp
  exact ⟨⟨D, m, ownsMap_blk ho (hb bm (Or.inl rfl)), h2⟩, fun n b hn hx => (h.rows n b hn hx).blocks fun g e => hb g (Or.inr ⟨n, b, hn, hx, e⟩), h.ne, h.ss, h.bB⟩
theorem Mp.mine_lt {w : World} {B bm : Nat} {S : Sgs} {V : VF} {x : Option Int} (h : Mp w B bm S V x) {k : Nat} (hk : MineM bm S V x k) : k < w.heap.size ∧ B ≤ k := by
  rcases hk with hk | ⟨n, b, hn, hx, e⟩
  · rw [hk]; exact ⟨h.lt, h.bB⟩
  · exact own_lt (h.rows n b hn hx) e
theorem Mp.later {w w' : World} {B bm : Nat} {S : Sgs} {V : VF} {x : Option Int} (h : Mp w B bm S V x) (hb : Below w.heap.size w w') : Mp w' B bm S V x :=
  h.blocks fun k hk => hb.block k (h.mine_lt hk).1
theorem Mp.hole {w : World} {B bm : Nat} {S : Sgs} {V : VF} (h : Mp w B bm S V none) (n : Int) : Mp w B bm S V (some n) :=
  ⟨h.mp, fun k b hk hx => h.rows k b hk (by simp), h.ne, h.ss, h.bB⟩
/-- A row of the map's grows or is written: the others are as they were. -/
theorem Mp.grown {w w' : World} {B bm : Nat} {S : Sgs} {V : VF} {n : Int} (h : Mp w B bm S V none) {row : Option Nat} (hg : w.grownBy w' row) (hr : ∀ k, row = some k → (gS S n).isSome = true ∧ (V n).1 = some ⟨k, 0, none⟩) : Mp w' B bm S V (some n) :=
  (h.hole n).blocks fun k hk => by
    refine hg.block k ((h.hole n).mine_lt hk).1 fun e => ?_
    obtain ⟨h1, h2⟩ := hr k e.symm
    obtain ⟨b, hb⟩ := Option.isSome_iff_exists.1 h1
    rcases hk with hk | ⟨m, c, hm, hx, e3⟩
    · obtain ⟨D, mm, ho, _⟩ := h.mp
      exact ownsMap_not_own ho (h.rows n b hb (by simp)) h2 hk
    · exact h.ne n m b c (fun e4 => hx (by rw [e4])) hb hm k h2 e3
theorem Mp.size {w : World} {B bm : Nat} {S : Sgs} {V : VF} {x : Option Int} (h : Mp w B bm S V x) :
    ∃ (D : DataW Value) (m : Nat), w.ownsMap Tryz.prog 3 RH bm m D ∧ Maps.size D = S.length ∧ (S.map Prod.fst).Perm (intKeys D) := by
  obtain ⟨D, m, ho, _, hh, _⟩ := h.mp
  obtain ⟨es, rfl, hp, hk⟩ := ho.entries lawI
  have hki : ∀ p ∈ es, ∃ x, p.1 = .int .i64 x := by
    obtain ⟨es2, e2, hk2⟩ := ho.keysOf
    injection e2 with e2
    subst e2
    intro p hp'
    obtain ⟨v, hv⟩ := hk2 p hp'
    obtain ⟨x, _, e3, _⟩ := Maps.keyOf_i64 Tryz.underlying3 hv
    exact ⟨x, e3⟩
  have hP := perm_intKeys hp hki (keys_nodup h.ss) (fun x => by rw [gS_keys]; exact (by rw [← hh x]; rfl))
  refine ⟨_, m, ho, ?_, hP⟩
  have := hP.length_eq
  rw [List.length_map] at this
  rw [this]
  show es.length = (es.map fun p => intOf p.1).length
  rw [List.length_map]
def lkA (S : Sgs) (V : VF) (n : Int) : Option Addr := if (gS S n).isSome then (V n).1 else none
def lkC (S : Sgs) (V : VF) (n : Int) : Nat := if (gS S n).isSome then (V n).2 else 0
theorem lk_own {w : World} {B bm : Nat} {S : Sgs} {V : VF} (h : Mp w B bm S V none) (n : Int) : Own w B 5 1 (lkA S V n) (gD S n).length (lkC S V n) (u8L (gD S n)) := by
  unfold lkA lkC gD
  cases hg : gS S n with
  | none => exact Own.nil _ _ _ _
  | some b => exact h.rows n b hg (by simp)
theorem Mp.look_ok {w : World} {B bm : Nat} {S : Sgs} {V : VF} {x : Option Int} (h : Mp w B bm S V x) (n : Int) (hn : (Lit.int .i64 n).wf = true) :
    (Instr.lookup 59 (.map (some bm)) (.int .i64 n) true).run Tryz.prog w = .ok (.tuple #[.slice (lkA S V n) (gD S n).length (lkC S V n), .bool (gS S n).isSome]) w := by
  obtain ⟨D, m, ho, _, hh, ha⟩ := h.mp
  obtain ⟨v, ps, h1, h2⟩ := ho.look_ok lawI Tryz.underlying59 (zeroB w) (zd := .held (.slice none 0 0)) (zp := []) rfl (kn_key n hn)
  rw [hh n] at h1
  rw [h1]
  unfold lkA lkC gD
  cases hg : gS S n with
  | none =>
    rw [Maps.atKey_of_not_has (by rw [hh n, hg]; rfl)] at h2
    unfold RH at h2
    injection h2 with h2
    injection h2 with h2 _
    injection h2 with h2
    rw [h2]
    rfl
  | some b =>
    rw [ha n b hg] at h2
    unfold RH at h2
    injection h2 with h2
    injection h2 with h2 _
    injection h2 with h2
    rw [h2]
    rfl
theorem Mp.look {w : World} {B bm : Nat} {S : Sgs} {V : VF} {x : Option Int} (h : Mp w B bm S V x) (n : Int) (hn : (Lit.int .i64 n).wf = true) :
    (Instr.lookup 59 (.map (some bm)) (.int .i64 n) false).run Tryz.prog w = .ok (.slice (lkA S V n) (gD S n).length (lkC S V n)) w := by
  obtain ⟨D, m, ho, _, hh, ha⟩ := h.mp
  obtain ⟨v, ps, h1, h2⟩ := ho.lookup lawI Tryz.underlying59 (zeroB w) (zd := .held (.slice none 0 0)) (zp := []) rfl (kn_key n hn)
  rw [h1]
  unfold lkA lkC gD
  cases hg : gS S n with
  | none =>
    rw [Maps.atKey_of_not_has (by rw [hh n, hg]; rfl)] at h2
    unfold RH at h2
    injection h2 with h2
    injection h2 with h2 _
    injection h2 with h2
    rw [h2]
    rfl
  | some b =>
    rw [ha n b hg] at h2
    unfold RH at h2
    injection h2 with h2
    injection h2 with h2 _
    injection h2 with h2
    rw [h2]
    rfl
theorem ownsMap_tight {w : World} {b m : Nat} {D : DataW Value} (h : w.ownsMap Tryz.prog 3 RH b m D) : w.ownsMap Tryz.prog 3 RH b (Maps.size D) D := by
  obtain ⟨es, cl, h1, h2, _, rfl⟩ := h
  exact ⟨es, cl, h1, h2, by simp [Maps.size, length_sorted], rfl⟩
def setV (V : VF) (n : Int) (a : Option Addr) (c : Nat) : VF := fun k => if k = n then (a, c) else V k
theorem setV_same (V : VF) (n : Int) (a : Option Addr) (c : Nat) : setV V n a c n = (a, c) := if_pos rfl
theorem setV_other (V : VF) (n : Int) (a : Option Addr) (c : Nat) {k : Int} (h : k ≠ n) : setV V n a c k = V k := if_neg h
theorem Mp.store {w : World} {B bm : Nat} {S : Sgs} {V : VF} {n : Int} (h : Mp w B bm S V (some n)) (hl : S.length ≤ 1000) (hn : (Lit.int .i64 n).wf = true) {a : Option Addr} {c : Nat} {b : List Int} (ho : Own w B 5 1 a b.length c (u8L b))
    (hd : ∀ k, k ≠ n → (gS S k).isSome = true → ∀ g, a = some ⟨g, 0, none⟩ → (V k).1 ≠ some ⟨g, 0, none⟩) :
    ∃ w', (Instr.mapUpdate 59 (.map (some bm)) (.int .i64 n) (.slice a b.length c)).run Tryz.prog w = .ok () w' ∧ Mp w' B bm (pS S n b) (setV V n a c) none ∧ w.mapTurned w' bm := by
  obtain ⟨D1, m1, hm1, hs1, _⟩ := h.size
  obtain ⟨D, m, hm, hmm, hh, ha⟩ := h.mp
  have hD : D = D1 := by
    obtain ⟨e1, c1, a1, _, _, r1⟩ := hm
    obtain ⟨e2, c2, a2, _, _, r2⟩ := hm1
    rw [a1] at a2
    injection a2 with a2
    injection a2 with a2 _
    rw [r1, r2, a2]
  subst hD
  have hm2 := ownsMap_tight hm
  rw [hs1] at hm2
  obtain ⟨w', h1, h2, h3⟩ := hm2.store lawI Tryz.underlying59 (by unfold maxLen; omega) (kn_key n hn) (val := .slice a b.length c) (d := .held (.slice a b.length c)) (ps := []) rfl
  have hg := h3.grown
  have other : ∀ {k b'}, k ≠ n → gS (pS S n b) k = some b' → gS S k = some b' := fun {k b'} hk hb' => by
    rw [gS_put, if_neg hk] at hb'
    exact hb'
  have same : ∀ {b'}, gS (pS S n b) n = some b' → b' = b := fun {b'} hb' => by
    rw [gS_put, if_pos rfl] at hb'
    exact (Option.some.inj hb').symm
  have keep : ∀ g, g < w.heap.size → g ≠ bm → w'.heap[g]? = w.heap[g]? := fun g h4 h5 => hg.block g h4 (fun e => h5 (Option.some.inj e))
  refine ⟨w', h1, ⟨⟨_, _, h2, by omega, fun k => ?_, fun k b' hk z => ?_⟩, fun k b' hk _ => ?_, fun i j bi bj hij hi hj g hgi hgj => ?_, SS_put h.ss n b, h.bB⟩, h3⟩
  · by_cases e : k = n
    · subst e
      rw [has_put_same hm.isMap (kn_lit k hn), gS_put, if_pos rfl]
      rfl
    · rw [has_put_other (kn_ne e), gS_put, if_neg e]
      exact hh k
  · by_cases e : k = n
    · subst e
      rw [atKey_put_same hm.isMap (kn_lit k hn), same hk]
      unfold sv
      rw [setV_same]
    · rw [atKey_put_other (kn_ne e), ha k b' (other e hk)]
      unfold sv
      rw [setV_other _ _ _ _ e]
  · by_cases e : k = n
    · subst e
      rw [same hk, setV_same]
      exact ho.blocks fun g hgg => keep g (own_lt ho hgg).1 (ownsMap_not_own hm ho hgg)
    · rw [setV_other _ _ _ _ e]
      have hr := h.rows k b' (other e hk) (fun e2 => e (Option.some.inj e2).symm)
      exact hr.blocks fun g hgg => keep g (own_lt hr hgg).1 (ownsMap_not_own hm hr hgg)
  · by_cases ei : i = n
    · subst ei
      rw [setV_same] at hgi
      rw [setV_other _ _ _ _ (fun e => hij e.symm)] at hgj
      exact hd j (fun e => hij e.symm) (by rw [other (fun e => hij e.symm) hj]; rfl) g hgi hgj
    · rw [setV_other _ _ _ _ ei] at hgi
      by_cases ej : j = n
      · subst ej
        rw [setV_same] at hgj
        exact hd i ei (by rw [other ei hi]; rfl) g hgj hgi
      · rw [setV_other _ _ _ _ ej] at hgj
        exact h.ne i j bi bj hij (other ei hi) (other ej hj) g hgi hgj
theorem Mp.off {w : World} {B bm k : Nat} {S : Sgs} {V : VF} {x : Option Int} {cs : Array Value} {t : TypeId} {z : Nat × Nat} (h : Mp w B bm S V x) (hk : w.heap[k]? = some (.cells cs t z)) (ht : t ≠ 5) : ¬ MineM bm S V x k := fun hm => by
  rcases hm with hm | ⟨n, b, hn, hx, e⟩
  · obtain ⟨D, m, ho, _⟩ := h.mp
    obtain ⟨es, cl, h1, _⟩ := ho
    rw [hm] at hk
    exact map_not_cells h1 hk
  · have ho := h.rows n b hn hx
    rw [e] at ho
    obtain ⟨cur, hc, _⟩ := ho.block
    rw [hc] at hk
    injection hk with hk
    injection hk with _ h2 _
    exact ht h2.symm
theorem Mp.put_row {w2 w3 : World} {B bm : Nat} {S : Sgs} {V : VF} {n : Int} (h : Mp w2 B bm S V none) (hl : S.length ≤ 1000) (hn : (Lit.int .i64 n).wf = true) {a : Option Addr} {c : Nat} {b : List Int} (q1 : Own w3 B 5 1 a b.length c (u8L b))
    (q2 : w2.grownBy w3 ((lkA S V n).map (·.block))) (q4 : ∀ g, a = some ⟨g, 0, none⟩ → (lkA S V n).map (·.block) = some g ∨ w2.heap.size ≤ g) :
    ∃ w', (Instr.mapUpdate 59 (.map (some bm)) (.int .i64 n) (.slice a b.length c)).run Tryz.prog w3 = .ok () w' ∧ Mp w' B bm (pS S n b) (setV V n a c) none ∧ w3.mapTurned w' bm := by
  have hlk : ∀ k, (lkA S V n).map (·.block) = some k → (gS S n).isSome = true ∧ (V n).1 = some ⟨k, 0, none⟩ := fun k hk => by
    unfold lkA at hk
    split at hk
    · rename_i hs
      refine ⟨hs, ?_⟩
      obtain ⟨b', hb'⟩ := Option.isSome_iff_exists.1 hs
      rcases (h.rows n b' hb' (by simp)).form with ⟨e, _⟩ | ⟨g, e, _⟩
      · rw [e] at hk; cases hk
      · rw [e] at hk ⊢
        exact congrArg (fun x => some (⟨x, 0, none⟩ : Addr)) (Option.some.inj hk)
    · cases hk
  refine (h.grown q2 hlk).store hl hn q1 fun k hk hs g hg hv => ?_
  obtain ⟨b', hb'⟩ := Option.isSome_iff_exists.1 hs
  rcases q4 g hg with h5 | h5
  · obtain ⟨h6, h7⟩ := hlk g h5
    obtain ⟨b2, hb2⟩ := Option.isSome_iff_exists.1 h6
    exact h.ne n k b2 b' (fun e => hk e.symm) hb2 hb' g h7 hv
  · have := (own_lt (h.rows k b' hb' (by simp)) hv).1
    omega
/-- Pieces as cells. -/
def pcL (p : Int × Nat) : List Value := [.int .i64 p.1, .int .i64 (p.2 : Int)]
def pcC (u : Pcs) : List Value := u.flatMap pcL
theorem pcC_app (a b : Pcs) : pcC (a ++ b) = pcC a ++ pcC b := by unfold pcC; rw [List.flatMap_append]
theorem pcC_len (u : Pcs) : (pcC u).length = u.length * 2 := by
  induction u with
  | nil => rfl
  | cons p t ih =>
    show (pcL p ++ pcC t).length = _
    rw [List.length_append, ih, List.length_cons]
    show 2 + _ = _
    omega
theorem pcC_get {u : Pcs} {i : Nat} {p : Int × Nat} (h : u[i]? = some p) : (pcC u)[i * 2]? = some (.int .i64 p.1) ∧ (pcC u)[i * 2 + 1]? = some (.int .i64 (p.2 : Int)) := by
  induction u generalizing i with
  | nil => simp at h
  | cons q t ih =>
    have e : pcC (q :: t) = .int .i64 q.1 :: .int .i64 (q.2 : Int) :: pcC t := rfl
    rw [e]
    cases i with
    | zero =>
      have := Option.some.inj (by simpa using h)
      subst this
      exact ⟨rfl, rfl⟩
    | succ j =>
      obtain ⟨h1, h2⟩ := ih (i := j) (by simpa using h)
      rw [show (j + 1) * 2 = j * 2 + 1 + 1 by omega]
      exact ⟨by simpa using h1, by simpa using h2⟩
/-- A disk. -/
structure Dm (w : World) (B d bm : Nat) (S : Sgs) (V : VF) (ua : Option Addr) (uc : Nat) (un : Pcs) (most beh fal : Int) : Prop where
  box : Box w d #[.int .i64 most, .map (some bm), .slice ua un.length uc, .int .i64 beh, .int .i64 fal] 62
  mp : Mp w B bm S V none
  own : Own w B 89 2 ua un.length uc (pcC un)
  un_ok : UN S un
  dB : B ≤ d
  behB : beh ≤ 9223372036854775807
  falB : fal ≤ 9223372036854775807
  mo : most ≤ 16
  cnt : S.length ≤ 16
  seg : ∀ n, (gD S n).length ≤ 2048
  kw : ∀ n, (gS S n).isSome = true → (Lit.int .i64 n).wf = true
theorem Dm.later {w w' : World} {B d bm uc : Nat} {S : Sgs} {V : VF} {ua : Option Addr} {un : Pcs} {most beh fal : Int} (h : Dm w B d bm S V ua uc un most beh fal) (hb : Below w.heap.size w w') : Dm w' B d bm S V ua uc un most beh fal :=
  ⟨h.box.later hb, h.mp.later hb, h.own.later hb, h.un_ok, h.dB, h.behB, h.falB, h.mo, h.cnt, h.seg, h.kw⟩
def MineD (d bm : Nat) (S : Sgs) (V : VF) (ua : Option Addr) (k : Nat) : Prop := k = d ∨ MineM bm S V none k ∨ ua = some ⟨k, 0, none⟩
/-- What a disk's function does to the world. -/
def TurnD (d bm : Nat) (S : Sgs) (V : VF) (ua : Option Addr) (w : World) (S' : Sgs) (V' : VF) (ua' : Option Addr) (w' : World) : Prop := Only (MineD d bm S V ua) w w' ∧ ∀ k, MineD d bm S' V' ua' k → MineD d bm S V ua k ∨ w.heap.size ≤ k
theorem Dm.mine {w : World} {B d bm uc : Nat} {S : Sgs} {V : VF} {ua : Option Addr} {un : Pcs} {most beh fal : Int} (h : Dm w B d bm S V ua uc un most beh fal) {k : Nat} (hk : MineD d bm S V ua k) : k < w.heap.size ∧ B ≤ k := by
  rcases hk with hk | hk | hk
  · rw [hk]; exact ⟨h.box.lt, h.dB⟩
  · exact h.mp.mine_lt hk
  · exact own_lt h.own hk
theorem Dm.turn {w w' : World} {B d bm uc : Nat} {S S' : Sgs} {V V' : VF} {ua ua' : Option Addr} {un : Pcs} {most beh fal : Int} (h : Dm w B d bm S V ua uc un most beh fal) (ht : TurnD d bm S V ua w S' V' ua' w') (hB : B ≤ w.heap.size) : Below B w w' :=
  ht.1.below hB fun k hk => (h.mine hk).2
/-- What a disk is behind a call. -/
def AftD (B d bm : Nat) (S : Sgs) (V : VF) (ua : Option Addr) (w : World) (S' : Sgs) (un' : Pcs) (most beh' fal' : Int) (w' : World) : Prop := ∃ V' ua' uc', Dm w' B d bm S' V' ua' uc' un' most beh' fal' ∧ TurnD d bm S V ua w S' V' ua' w'
theorem TurnD.refl {d bm : Nat} {S : Sgs} {V : VF} {ua : Option Addr} {w w' : World} (h : Below w.heap.size w w') : TurnD d bm S V ua w S V ua w' := ⟨Only.of_below _ h, fun k hk => Or.inl hk⟩
theorem TurnD.trans {d bm : Nat} {S S1 S2 : Sgs} {V V1 V2 : VF} {ua u1 u2 : Option Addr} {w w1 w2 : World} (h : TurnD d bm S V ua w S1 V1 u1 w1) (k : TurnD d bm S1 V1 u1 w1 S2 V2 u2 w2) : TurnD d bm S V ua w S2 V2 u2 w2 :=
  ⟨h.1.trans k.1 h.2, fun x hx => by
    rcases k.2 x hx with h2 | h2
    · exact h.2 x h2
    · exact Or.inr (Nat.le_trans h.1.size h2)⟩
end Go.Proofs.YteinblpkcpjpnaaGreatDoor
/- Package disk: the functions that read, and those that write no bytes. -/
namespace Go.Proofs.YteinblpkcpjpnaaGreatDoor
open Go Go.RowKit Go.Maps
set_option linter.unusedVariables false
set_option linter.unusedSimpArgs false
set_option maxRecDepth 10000

def wfB (beh fal : Int) : Bool := !decide (0 < beh) && decide (0 < fal)
def wfH (beh : Int) : Int := if 0 < beh then beh - 1 else beh
def wfF (beh fal : Int) : Int := if 0 < beh then fal else if 0 < fal then fal - 1 else fal
section
variable {w : World} {B d bm uc : Nat} {S : Sgs} {V : VF} {ua : Option Addr} {un : Pcs} {most beh fal : Int}
/-- One of a disk's own cells is written. -/
theorem Dm.cells (h : Dm w B d bm S V ua uc un most beh fal) {w' : World} {ua' : Option Addr} {uc' : Nat} {un' : Pcs} {beh' fal' : Int} (hb : Box w' d #[.int .i64 most, .map (some bm), .slice ua' un'.length uc', .int .i64 beh', .int .i64 fal'] 62)
    (ho : Only (fun k => k = d) w w') (hu : UN S un') (hown : (ua' = ua ∧ uc' = uc ∧ un' = un) ∨ (ua' = none ∧ uc' = 0 ∧ un' = [])) (h1 : beh' ≤ 9223372036854775807) (h2 : fal' ≤ 9223372036854775807) :
    Dm w' B d bm S V ua' uc' un' most beh' fal' ∧ TurnD d bm S V ua w S V ua' w' := by
  have hmp : Mp w' B bm S V none := h.mp.blocks fun k hk => ho.block k (h.mp.mine_lt hk).1 (fun e => h.mp.off (k := d) (cs := _) (t := 62) (z := (0, 0)) h.box (by decide) (e ▸ hk))
  have hO : Only (MineD d bm S V ua) w w' := ⟨ho.os, ho.tape, ho.output, ho.size, fun k hk hne => ho.block k hk fun e => hne (Or.inl e)⟩
  rcases hown with ⟨rfl, rfl, rfl⟩ | ⟨rfl, rfl, rfl⟩
  · exact ⟨⟨hb, hmp, h.own.only ho (fun g hg e => by have h9 := h.own; rw [hg] at h9; exact own_not_box h9 h.box (by decide) e), hu, h.dB, h1, h2, h.mo, h.cnt, h.seg, h.kw⟩, hO, fun k hk => Or.inl hk⟩
  · refine ⟨⟨hb, hmp, Own.nil _ _ _ _, hu, h.dB, h1, h2, h.mo, h.cnt, h.seg, h.kw⟩, hO, fun k hk => Or.inl ?_⟩
    rcases hk with hk | hk | hk
    · exact Or.inl hk
    · exact Or.inr (Or.inl hk)
    · cases hk
theorem wf_at (h : Dm w B d bm S V ua uc un most beh fal) : Calls Tryz.prog 59 #[.pointer (some ⟨d, 0, none⟩)] w fun e w' => e = .returned (.bool (wfB beh fal)) ∧ Dm w' B d bm S V ua uc un most (wfH beh) (wfF beh fal) ∧ TurnD d bm S V ua w S V ua w' := by
  have H := Lib.hid h
  have BX := Lib.hid h.box
  have c3 := h.box.cell 3
  have c4 := h.box.cell 4
  have f3 := h.box.free 3
  have f4 := h.box.free 4
  have ld := h.box.lt
  have hb := h.behB
  have hf := h.falB
  clear h
  unfold wfB wfH wfF
  by_cases h1 : 0 < beh
  · have d1 : decide (0 < beh) = true := decide_eq_true h1
    rw [if_pos h1, if_pos h1, d1]
    have hw : IntKind.i64.wrap (beh - 1) = beh - 1 := IntWalk.i64_in _ (by omega)
    have FIN := Lib.hid (H.out.cells (w' := w.setCell ⟨d, 3, none⟩ (.int .i64 (beh - 1))) (beh' := beh - 1) (fal' := fal) (BX.out.set 3 _) ((Only.refl (fun k => k = d) _).setCell (Or.inl rfl) _) H.out.un_ok (Or.inl ⟨rfl, rfl, rfl⟩) (by omega) hf)
    go_enter Tryz.func59, Tryz.ntmps59
    go_wp2
    go_ret
    exact ⟨rfl, FIN.out⟩
  · have d1 : decide (0 < beh) = false := decide_eq_false h1
    rw [if_neg h1, if_neg h1, d1]
    by_cases h2 : 0 < fal
    · have d2 : decide (0 < fal) = true := decide_eq_true h2
      rw [if_pos h2, d2]
      have hw : IntKind.i64.wrap (fal - 1) = fal - 1 := IntWalk.i64_in _ (by omega)
      have FIN := Lib.hid (H.out.cells (w' := w.setCell ⟨d, 4, none⟩ (.int .i64 (fal - 1))) (beh' := beh) (fal' := fal - 1) (BX.out.set 4 _) ((Only.refl (fun k => k = d) _).setCell (Or.inl rfl) _) H.out.un_ok (Or.inl ⟨rfl, rfl, rfl⟩) hb (by omega))
      go_enter Tryz.func59, Tryz.ntmps59
      go_wp2
      go_ret
      exact ⟨rfl, FIN.out⟩
    · have d2 : decide (0 < fal) = false := decide_eq_false h2
      rw [if_neg h2, d2]
      go_enter Tryz.func59, Tryz.ntmps59
      go_wp2
      go_ret
      exact ⟨rfl, H.out, TurnD.refl (Below.refl _ _)⟩
theorem sync_at (h : Dm w B d bm S V ua uc un most beh fal) : Calls Tryz.prog 47 #[.pointer (some ⟨d, 0, none⟩)] w fun e w' => e = .returned (.int .i64 (if wfB beh fal then 7 else 0)) ∧ AftD B d bm S V ua w S (if wfB beh fal then un else []) most (wfH beh) (wfF beh fal) w' := by
  have WF := Lib.hid (wf_at h)
  clear h
  obtain ⟨b, hb⟩ : ∃ b, wfB beh fal = b := ⟨_, rfl⟩
  rw [hb] at WF ⊢
  clear hb
  go_enter Tryz.func47, Tryz.ntmps47
  cases b with
  | true =>
    go_wp2_with fail
    refine WF.out.mono ?_
    rintro e w1 ⟨rfl, D1, T1⟩
    have D := Lib.hid D1
    have T := Lib.hid T1
    clear D1 T1 WF
    go_wp2
    go_ret
    exact ⟨rfl, V, ua, uc, D.out, T.out⟩
  | false =>
    go_wp2_with fail
    refine WF.out.mono ?_
    rintro e w1 ⟨rfl, D1, T1⟩
    have c2 := D1.box.cell 2
    have f2 := D1.box.free 2
    have ld := D1.box.lt
    have FIN := Lib.hid (D1.cells (w' := w1.setCell ⟨d, 2, none⟩ (.slice none 0 0)) (ua' := none) (uc' := 0) (un' := []) (D1.box.set 2 _) ((Only.refl (fun k => k = d) _).setCell (Or.inl rfl) _) (UN.nil _) (Or.inr ⟨rfl, rfl, rfl⟩) D1.behB D1.falB)
    have T := Lib.hid T1
    clear D1 T1 WF
    go_wp2
    go_ret
    exact ⟨rfl, V, none, 0, FIN.out.1, T.out.trans FIN.out.2⟩
theorem fault_at (h : Dm w B d bm S V ua uc un most beh fal) (x y : Int) (hx : x ≤ 9223372036854775807) (hy : y ≤ 9223372036854775807) : Calls Tryz.prog 17 #[.pointer (some ⟨d, 0, none⟩), .int .i64 x, .int .i64 y] w fun e w' => e = .returned (.tuple #[]) ∧ Dm w' B d bm S V ua uc un most x y ∧ TurnD d bm S V ua w S V ua w' := by
  have c3 := h.box.cell 3
  have c4 := h.box.cell 4
  have f3 := h.box.free 3
  have f4 := h.box.free 4
  have ld := h.box.lt
  have FIN := Lib.hid (h.cells (w' := (w.setCell ⟨d, 3, none⟩ (.int .i64 x)).setCell ⟨d, 4, none⟩ (.int .i64 y)) (beh' := x) (fal' := y) ((h.box.set 3 _).set 4 _) (((Only.refl (fun k => k = d) _).setCell (Or.inl rfl) _).setCell (Or.inl rfl) _) h.un_ok (Or.inl ⟨rfl, rfl, rfl⟩) hx hy)
  have g4 : (w.setCell ⟨d, 3, none⟩ (.int .i64 x)).frozen? ⟨d, 4, none⟩ = false := (h.box.set 3 _).free 4
  clear h
  go_enter Tryz.func17, Tryz.ntmps17
  go_wp2
  exact bodyPost_end (v := .tuple #[]) (by simp [results, Tryz.results17, go_sem]) rfl ⟨rfl, FIN.out⟩
theorem minI (x : Int) : min x 16 = if x < 16 then x else 16 := by
  split <;> omega
def moI (x : Int) : Int := max 0 (min x 16)
theorem dnew_at (x : Int) (w : World) (B : Nat) (hB : B ≤ w.heap.size) : Calls Tryz.prog 8 #[.int .i64 x] w fun e w' => e = .returned (.pointer (some ⟨w.heap.size + 1, 0, none⟩)) ∧ Dm w' B (w.heap.size + 1) w.heap.size [] (fun _ => (none, 0)) none 0 [] (moI x) 0 0 ∧ Below w.heap.size w w' := by
  have hmm := @run_makeMap Tryz.prog
  have W1 := World.ownsMap_made w Tryz.prog 3 RH
  obtain ⟨w1, hw1⟩ : ∃ W, w.alloc (.map #[] 0) = W := ⟨_, rfl⟩
  have B1 : Below w.heap.size w w1 := by rw [← hw1]; exact (Below.refl _ _).alloc (Nat.le_refl _) _
  have sz : w1.heap.size = w.heap.size + 1 := by rw [← hw1]; simp
  rw [hw1] at W1
  obtain ⟨m, hm⟩ : ∃ m, moI x = m := ⟨_, rfl⟩
  have FIN : Hid (Dm (w1.alloc (.cells #[.int .i64 m, .map (some w.heap.size), .slice none 0 0, .int .i64 0, .int .i64 0] 62)) B (w.heap.size + 1) w.heap.size [] (fun _ => (none, 0)) none 0 [] m 0 0 ∧ Below w.heap.size w (w1.alloc (.cells #[.int .i64 m, .map (some w.heap.size), .slice none 0 0, .int .i64 0, .int .i64 0] 62))) := Lib.hid (by
    have hbx := Box.new w1 #[.int .i64 m, .map (some w.heap.size), .slice none 0 0, .int .i64 0, .int .i64 0] 62
    rw [sz] at hbx
    refine ⟨⟨hbx, ⟨⟨_, 0, W1.alloc _, by omega, fun n => rfl, fun n b hn => (by cases hn)⟩, fun n b hn => (by cases hn), fun n m b c _ hn => (by cases hn), List.Pairwise.nil, hB⟩, Own.nil _ _ _ _, UN.nil _, by omega, by omega, by omega, by rw [← hm]; unfold moI; omega, Nat.zero_le _, fun n => Nat.zero_le _, fun n hn => (by cases hn)⟩, B1.alloc (by omega) _⟩)
  rw [hm]
  unfold moI at hm
  clear W1 B1
  go_enter Tryz.func8, Tryz.ntmps8
  go_wp2
  · obtain rfl : m = 16 := by omega
    go_ret
    exact ⟨rfl, FIN.out⟩
  · obtain rfl : m = x := by omega
    go_ret
    exact ⟨rfl, FIN.out⟩
  · obtain rfl : m = 0 := by omega
    go_ret
    exact ⟨rfl, FIN.out⟩
end
end Go.Proofs.YteinblpkcpjpnaaGreatDoor
