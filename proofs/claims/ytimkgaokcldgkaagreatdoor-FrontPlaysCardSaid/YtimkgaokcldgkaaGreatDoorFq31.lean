/- Part of a chain: FnMem, FnFn. -/
import Derived.Test.YtimkgaokcldgkaaGreatDoorFq04
import Derived.Test.YtimkgaokcldgkaaGreatDoorFq12
import Derived.Test.YtimkgaokcldgkaaGreatDoorFq13
import Derived.Test.YtimkgaokcldgkaaGreatDoorFq18
import Derived.Test.YtimkgaokcldgkaaGreatDoorFq27
/- Package front: what a Front is in memory: three maps, a queue for each host, each with the blocks that are its own. -/
namespace Go.Proofs.YtimkgaokcldgkaaGreatDoor
open Go Go.RowKit Go.Maps
set_option linter.unusedVariables false
set_option linter.unusedSimpArgs false
set_option maxRecDepth 10000

def qV (q : Nat) : Value := .pointer (some ⟨q, 0, none⟩)
def txV (p : ByteArray) : Value := .agg #[.string p]
theorem tyQ : MTy Tryz.prog 71 3 86 knI (Value.int .i64) okI (.pointer none) where
  und := Tryz.underlying71
  key := int_keyed Tryz.underlying3
  inj := fun a b h => by unfold knI at h; injection h
  isl := fun k _ => by unfold knI WideAt.IsKeyLit; trivial
  kof := fun k h => keyOf_int_mk Tryz.underlying3 h
  onto := fun v l h => by
    obtain ⟨x, _, e, h2⟩ := Maps.keyOf_i64 Tryz.underlying3 h
    exact ⟨x, h2, e.symm⟩
  zer := fun w => by kernel_rfl
theorem tyH : MTy Tryz.prog 72 3 3 knI (Value.int .i64) okI (.int .i64 0) where
  und := Tryz.underlying72
  key := int_keyed Tryz.underlying3
  inj := fun a b h => by unfold knI at h; injection h
  isl := fun k _ => by unfold knI WideAt.IsKeyLit; trivial
  kof := fun k h => keyOf_int_mk Tryz.underlying3 h
  onto := fun v l h => by
    obtain ⟨x, _, e, h2⟩ := Maps.keyOf_i64 Tryz.underlying3 h
    exact ⟨x, h2, e.symm⟩
  zer := fun w => by kernel_rfl
theorem tyX : MTy Tryz.prog 73 3 111 knI (Value.int .i64) okI (txV ⟨#[]⟩) where
  und := Tryz.underlying73
  key := int_keyed Tryz.underlying3
  inj := fun a b h => by unfold knI at h; injection h
  isl := fun k _ => by unfold knI WideAt.IsKeyLit; trivial
  kof := fun k h => keyOf_int_mk Tryz.underlying3 h
  onto := fun v l h => by
    obtain ⟨x, _, e, h2⟩ := Maps.keyOf_i64 Tryz.underlying3 h
    exact ⟨x, h2, e.symm⟩
  zer := fun w => by kernel_rfl
abbrev QmM (w : World) (m : Nat) (S : List (Int × Nat)) : Prop := Am Tryz.prog 3 knI okI qV w m S
abbrev HmM (w : World) (m : Nat) (S : List (Int × Int)) : Prop := Am Tryz.prog 3 knI okI (Value.int .i64) w m S
abbrev XmM (w : World) (m : Nat) (S : List (Int × ByteArray)) : Prop := Am Tryz.prog 3 knI okI txV w m S
def bxF (F : Ft) (L qm hm pm : Nat) : Array Value := #[.int .i64 F.per, .int .i64 F.mem, .pointer (some ⟨L, 0, none⟩), .map (some qm), .map (some hm), .map (some pm)]
/-- A Front, part by part. -/
structure FtC (w : World) (RF : Nat → Prop) (f L N : Nat) (F : Ft) (qm hm pm : Nat) (S : List (Int × Nat)) (A : Int → Option Addr) (C : Int → Nat) : Prop where
  box : Box w f (bxF F L qm hm pm) 75
  qs : QmM w qm S
  hs : HmM w hm F.hs
  ps : XmM w pm F.ps
  each : ∀ h q, gA S h = some q → Qm w 0 q (A h) (C h) (F.R h) F.per
  emp : ∀ h, gA S h = none → F.R h = []
  d1 : qm ≠ hm
  d2 : hm ≠ pm
  d3 : qm ≠ pm
  inj : ∀ h1 h2 q, gA S h1 = some q → gA S h2 = some q → h1 = h2
  rows : ∀ h1 h2 q1 q2 k, gA S h1 = some q1 → gA S h2 = some q2 → A h1 = some ⟨k, 0, none⟩ → A h2 = some ⟨k, 0, none⟩ → h1 = h2
  mf : RF f
  mq : RF qm
  mh : RF hm
  mp : RF pm
  mine : ∀ h q k, gA S h = some q → MineQ q (A h) k → RF k
  sl : S.length ≤ N
  hl : F.hs.length ≤ N
  pl : F.ps.length ≤ N
  rl : ∀ h, (F.R h).length ≤ N
  lt : ∀ k, RF k → k < w.heap.size
structure FtM (w : World) (RF : Nat → Prop) (f L N : Nat) (F : Ft) : Prop where
  mm : ∃ qm hm pm S A C, FtC w RF f L N F qm hm pm S A C
  ok : FtOk F
def AftF (RF : Nat → Prop) (f L N : Nat) (w : World) (F' : Ft) (w' : World) : Prop := ∃ RF', FtM w' RF' f L N F' ∧ TurnR RF w RF' w'
section
variable {w w' : World} {RF : Nat → Prop} {f L N : Nat} {F : Ft} {qm hm pm : Nat} {S : List (Int × Nat)} {A : Int → Option Addr} {C : Int → Nat}
theorem Qm.block {q cap : Nat} {a : Option Addr} {rs : List Rq} {most : Int} (h : Qm w 0 q a cap rs most) (hb : ∀ k, MineQ q a k → w'.heap[k]? = w.heap[k]?) : Qm w' 0 q a cap rs most :=
  ⟨(hb q (Or.inl rfl)).trans h.box, h.own.blocks fun g e => hb g (Or.inr e), h.qB⟩
theorem FtC.keep (h : FtC w RF f L N F qm hm pm S A C) (hsz : w.heap.size ≤ w'.heap.size) (hb : ∀ k, RF k → w'.heap[k]? = w.heap[k]?) : FtC w' RF f L N F qm hm pm S A C :=
  { h with
    box := (hb f h.mf).trans h.box
    qs := h.qs.block (hb qm h.mq)
    hs := h.hs.block (hb hm h.mh)
    ps := h.ps.block (hb pm h.mp)
    each := fun k q hq => (h.each k q hq).block fun j hj => hb j (h.mine k q j hq hj)
    lt := fun k hk => Nat.lt_of_lt_of_le (h.lt k hk) hsz }
theorem FtM.keep (h : FtM w RF f L N F) (hs : w.heap.size ≤ w'.heap.size) (hb : ∀ k, RF k → w'.heap[k]? = w.heap[k]?) : FtM w' RF f L N F := by
  obtain ⟨qm, hm, pm, S, A, C, hc⟩ := h.mm
  exact ⟨⟨qm, hm, pm, S, A, C, hc.keep hs hb⟩, h.ok⟩
theorem FtM.lt (h : FtM w RF f L N F) {k : Nat} (hk : RF k) : k < w.heap.size := by
  obtain ⟨qm, hm, pm, S, A, C, hc⟩ := h.mm
  exact hc.lt k hk
theorem FtM.later (h : FtM w RF f L N F) (hb : Below w.heap.size w w') : FtM w' RF f L N F := h.keep hb.size fun k hk => hb.block k (h.lt hk)
theorem FtM.only {R2 : Nat → Prop} (h : FtM w RF f L N F) (ho : Only R2 w w') (ha : ∀ k, RF k → ¬ R2 k) : FtM w' RF f L N F := h.keep ho.size fun k hk => ho.block k (h.lt hk) (ha k hk)
theorem FtM.mono {M : Nat} (h : FtM w RF f L N F) (hm : N ≤ M) : FtM w RF f L M F := by
  obtain ⟨q1, q2, q3, S, A, C, hc⟩ := h.mm
  exact ⟨⟨q1, q2, q3, S, A, C, { hc with sl := Nat.le_trans hc.sl hm, hl := Nat.le_trans hc.hl hm, pl := Nat.le_trans hc.pl hm, rl := fun k => Nat.le_trans (hc.rl k) hm }⟩, h.ok⟩
theorem FtC.okh (h : FtC w RF f L N F qm hm pm S A C) {id k : Int} (hk : gA F.hs id = some k) : okI id := by
  obtain ⟨q, hq, e⟩ := List.mem_map.1 (gA_keys.2 (by rw [hk]; rfl : (gA F.hs id).isSome = true))
  rw [← e]
  exact h.hs.kk q hq
theorem box_fun {k : Nat} {c1 c2 : Array Value} {t1 t2 : TypeId} (h1 : Box w k c1 t1) (h2 : Box w k c2 t2) (hne : t1 ≠ t2) : False := by
  have e1 : w.heap[k]? = some (.cells c1 t1 (0, 0)) := h1
  rw [show w.heap[k]? = _ from h2] at e1
  injection e1 with e1
  injection e1 with _ e _
  exact hne e.symm
theorem am_not_own {kt : TypeId} {κ α : Type} [DecidableEq κ] {lit : κ → Lit} {ok : κ → Prop} {val : α → Value} {bm g B size n cap : Nat} {T : List (κ × α)} {E : TypeId} {xs : List Value} (h : Am Tryz.prog kt lit ok val w bm T) (k : Own w B E size (some ⟨g, 0, none⟩) n cap xs) : bm ≠ g := fun e => by
  obtain ⟨D, m, ⟨es, cl, hm, _⟩, _⟩ := h.mp
  obtain ⟨cur, hg, _⟩ := k.block
  rw [← e, hm] at hg
  cases hg
/-- A queue's blocks are no map, and not the Front's own. -/
theorem FtC.mineNe (h : FtC w RF f L N F qm hm pm S A C) {k : Int} {q j : Nat} (hq : gA S k = some q) (hj : MineQ q (A k) j) : j ≠ f ∧ j ≠ qm ∧ j ≠ hm ∧ j ≠ pm := by
  have hk := h.each k q hq
  rcases hj with rfl | hj
  · exact ⟨fun e => by subst e; exact box_fun h.box hk.box (by decide), (am_not_box h.qs hk.box).symm, (am_not_box h.hs hk.box).symm, (am_not_box h.ps hk.box).symm⟩
  · have ho := hk.own
    rw [hj] at ho
    exact ⟨own_not_box5 ho h.box (by decide), (am_not_own h.qs ho).symm, (am_not_own h.hs ho).symm, (am_not_own h.ps ho).symm⟩
/-- Two queues have no block in common. -/
theorem FtC.apart (h : FtC w RF f L N F qm hm pm S A C) {k1 k2 : Int} {q1 q2 j : Nat} (h1 : gA S k1 = some q1) (h2 : gA S k2 = some q2) (m1 : MineQ q1 (A k1) j) (m2 : MineQ q2 (A k2) j) : k1 = k2 := by
  have c1 := h.each k1 q1 h1
  have c2 := h.each k2 q2 h2
  rcases m1 with rfl | m1
  · rcases m2 with e | m2
    · subst e; exact h.inj _ _ _ h1 h2
    · have ho := c2.own
      rw [m2] at ho
      exact absurd rfl (own_not_box5 ho c1.box (by decide))
  · rcases m2 with rfl | m2
    · have ho := c1.own
      rw [m1] at ho
      exact absurd rfl (own_not_box5 ho c2.box (by decide))
    · exact h.rows _ _ _ _ _ h1 h2 m1 m2
theorem FtC.later (h : FtC w RF f L N F qm hm pm S A C) (hb : Below w.heap.size w w') : FtC w' RF f L N F qm hm pm S A C := h.keep hb.size fun k hk => hb.block k (h.lt k hk)
theorem FtC.mono {M : Nat} (h : FtC w RF f L N F qm hm pm S A C) (hnm : N ≤ M) : FtC w RF f L M F qm hm pm S A C :=
  { h with sl := Nat.le_trans h.sl hnm, hl := Nat.le_trans h.hl hnm, pl := Nat.le_trans h.pl hnm, rl := fun k => Nat.le_trans (h.rl k) hnm }
theorem turned_blk {m k : Nat} (h : w.mapTurned w' m) (hk : k < w.heap.size) (hne : k ≠ m) : w'.heap[k]? = w.heap[k]? := h.grown.block k hk (fun e => hne (Option.some.inj e))
theorem turned_size {m : Nat} (h : w.mapTurned w' m) : w'.heap.size = w.heap.size := by
  obtain ⟨a, b, c, d, _, rfl⟩ := h
  simp [Go.ChangeMaps.setBlock]
theorem turned_only {m : Nat} {R : Nat → Prop} (h : w.mapTurned w' m) (hm : R m) : Only R w w' := Only.of_grown h.grown (fun k e => by cases e; exact hm)
/-- The hosts of requests are written. -/
theorem FtC.hsU (h : FtC w RF f L N F qm hm pm S A C) {T : List (Int × Int)} (ht : w.mapTurned w' hm) (hT : HmM w' hm T) (hl : T.length ≤ N) : FtC w' RF f L N ⟨F.per, F.mem, F.R, T, F.ps⟩ qm hm pm S A C :=
  { box := (turned_blk ht h.box.lt (fun e => am_not_box h.hs h.box e.symm)).trans h.box
    qs := h.qs.block (turned_blk ht h.qs.lt h.d1)
    hs := hT
    ps := h.ps.block (turned_blk ht h.ps.lt h.d2.symm)
    each := fun k q hq => (h.each k q hq).block fun j hj => turned_blk ht (h.lt j (h.mine k q j hq hj)) (h.mineNe hq hj).2.2.1
    emp := h.emp, d1 := h.d1, d2 := h.d2, d3 := h.d3, inj := h.inj, rows := h.rows, mf := h.mf, mq := h.mq, mh := h.mh, mp := h.mp, mine := h.mine, sl := h.sl, hl := hl, pl := h.pl, rl := h.rl
    lt := fun k hk => by rw [turned_size ht]; exact h.lt k hk }
/-- The Paths in memory are written. -/
theorem FtC.psU (h : FtC w RF f L N F qm hm pm S A C) {T : List (Int × ByteArray)} (ht : w.mapTurned w' pm) (hT : XmM w' pm T) (hl : T.length ≤ N) : FtC w' RF f L N ⟨F.per, F.mem, F.R, F.hs, T⟩ qm hm pm S A C :=
  { box := (turned_blk ht h.box.lt (fun e => am_not_box h.ps h.box e.symm)).trans h.box
    qs := h.qs.block (turned_blk ht h.qs.lt h.d3)
    hs := h.hs.block (turned_blk ht h.hs.lt h.d2)
    ps := hT
    each := fun k q hq => (h.each k q hq).block fun j hj => turned_blk ht (h.lt j (h.mine k q j hq hj)) (h.mineNe hq hj).2.2.2
    emp := h.emp, d1 := h.d1, d2 := h.d2, d3 := h.d3, inj := h.inj, rows := h.rows, mf := h.mf, mq := h.mq, mh := h.mh, mp := h.mp, mine := h.mine, sl := h.sl, hl := h.hl, pl := hl, rl := h.rl
    lt := fun k hk => by rw [turned_size ht]; exact h.lt k hk }
def upd {α : Type} (A : Int → α) (h : Int) (a : α) : Int → α := fun k => if k = h then a else A k
theorem upd_eq {α : Type} (A : Int → α) (h : Int) (a : α) : upd A h a h = a := if_pos rfl
theorem upd_ne {α : Type} (A : Int → α) {h k : Int} (a : α) (hk : k ≠ h) : upd A h a k = A k := if_neg hk
/-- A host gets a queue that holds nothing. -/
theorem FtC.qsNew (h : FtC w RF f L N F qm hm pm S A C) {x : Int} {q : Nat} (hx : gA S x = none) (hq : Qm w 0 q none 0 [] F.per) (hn : ¬ RF q) (ht : w.mapTurned w' qm) (hT : QmM w' qm (pA S x q)) :
    FtC w' (fun k => RF k ∨ k = q) f L (N + 1) F qm hm pm (pA S x q) (upd A x none) (upd C x 0) := by
  have hqm : q ≠ qm := fun e => hn (e ▸ h.mq)
  have old : ∀ {k q2}, gA (pA S x q) k = some q2 → (k = x ∧ q2 = q) ∨ (k ≠ x ∧ gA S k = some q2) := fun {k q2} hk => by
    rw [gA_put] at hk
    by_cases e : k = x
    · rw [if_pos e] at hk; injection hk with hk; exact Or.inl ⟨e, hk.symm⟩
    · rw [if_neg e] at hk; exact Or.inr ⟨e, hk⟩
  refine { box := (turned_blk ht h.box.lt (fun e => am_not_box h.qs h.box e.symm)).trans h.box, qs := hT, hs := h.hs.block (turned_blk ht h.hs.lt h.d1.symm), ps := h.ps.block (turned_blk ht h.ps.lt h.d3.symm), each := ?_, emp := ?_, d1 := h.d1, d2 := h.d2, d3 := h.d3, inj := ?_, rows := ?_, mf := Or.inl h.mf, mq := Or.inl h.mq, mh := Or.inl h.mh, mp := Or.inl h.mp, mine := ?_, sl := ?_, hl := Nat.le_succ_of_le h.hl, pl := Nat.le_succ_of_le h.pl, rl := fun k => Nat.le_succ_of_le (h.rl k), lt := ?_ }
  · intro k q2 hk
    rcases old hk with ⟨rfl, rfl⟩ | ⟨hne, hk⟩
    · rw [upd_eq, upd_eq, h.emp k hx]
      exact hq.block fun j hj => by
        rcases hj with rfl | hj
        · exact turned_blk ht hq.box.lt hqm
        · cases hj
    · rw [upd_ne _ _ hne, upd_ne _ _ hne]
      exact (h.each k q2 hk).block fun j hj => turned_blk ht (h.lt j (h.mine k q2 j hk hj)) (h.mineNe hk hj).2.1
  · intro k hk
    rw [gA_put] at hk
    split at hk
    · cases hk
    · exact h.emp k hk
  · intro k1 k2 q2 h1 h2
    rcases old h1 with ⟨e1, e2⟩ | ⟨n1, h1⟩
    · rcases old h2 with ⟨e3, e4⟩ | ⟨n2, h2⟩
      · rw [e1, e3]
      · exact absurd (h.mine k2 q2 q2 h2 (Or.inl rfl)) (e2 ▸ hn)
    · rcases old h2 with ⟨e3, e4⟩ | ⟨n2, h2⟩
      · exact absurd (h.mine k1 q2 q2 h1 (Or.inl rfl)) (e4 ▸ hn)
      · exact h.inj _ _ _ h1 h2
  · intro k1 k2 q1 q2 j h1 h2 a1 a2
    rcases old h1 with ⟨e1, e2⟩ | ⟨n1, h1⟩
    · rw [e1, upd_eq] at a1; cases a1
    · rcases old h2 with ⟨e3, e4⟩ | ⟨n2, h2⟩
      · rw [e3, upd_eq] at a2; cases a2
      · rw [upd_ne _ _ n1] at a1
        rw [upd_ne _ _ n2] at a2
        exact h.rows _ _ _ _ _ h1 h2 a1 a2
  · intro k q2 j hk hj
    rcases old hk with ⟨rfl, rfl⟩ | ⟨hne, hk⟩
    · rw [upd_eq] at hj
      rcases hj with rfl | hj
      · exact Or.inr rfl
      · cases hj
    · rw [upd_ne _ _ hne] at hj
      exact Or.inl (h.mine k q2 j hk hj)
  · have := len_pA_le S x q
    have := h.sl
    omega
  · intro k hk
    rw [turned_size ht]
    rcases hk with hk | rfl
    · exact h.lt k hk
    · exact hq.box.lt
/-- A host's queue is another behind a call of its own. -/
theorem FtC.qTurn (h : FtC w RF f L N F qm hm pm S A C) {x : Int} {q c' : Nat} {a' : Option Addr} {rs' : List Rq} (hx : gA S x = some q) (hq : Qm w' 0 q a' c' rs' F.per) (ht : TurnQ q (A x) w a' w') (hl : rs'.length ≤ N) :
    FtC w' (fun k => RF k ∨ a' = some ⟨k, 0, none⟩) f L N ⟨F.per, F.mem, setR F.R x rs', F.hs, F.ps⟩ qm hm pm S (upd A x a') (upd C x c') ∧ Only RF w w' := by
  have ho : Only RF w w' := ht.1.trans (Only.refl (fun _ => False) w') (fun _ hf => hf.elim) |> fun hh => ⟨hh.os, hh.tape, hh.output, hh.size, fun k hk hne => ht.1.block k hk (fun hm => hne (h.mine x q k hx hm))⟩
  have bl : ∀ {k : Nat}, k < w.heap.size → ¬ MineQ q (A x) k → w'.heap[k]? = w.heap[k]? := fun hk hne => ht.1.block _ hk hne
  have new : ∀ {j : Nat} {k : Int} {q2 : Nat}, a' = some ⟨j, 0, none⟩ → gA S k = some q2 → k ≠ x → ¬ MineQ q2 (A k) j := fun {j k q2} ha hk hne hj => by
    rcases ht.2 j ha with e | e
    · exact hne (h.apart hk hx hj (Or.inr e))
    · have := h.lt j (h.mine k q2 j hk hj)
      omega
  refine ⟨{ box := (bl h.box.lt (fun e => (h.mineNe hx e).1 rfl)).trans h.box, qs := h.qs.block (bl h.qs.lt (fun e => (h.mineNe hx e).2.1 rfl)), hs := h.hs.block (bl h.hs.lt (fun e => (h.mineNe hx e).2.2.1 rfl)), ps := h.ps.block (bl h.ps.lt (fun e => (h.mineNe hx e).2.2.2 rfl)), each := ?_, emp := ?_, d1 := h.d1, d2 := h.d2, d3 := h.d3, inj := h.inj, rows := ?_, mf := Or.inl h.mf, mq := Or.inl h.mq, mh := Or.inl h.mh, mp := Or.inl h.mp, mine := ?_, sl := h.sl, hl := h.hl, pl := h.pl, rl := ?_, lt := ?_ }, ho⟩
  · intro k q2 hk
    by_cases e : k = x
    · subst e
      rw [hx] at hk
      injection hk with hk
      subst hk
      show Qm w' 0 q (upd A k a' k) (upd C k c' k) (setR F.R k rs' k) F.per
      rw [upd_eq, upd_eq, show setR F.R k rs' k = rs' from if_pos rfl]
      exact hq
    · show Qm w' 0 q2 (upd A x a' k) (upd C x c' k) (setR F.R x rs' k) F.per
      rw [upd_ne _ _ e, upd_ne _ _ e, show setR F.R x rs' k = F.R k from if_neg e]
      exact (h.each k q2 hk).block fun j hj => bl (h.lt j (h.mine k q2 j hk hj)) (fun hm => e (h.apart hk hx hj hm))
  · intro k hk
    show setR F.R x rs' k = []
    by_cases e : k = x
    · rw [e, hx] at hk; cases hk
    · rw [show setR F.R x rs' k = F.R k from if_neg e]; exact h.emp k hk
  · intro k1 k2 q1 q2 j h1 h2 a1 a2
    by_cases e1 : k1 = x
    · rw [e1, upd_eq] at a1
      by_cases e2 : k2 = x
      · rw [e1, e2]
      · rw [upd_ne _ _ e2] at a2
        exact absurd (Or.inr a2) (new a1 h2 e2)
    · rw [upd_ne _ _ e1] at a1
      by_cases e2 : k2 = x
      · rw [e2, upd_eq] at a2
        exact absurd (Or.inr a1) (new a2 h1 e1)
      · rw [upd_ne _ _ e2] at a2
        exact h.rows _ _ _ _ _ h1 h2 a1 a2
  · intro k q2 j hk hj
    by_cases e : k = x
    · subst e
      rw [upd_eq] at hj
      rw [hx] at hk
      injection hk with hk
      subst hk
      rcases hj with rfl | hj
      · exact Or.inl (h.mine k j j hx (Or.inl rfl))
      · exact Or.inr hj
    · rw [upd_ne _ _ e] at hj
      exact Or.inl (h.mine k q2 j hk hj)
  · intro k
    show (setR F.R x rs' k).length ≤ N
    unfold setR
    split
    · exact hl
    · exact h.rl k
  · intro k hk
    rcases hk with hk | hk
    · exact Nat.lt_of_lt_of_le (h.lt k hk) ht.1.size
    · have := hq.own
      rw [hk] at this
      exact this.lt.2
/-- A host's queue goes, as it holds nothing. -/
theorem FtC.qsDel (h : FtC w RF f L N F qm hm pm S A C) {x : Int} (hx : F.R x = []) (ht : w.mapTurned w' qm) (hT : QmM w' qm (dA S x)) : FtC w' RF f L N F qm hm pm (dA S x) A C := by
  have old : ∀ {k q2}, gA (dA S x) k = some q2 → k ≠ x ∧ gA S k = some q2 := fun {k q2} hk => by
    rw [gA_del] at hk
    by_cases e : k = x
    · rw [if_pos e] at hk; cases hk
    · rw [if_neg e] at hk; exact ⟨e, hk⟩
  exact { box := (turned_blk ht h.box.lt (fun e => am_not_box h.qs h.box e.symm)).trans h.box, qs := hT, hs := h.hs.block (turned_blk ht h.hs.lt h.d1.symm), ps := h.ps.block (turned_blk ht h.ps.lt h.d3.symm), each := fun k q2 hk => (h.each k q2 (old hk).2).block fun j hj => turned_blk ht (h.lt j (h.mine k q2 j (old hk).2 hj)) (h.mineNe (old hk).2 hj).2.1, emp := fun k hk => (by
      rw [gA_del] at hk
      by_cases e : k = x
      · rw [e]; exact hx
      · rw [if_neg e] at hk; exact h.emp k hk), d1 := h.d1, d2 := h.d2, d3 := h.d3, inj := fun k1 k2 q2 h1 h2 => h.inj _ _ _ (old h1).2 (old h2).2, rows := fun k1 k2 q1 q2 j h1 h2 a1 a2 => h.rows _ _ _ _ _ (old h1).2 (old h2).2 a1 a2, mf := h.mf, mq := h.mq, mh := h.mh, mp := h.mp, mine := fun k q2 j hk hj => h.mine k q2 j (old hk).2 hj, sl := Nat.le_trans (len_dA S x) h.sl, hl := h.hl, pl := h.pl, rl := h.rl, lt := fun k hk => (by rw [turned_size ht]; exact h.lt k hk) }
end
end Go.Proofs.YtimkgaokcldgkaaGreatDoor
/- Package front: New, Host, Len, Count, Memory; the functions of no Front. -/
namespace Go.Proofs.YtimkgaokcldgkaaGreatDoor
open Go Go.RowKit Go.Maps
set_option linter.unusedVariables false
set_option linter.unusedSimpArgs false
set_option maxRecDepth 10000

def mxF (m : Int) : Int := max m 1
def ft0 (per mem : Int) : Ft := ⟨per, mxF mem, fun _ => [], [], []⟩
theorem ft0_ok (per mem : Int) : FtOk (ft0 per mem) := ⟨fun id h => ⟨fun e => (by cases e), fun ⟨x, hx, _⟩ => (by cases hx)⟩, by show ([] : List Int).Nodup; simp, fun id h => (by cases h), by show ((0 : Nat) : Int) ≤ mxF mem; unfold mxF; omega, by show 1 ≤ mxF mem; unfold mxF; omega, fun h => List.Pairwise.nil⟩
theorem fnew_at (per mem : Int) (L : Nat) (w : World) : Calls Tryz.prog 8 #[.int .i64 per, .int .i64 mem, .pointer (some ⟨L, 0, none⟩)] w fun e w' => ∃ f RF, e = .returned (.pointer (some ⟨f, 0, none⟩)) ∧ FtM w' RF f L 0 (ft0 per mem) ∧ Below w.heap.size w w' ∧ ∀ k, RF k → w.heap.size ≤ k := by
  have hmm := @run_makeMap Tryz.prog
  obtain ⟨m, hm⟩ : ∃ m, mxF mem = m := ⟨_, rfl⟩
  have FIN : Hid (∃ f RF, f = w.heap.size + 1 + 1 + 1 ∧ FtM ((((w.alloc (.map #[] 0)).alloc (.map #[] 0)).alloc (.map #[] 0)).alloc (.cells #[.int .i64 per, .int .i64 m, .pointer (some ⟨L, 0, none⟩), .map (some w.heap.size), .map (some (w.heap.size + 1)), .map (some (w.heap.size + 1 + 1))] 75)) RF f L 0 (ft0 per mem) ∧ Below w.heap.size w ((((w.alloc (.map #[] 0)).alloc (.map #[] 0)).alloc (.map #[] 0)).alloc (.cells #[.int .i64 per, .int .i64 m, .pointer (some ⟨L, 0, none⟩), .map (some w.heap.size), .map (some (w.heap.size + 1)), .map (some (w.heap.size + 1 + 1))] 75)) ∧ ∀ k, RF k → w.heap.size ≤ k) := Lib.hid (by
    have a0 : QmM (w.alloc (.map #[] 0)) w.heap.size [] := Am.new w
    obtain ⟨w1, hw1⟩ : ∃ W, w.alloc (.map #[] 0) = W := ⟨_, rfl⟩
    rw [hw1] at a0 ⊢
    have s1 : w1.heap.size = w.heap.size + 1 := by rw [← hw1]; simp
    have a1 : HmM (w1.alloc (.map #[] 0)) w1.heap.size [] := Am.new w1
    have b1 := a0.later ((Below.refl w1.heap.size w1).alloc (Nat.le_refl _) (.map #[] 0))
    obtain ⟨w2, hw2⟩ : ∃ W, w1.alloc (.map #[] 0) = W := ⟨_, rfl⟩
    rw [hw2] at a1 b1 ⊢
    have s2 : w2.heap.size = w.heap.size + 1 + 1 := by rw [← hw2]; simp [s1]
    have a2 : XmM (w2.alloc (.map #[] 0)) w2.heap.size [] := Am.new w2
    have l2 := (Below.refl w2.heap.size w2).alloc (Nat.le_refl _) (.map #[] 0)
    have c1 := a1.later l2
    have d1 := b1.later l2
    obtain ⟨w3, hw3⟩ : ∃ W, w2.alloc (.map #[] 0) = W := ⟨_, rfl⟩
    rw [hw3] at a2 c1 d1 ⊢
    have s3 : w3.heap.size = w.heap.size + 1 + 1 + 1 := by rw [← hw3]; simp [s2]
    have hb := Box.new w3 #[.int .i64 per, .int .i64 m, .pointer (some ⟨L, 0, none⟩), .map (some w.heap.size), .map (some (w.heap.size + 1)), .map (some (w.heap.size + 1 + 1))] 75
    have l3 := (Below.refl w3.heap.size w3).alloc (Nat.le_refl _) (.cells #[.int .i64 per, .int .i64 m, .pointer (some ⟨L, 0, none⟩), .map (some w.heap.size), .map (some (w.heap.size + 1)), .map (some (w.heap.size + 1 + 1))] 75)
    have e0 := d1.later l3
    have e1 := c1.later l3
    have e2 := a2.later l3
    rw [s1] at e1
    rw [s2] at e2
    rw [s3] at hb
    have hbl : Below w.heap.size w (w3.alloc (.cells #[.int .i64 per, .int .i64 m, .pointer (some ⟨L, 0, none⟩), .map (some w.heap.size), .map (some (w.heap.size + 1)), .map (some (w.heap.size + 1 + 1))] 75)) := by
      rw [← hw3, ← hw2, ← hw1]
      exact ((((Below.refl _ _).alloc (Nat.le_refl _) _).alloc (by simp) _).alloc (by simp; omega) _).alloc (by simp; omega) _
    have s4 : (w3.alloc (.cells #[.int .i64 per, .int .i64 m, .pointer (some ⟨L, 0, none⟩), .map (some w.heap.size), .map (some (w.heap.size + 1)), .map (some (w.heap.size + 1 + 1))] 75)).heap.size = w.heap.size + 1 + 1 + 1 + 1 := by simp [s3]
    refine ⟨_, fun k => k = w.heap.size ∨ k = w.heap.size + 1 ∨ k = w.heap.size + 1 + 1 ∨ k = w.heap.size + 1 + 1 + 1, rfl, ⟨⟨w.heap.size, w.heap.size + 1, w.heap.size + 1 + 1, [], fun _ => none, fun _ => 0, ?_⟩, ft0_ok per mem⟩, hbl, fun k hk => by omega⟩
    exact { box := (by show Box _ _ #[.int .i64 per, .int .i64 (mxF mem), _, _, _, _] _; rw [hm]; exact hb), qs := e0, hs := e1, ps := e2, each := fun h q hq => (by cases hq), emp := fun _ _ => rfl, d1 := by omega, d2 := by omega, d3 := by omega, inj := fun _ _ _ h1 _ => (by cases h1), rows := fun _ _ _ _ _ h1 => (by cases h1), mf := Or.inr (Or.inr (Or.inr rfl)), mq := Or.inl rfl, mh := Or.inr (Or.inl rfl), mp := Or.inr (Or.inr (Or.inl rfl)), mine := fun _ _ _ h1 => (by cases h1), sl := Nat.le_refl _, hl := Nat.le_refl _, pl := Nat.le_refl _, rl := fun _ => Nat.le_refl _, lt := fun k hk => (by rw [s4]; omega) })
  have HM := Lib.hid hm.symm
  clear hm
  go_enter Tryz.func8, Tryz.ntmps8
  go_wp2
  go_ret
  obtain ⟨f, RF, rfl, h1, h2, h3⟩ := FIN.out
  have hm : max mem 1 = m := HM.out.symm
  rw [hm]
  exact ⟨_, RF, rfl, h1, h2, h3⟩
/-! No Front. -/
section
variable {w w' : World} {RF : Nat → Prop} {f L N : Nat} {F : Ft}
theorem fhost_at (h : FtM w RF f L N F) (n : Int) (hn : okI n) : Calls Tryz.prog 14 #[.pointer (some ⟨f, 0, none⟩), .int .i64 n] w fun e w' => e = .returned (.tuple #[.int .i64 ((gA F.hs n).getD 0), .bool (gA F.hs n).isSome]) ∧ w' = w := by
  obtain ⟨qm, hm, pm, S, A, C, hc⟩ := h.mm
  have lk : (Instr.lookup 72 (.map (some hm)) (.int .i64 n) true).run Tryz.prog w = .ok (.tuple #[.int .i64 ((gA F.hs n).getD 0), .bool (gA F.hs n).isSome]) w := by
    rw [hc.hs.look_ok tyH n hn, getD_map]
  have c4 : w.cell? ⟨f, 4, none⟩ = some (.map (some hm)) := hc.box.cell 4
  obtain ⟨v, hv⟩ : ∃ v, (gA F.hs n).getD 0 = v := ⟨_, rfl⟩
  obtain ⟨b, hb⟩ : ∃ v, (gA F.hs n).isSome = v := ⟨_, rfl⟩
  rw [hv, hb] at lk ⊢
  clear hv hb hc h
  go_enter Tryz.func14, Tryz.ntmps14
  go_wp2
  go_ret2
  exact ⟨rfl, rfl⟩
theorem fcount_at (h : FtM w RF f L N F) (M : Nat) (hM : F.hs.length = M) : Calls Tryz.prog 19 #[.pointer (some ⟨f, 0, none⟩)] w fun e w' => e = .returned (.int .i64 (M : Int)) ∧ w' = w := by
  obtain ⟨qm, hm, pm, S, A, C, hc⟩ := h.mm
  have ln : ∀ ty, (Builtin.len_ #[72] ty #[.map (some hm)]).run Tryz.prog w = .ok (.int .i64 (M : Int)) w := fun ty => by rw [hc.hs.len tyH ty, hM]
  have c4 : w.cell? ⟨f, 4, none⟩ = some (.map (some hm)) := hc.box.cell 4
  clear hc h
  go_enter Tryz.func19, Tryz.ntmps19
  go_wp2
  go_ret
  exact ⟨rfl, rfl⟩
theorem fmem_at (h : FtM w RF f L N F) (M : Nat) (hM : F.ps.length = M) : Calls Tryz.prog 20 #[.pointer (some ⟨f, 0, none⟩)] w fun e w' => e = .returned (.int .i64 (M : Int)) ∧ w' = w := by
  obtain ⟨qm, hm, pm, S, A, C, hc⟩ := h.mm
  have ln : ∀ ty, (Builtin.len_ #[73] ty #[.map (some pm)]).run Tryz.prog w = .ok (.int .i64 (M : Int)) w := fun ty => by rw [hc.ps.len tyX ty, hM]
  have c5 : w.cell? ⟨f, 5, none⟩ = some (.map (some pm)) := hc.box.cell 5
  clear hc h
  go_enter Tryz.func20, Tryz.ntmps20
  go_wp2
  go_ret
  exact ⟨rfl, rfl⟩
/-- The queue of a host, if it has one. -/
theorem FtC.lookQ {qm hm pm : Nat} {S : List (Int × Nat)} {A : Int → Option Addr} {C : Int → Nat} (h : FtC w RF f L N F qm hm pm S A C) (x : Int) (hx : okI x) :
    (Instr.lookup 71 (.map (some qm)) (.int .i64 x) false).run Tryz.prog w = .ok (.pointer ((gA S x).map fun q => ⟨q, 0, none⟩)) w := by
  rw [h.qs.look tyQ x hx]
  cases gA S x <;> rfl
theorem flen_at (h : FtM w RF f L N F) (x : Int) (hx : okI x) (M : Nat) (hM : (F.R x).length = M) : Calls Tryz.prog 18 #[.pointer (some ⟨f, 0, none⟩), .int .i64 x] w fun e w' => e = .returned (.int .i64 (M : Int)) ∧ w' = w := by
  obtain ⟨qm, hm, pm, S, A, C, hc⟩ := h.mm
  have lk := hc.lookQ x hx
  have c3 : w.cell? ⟨f, 3, none⟩ = some (.map (some qm)) := hc.box.cell 3
  cases hg : gA S x with
  | none =>
    rw [hg] at lk
    have hM0 : M = 0 := by rw [← hM, hc.emp x hg]; rfl
    subst hM0
    have LN := Lib.hid (len_nil w)
    clear hc h hM hg
    go_enter Tryz.func18, Tryz.ntmps18
    go_wp2_with fail
    refine LN.out.mono ?_
    rintro e w1 ⟨rfl, rfl⟩
    go_wp2
    go_ret
    exact ⟨rfl, rfl⟩
  | some q =>
    rw [hg] at lk
    have LN := Lib.hid (len_at (hc.each x q hg))
    rw [hM] at LN
    clear hc h hM hg
    go_enter Tryz.func18, Tryz.ntmps18
    go_wp2_with fail
    refine LN.out.mono ?_
    rintro e w1 ⟨rfl, rfl⟩
    go_wp2
    go_ret
    exact ⟨rfl, rfl⟩
end
end Go.Proofs.YtimkgaokcldgkaaGreatDoor
