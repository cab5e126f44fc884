/- Package queue: what a queue is in memory; the library's IndexFunc, over any function value that answers by a predicate. -/
import Derived.Test.YtbifnmlhbepadaaChecked
import Derived.Test.YtbifnmlhbepadaaInsR
import Derived.Test.YtbifnmlhbepadaaQuMath
import Derived.Test.YtbifnmlhbepadaaForget
import Derived.Test.YtbifnmlhbepadaaLast
import Derived.Test.YtbifnmlhbepadaaRow
import Derived.WalkKit
import Derived.BigQuiet
import Derived.Lib.Hide
import Derived.OpenShut
import Derived.Shelf.Abstract
import Derived.IntWalk
import Derived.Deep.Cut
import Derived.Deep.CutRange
import Derived.Deep.DeepCutAuto
import Derived.Deep.CutBlock
namespace Go.Proofs.Ytbifnmlhbepadaa
open Go Go.RowKit
set_option linter.unusedVariables false
set_option linter.unusedSimpArgs false
set_option maxRecDepth 10000

theorem rowQ : RowTy Try.prog 25 27 5 56 := ⟨Try.underlying25, ⟨.agg #[.int .i64 0, .string ⟨#[]⟩, .string ⟨#[]⟩, .int .i64 0, .int .i64 0], by kernel_rfl, rfl⟩, by decide⟩
/-- A request as a value, and its cells. -/
def rqA (r : Rq) : Array Value := #[.int .i64 r.id, .string r.host, .string r.path, .int .i64 r.prio, .int .i64 r.til]
theorem rqA_list (r : Rq) : (rqA r).toList = rqL r := rfl
theorem rqA_one (r : Rq) : (rqA r).all (·.oneCell') = true := by simp [rqA, Value.oneCell']
/-- What a walk is told of one request in a slice. -/
structure R5 (w : World) (g i : Nat) (r : Rq) : Prop where
  c0 : w.cell? ⟨g, i * 5, none⟩ = some (.int .i64 r.id)
  c1 : w.cell? ⟨g, i * 5 + 1, none⟩ = some (.string r.host)
  c2 : w.cell? ⟨g, i * 5 + 2, none⟩ = some (.string r.path)
  c3 : w.cell? ⟨g, i * 5 + 3, none⟩ = some (.int .i64 r.prio)
  c4 : w.cell? ⟨g, i * 5 + 4, none⟩ = some (.int .i64 r.til)
theorem R5.later {w w' : World} {g i : Nat} {r : Rq} (h : R5 w g i r) (hb : Below w.heap.size w w') : R5 w' g i r := by
  have k : ∀ {p : Addr} {u : Value}, w.cell? p = some u → w'.cell? p = some u := fun hp => (hb.cell (World.block_lt_of_cell? _ _ hp)).trans hp
  exact ⟨k h.c0, k h.c1, k h.c2, k h.c3, k h.c4⟩
/-- Requests that can be read. -/
def RdQ (w : World) (a : Option Addr) (rs : List Rq) : Prop := ∀ k r, rs[k]? = some r → ∃ g, a = some ⟨g, 0, none⟩ ∧ R5 w g k r
theorem RdQ.later {w w' : World} {a : Option Addr} {rs : List Rq} (h : RdQ w a rs) (hb : Below w.heap.size w w') : RdQ w' a rs := fun k r hk => by
  obtain ⟨g, h1, h2⟩ := h k r hk
  exact ⟨g, h1, h2.later hb⟩
theorem Own.rdQ {w : World} {B n cap : Nat} {E : TypeId} {a : Option Addr} {rs : List Rq} (h : Own w B E 5 a n cap (rqC rs)) : RdQ w a rs := fun k r hk => by
  have hl := (List.getElem?_eq_some_iff.1 hk).1
  have h1 := h.len
  rw [rqC_len] at h1
  obtain ⟨g, rfl, _⟩ := h.some_ (by omega)
  exact ⟨g, rfl, h.cell (rqC_get hk 0 (by omega)), h.cell (rqC_get hk 1 (by omega)), h.cell (rqC_get hk 2 (by omega)), h.cell (rqC_get hk 3 (by omega)), h.cell (rqC_get hk 4 (by omega))⟩
/-- w' is w but for these blocks, and new ones. -/
structure Only (R : Nat → Prop) (w w' : World) : Prop where
  os : w'.os = w.os
  tape : w'.tape = w.tape
  output : w'.output = w.output
  size : w.heap.size ≤ w'.heap.size
  block : ∀ k, k < w.heap.size → ¬ R k → w'.heap[k]? = w.heap[k]?
theorem Only.refl (R : Nat → Prop) (w : World) : Only R w w := ⟨rfl, rfl, rfl, Nat.le_refl _, fun _ _ _ => rfl⟩
theorem Only.trans {R R' : Nat → Prop} {a b c : World} (h : Only R a b) (k : Only R' b c) (hr : ∀ x, R' x → R x ∨ a.heap.size ≤ x) : Only R a c :=
  ⟨k.os.trans h.os, k.tape.trans h.tape, k.output.trans h.output, Nat.le_trans h.size k.size, fun i hi hne => (k.block i (Nat.lt_of_lt_of_le hi h.size) (fun e => by rcases hr i e with e | e; exact hne e; omega)).trans (h.block i hi hne)⟩
theorem Only.of_below {w w' : World} (R : Nat → Prop) (h : Below w.heap.size w w') : Only R w w' := ⟨h.os, h.tape, h.output, h.size, fun k hk _ => h.block k hk⟩
theorem Only.of_grown {R : Nat → Prop} {w w' : World} {row : Option Nat} (h : w.grownBy w' row) (hr : ∀ k, row = some k → R k) : Only R w w' := ⟨h.os, h.tape, h.output, h.size, fun k hk hne => h.block k hk (fun e => hne (hr k e.symm))⟩
theorem Only.drewN {R : Nat → Prop} {a w : World} (h : Only R a w) (n : Nat) : Only R a (w.drewN n) := ⟨h.os, h.tape, h.output, h.size, h.block⟩
theorem Only.alloc {R : Nat → Prop} {a w : World} (h : Only R a w) (o : Obj) : Only R a (w.alloc o) :=
  h.trans (Only.of_below R ((Below.refl _ _).alloc (Nat.le_refl _) o)) (fun _ h => Or.inl h)
theorem Only.later {R : Nat → Prop} {a w w' : World} (h : Only R a w) (hb : Below w.heap.size w w') : Only R a w' :=
  h.trans (Only.of_below R hb) (fun _ h => Or.inl h)
theorem Only.setCell {R : Nat → Prop} {a w : World} (h : Only R a w) {p : Addr} (hp : R p.block ∨ a.heap.size ≤ p.block) (u : Value) : Only R a (w.setCell p u) :=
  h.trans (Only.of_grown (R := fun k => k = p.block) ⟨rfl, rfl, rfl, by simp [World.setCell], fun k _ hk => Below.heap_setCell w p u k (fun e => hk (by rw [e]))⟩ (fun k e => by cases e; rfl)) (fun x hx => by subst hx; exact hp)
theorem Only.setRow {R : Nat → Prop} {a w : World} (h : Only R a w) {g : Nat} (hp : R g ∨ a.heap.size ≤ g) (cs : Array Value) : Only R a (w.setRow g cs) :=
  h.trans (Only.of_grown (R := fun k => k = g) ⟨rfl, rfl, rfl, by simp, fun k _ hk => setRow_other w g k cs (fun e => hk (by rw [e]))⟩ (fun k e => by cases e; rfl)) (fun x hx => by subst hx; exact hp)
theorem Only.below {R : Nat → Prop} {a w : World} (h : Only R a w) {B : Nat} (hB : B ≤ a.heap.size) (hR : ∀ k, R k → B ≤ k) : Below B a w :=
  ⟨h.os, h.tape, h.output, h.size, fun k hk => h.block k (by omega) (fun e => by have := hR k e; omega)⟩
theorem Box.only {R : Nat → Prop} {w w' : World} {b : Nat} {cs : Array Value} {t : TypeId} (h : Box w b cs t) (ho : Only R w w') (hne : ¬ R b) : Box w' b cs t := (ho.block b h.lt hne).trans h
theorem Own.only {R : Nat → Prop} {w w' : World} {B size n cap : Nat} {E : TypeId} {a : Option Addr} {xs : List Value} (h : Own w B E size a n cap xs) (ho : Only R w w') (hne : ∀ g, a = some ⟨g, 0, none⟩ → ¬ R g) : Own w' B E size a n cap xs :=
  h.blocks fun g e => ho.block g (by subst e; exact h.lt.2) (hne g e)
theorem own_not_box5 {w : World} {B size n cap H : Nat} {E t : TypeId} {xs : List Value} {g : Nat} {cs : Array Value} (h : Own w B E size (some ⟨g, 0, none⟩) n cap xs) (hb : Box w H cs t) (hne : t ≠ E) : g ≠ H := fun e => by
  subst e
  obtain ⟨cur, hg, _⟩ := h.block
  have : w.heap[g]? = some (.cells cs t (0, 0)) := hb
  rw [hg] at this
  injection this with this
  injection this with _ h2 _
  exact hne h2.symm
/-- A queue. -/
structure Qm (w : World) (B q : Nat) (a : Option Addr) (cap : Nat) (rs : List Rq) (most : Int) : Prop where
  box : Box w q #[.slice a rs.length cap, .int .i64 most] 72
  own : Own w B 27 5 a rs.length cap (rqC rs)
  qB : B ≤ q
def MineQ (q : Nat) (a : Option Addr) (k : Nat) : Prop := k = q ∨ a = some ⟨k, 0, none⟩
/-- What a queue's function does to the world. -/
def TurnQ (q : Nat) (a : Option Addr) (w : World) (a' : Option Addr) (w' : World) : Prop := Only (MineQ q a) w w' ∧ ∀ k, a' = some ⟨k, 0, none⟩ → a = some ⟨k, 0, none⟩ ∨ w.heap.size ≤ k
theorem TurnQ.of_below {q : Nat} {a : Option Addr} {w w' : World} (h : Below w.heap.size w w') : TurnQ q a w a w' := ⟨Only.of_below _ h, fun k hk => Or.inl hk⟩
theorem TurnQ.trans {q : Nat} {a a1 a2 : Option Addr} {w w1 w2 : World} (h : TurnQ q a w a1 w1) (k : TurnQ q a1 w1 a2 w2) : TurnQ q a w a2 w2 :=
  ⟨h.1.trans k.1 (fun x hx => by
    rcases hx with hx | hx
    · exact Or.inl (Or.inl hx)
    · rcases h.2 x hx with h2 | h2
      · exact Or.inl (Or.inr h2)
      · exact Or.inr h2), fun x hx => by
    rcases k.2 x hx with h2 | h2
    · exact h.2 x h2
    · exact Or.inr (Nat.le_trans h.1.size h2)⟩
theorem Qm.later {w w' : World} {B q cap : Nat} {a : Option Addr} {rs : List Rq} {most : Int} (h : Qm w B q a cap rs most) (hb : Below w.heap.size w w') : Qm w' B q a cap rs most := ⟨h.box.later hb, h.own.later hb, h.qB⟩
/-- A function value that answers by a predicate, in each world that follows w. -/
def MeantQ (w : World) (g : Nat) (lb : Array Value) (p : Rq → Bool) : Prop :=
  ∀ r W, Below w.heap.size w W → Calls Try.prog g (#[.agg (rqA r)] ++ lb) W fun e w' => e = .returned (.bool (p r)) ∧ Below W.heap.size W w'
theorem MeantQ.later {w w2 : World} {g : Nat} {lb : Array Value} {p : Rq → Bool} (h : MeantQ w g lb p) (hb : Below w.heap.size w w2) : MeantQ w2 g lb p :=
  fun z W hW => h z W (hb.trans (hW.mono hb.size))
set_option maxHeartbeats 2000000 in
theorem idx_at (l : List Rq) (n : Nat) (hn : l.length = n) (hn2 : n ≤ 9223372036854775807) (a : Option Addr) (c g : Nat) (lb : Array Value) (p : Rq → Bool) (w : World)
    (eg : ∀ args w, (callFunc g args).run Try.prog w = .ok (.enter g args) w) (hm : MeantQ w g lb p) (hc : RdQ w a l) :
    Calls Try.prog 48 #[.slice a n c, .func (.func g) #[] lb] w fun e w' => (∃ i : Int, e = .returned (.int .i64 i) ∧ decide (0 ≤ i) = l.any p) ∧ Below w.heap.size w w' := by
  have HM := Lib.hid hm
  have HC := Lib.hid hc
  have HN := Lib.hid hn
  clear hm hc hn
  go_enter Try.func48, Try.ntmps48
  go_wp2
  go_loopw [4, 8] (fun r j wr => ∃ k : Nat, k ≤ n ∧ r = .int .i64 0 ∧ j = .int .i64 (k : Int) ∧ Hid (Below w.heap.size w wr) ∧ Hid (∀ i z, i < k → l[i]? = some z → p z = false)) (fun _ j _ => n - (intOf j).toNat)
  case atStart => exact ⟨0, by omega, rfl, rfl, Lib.hid (Below.refl _ _), Lib.hid (fun i z hi => by omega)⟩
  case round =>
    obtain ⟨k, hk, rfl, rfl, BR, HP⟩ := hrel
    by_cases hlt : k < n
    · have hkd : decide ((k : Int) < (n : Int)) = true := decide_eq_true (by omega)
      obtain ⟨z, hz⟩ : ∃ z, l[k]? = some z := ⟨_, List.getElem?_eq_getElem (by rw [HN.out]; exact hlt)⟩
      obtain ⟨r, hr, c⟩ := HC.out k z hz
      subst hr
      have cl := c.later BR.out
      have c0 := cl.c0
      have c1 := cl.c1
      have c2 := cl.c2
      have c3 := cl.c3
      have c4 := cl.c4
      have M := Lib.hid (HM.out z wr BR.out)
      have hx0 : (0 : Int) ≤ (k : Int) := by omega
      have hx1 : (k : Int) < (n : Int) := by omega
      have HZ := Lib.hid hz
      obtain ⟨b, hb⟩ : ∃ b, p z = b := ⟨_, rfl⟩
      rw [hb] at M
      have HB := Lib.hid hb
      clear c cl hz hb
      go_wp2_with fail
      refine (M.out).mono ?_
      rintro e wx ⟨rfl, hwx⟩
      have B2 := Lib.hid (BR.out.trans (hwx.mono BR.out.size))
      clear hwx
      cases b with
      | true =>
        go_wp2
        go_ret
        refine ⟨⟨k, rfl, ?_⟩, B2.out⟩
        rw [List.any_eq_true.2 ⟨z, List.mem_of_getElem? HZ.out, HB.out⟩]
        exact decide_eq_true (by omega)
      | false =>
        go_wp2
        go_roundw
        case rel => exact ⟨k + 1, by omega, rfl, by simp, B2, Lib.hid (fun i y hi hy => by
          by_cases h : i = k
          · subst h
            rw [HZ.out] at hy
            injection hy with hy
            rw [← hy, HB.out]
          · exact HP.out i y (by omega) hy)⟩
        case measure =>
          simp only [intOf]
          omega
    · have hkd : decide ((k : Int) < (n : Int)) = false := decide_eq_false (by omega)
      go_wp2
      go_ret
      refine ⟨⟨-1, rfl, ?_⟩, BR.out⟩
      symm
      apply Bool.eq_false_iff.2
      intro h
      obtain ⟨z, hz, hpz⟩ := List.any_eq_true.1 h
      obtain ⟨i, hi, e⟩ := List.getElem_of_mem hz
      have := HP.out i z (by rw [HN.out] at hi; omega) (by rw [List.getElem?_eq_getElem hi, e])
      rw [this] at hpz
      cases hpz
/-- The predicates. -/
def idB (id : Int) (r : Rq) : Bool := decide (r.id = id)
def lateB (now : Int) (r : Rq) : Bool := decide (0 < r.til) && decide (r.til < now)
theorem find1_at (r : Rq) (id : Int) (g : Nat) (w : World) (hbx : Box w g #[.int .i64 id] 3) :
    Calls Try.prog 49 #[.agg (rqA r), .pointer (some ⟨g, 0, none⟩)] w fun e w' => e = .returned (.bool (idB id r)) ∧ Below w.heap.size w w' := by
  have BX := Lib.hid (hbx.alloc (.cells (rqA r) 27))
  have BN := Lib.hid (Box.new w (rqA r) 27)
  have BB := Lib.hid ((Below.refl w.heap.size w).alloc (Nat.le_refl _) (.cells (rqA r) 27))
  have hv : (r.id == id) = idB id r := rfl
  obtain ⟨b, hb⟩ : ∃ b, idB id r = b := ⟨_, rfl⟩
  rw [hb] at hv ⊢
  clear hb hbx
  unfold rqA at *
  obtain ⟨i, h, p, pr, t⟩ := r
  dsimp only at *
  go_enter Try.func49, Try.ntmps49
  go_upto_region 1 with fail
  obtain ⟨w1, hw1⟩ : ∃ W, w.alloc (.cells #[.int .i64 i, .string h, .string p, .int .i64 pr, .int .i64 t] 27) = W := ⟨_, rfl⟩
  rw [hw1] at BX BN BB
  rw [hw1]
  clear hw1
  have c0 := BN.out.cell 0
  have k0 := BX.out.cell 0
  go_wp2
  go_ret
  exact ⟨rfl, BB.out⟩
theorem drop1_at (r : Rq) (id : Int) (g : Nat) (w : World) (hbx : Box w g #[.int .i64 id] 3) :
    Calls Try.prog 34 #[.agg (rqA r), .pointer (some ⟨g, 0, none⟩)] w fun e w' => e = .returned (.bool (idB id r)) ∧ Below w.heap.size w w' := by
  have BX := Lib.hid (hbx.alloc (.cells (rqA r) 27))
  have BN := Lib.hid (Box.new w (rqA r) 27)
  have BB := Lib.hid ((Below.refl w.heap.size w).alloc (Nat.le_refl _) (.cells (rqA r) 27))
  have hv : (r.id == id) = idB id r := rfl
  obtain ⟨b, hb⟩ : ∃ b, idB id r = b := ⟨_, rfl⟩
  rw [hb] at hv ⊢
  clear hb hbx
  unfold rqA at *
  obtain ⟨i, h, p, pr, t⟩ := r
  dsimp only at *
  go_enter Try.func34, Try.ntmps34
  go_upto_region 1 with fail
  obtain ⟨w1, hw1⟩ : ∃ W, w.alloc (.cells #[.int .i64 i, .string h, .string p, .int .i64 pr, .int .i64 t] 27) = W := ⟨_, rfl⟩
  rw [hw1] at BX BN BB
  rw [hw1]
  clear hw1
  have c0 := BN.out.cell 0
  have k0 := BX.out.cell 0
  go_wp2
  go_ret
  exact ⟨rfl, BB.out⟩
theorem late1_at (r : Rq) (id : Int) (g : Nat) (w : World) (hbx : Box w g #[.int .i64 id] 3) :
    Calls Try.prog 35 #[.agg (rqA r), .pointer (some ⟨g, 0, none⟩)] w fun e w' => e = .returned (.bool (lateB id r)) ∧ Below w.heap.size w w' := by
  have BX := Lib.hid (hbx.alloc (.cells (rqA r) 27))
  have BN := Lib.hid (Box.new w (rqA r) 27)
  have BB := Lib.hid ((Below.refl w.heap.size w).alloc (Nat.le_refl _) (.cells (rqA r) 27))
  obtain ⟨b1, hb1⟩ : ∃ b, decide (0 < r.til) = b := ⟨_, rfl⟩
  obtain ⟨b2, hb2⟩ : ∃ b, decide (r.til < id) = b := ⟨_, rfl⟩
  have HV : Hid (lateB id r = (b1 && b2)) := Lib.hid (by unfold lateB; rw [hb1, hb2])
  obtain ⟨bo, hbo⟩ : ∃ b, lateB id r = b := ⟨_, rfl⟩
  rw [hbo] at HV ⊢
  clear hbo hbx
  unfold rqA at *
  obtain ⟨i, h, p, pr, t⟩ := r
  dsimp only at *
  go_enter Try.func35, Try.ntmps35
  go_upto_region 1 with fail
  obtain ⟨w1, hw1⟩ : ∃ W, w.alloc (.cells #[.int .i64 i, .string h, .string p, .int .i64 pr, .int .i64 t] 27) = W := ⟨_, rfl⟩
  rw [hw1] at BX BN BB
  rw [hw1]
  clear hw1
  have c4 := BN.out.cell 4
  have k0 := BX.out.cell 0
  cases b1 with
  | true =>
    obtain rfl : bo = b2 := by rw [HV.out]; rfl
    go_wp2
    go_ret
    exact ⟨rfl, BB.out⟩
  | false =>
    obtain rfl : bo = false := by rw [HV.out]; rfl
    go_wp2
    go_ret
    exact ⟨rfl, BB.out⟩
theorem egF : ∀ args w, (callFunc 49 args).run Try.prog w = .ok (.enter 49 args) w := enters_of Try.func49 (by kernel_rfl) rfl
theorem egD : ∀ args w, (callFunc 34 args).run Try.prog w = .ok (.enter 34 args) w := enters_of Try.func34 (by kernel_rfl) rfl
theorem egL : ∀ args w, (callFunc 35 args).run Try.prog w = .ok (.enter 35 args) w := enters_of Try.func35 (by kernel_rfl) rfl
theorem meantF (id : Int) (g : Nat) (w : World) (hb : Box w g #[.int .i64 id] 3) : MeantQ w 49 #[.pointer (some ⟨g, 0, none⟩)] (idB id) := fun r W hW => find1_at r id g W (hb.later hW)
theorem meantD (id : Int) (g : Nat) (w : World) (hb : Box w g #[.int .i64 id] 3) : MeantQ w 34 #[.pointer (some ⟨g, 0, none⟩)] (idB id) := fun r W hW => drop1_at r id g W (hb.later hW)
theorem meantL (id : Int) (g : Nat) (w : World) (hb : Box w g #[.int .i64 id] 3) : MeantQ w 35 #[.pointer (some ⟨g, 0, none⟩)] (lateB id) := fun r W hW => late1_at r id g W (hb.later hW)
set_option maxHeartbeats 2000000 in
theorem find_at {w : World} {B q cap : Nat} {a : Option Addr} {rs : List Rq} {most : Int} (h : Qm w B q a cap rs most) (id : Int) :
    Calls Try.prog 29 #[.pointer (some ⟨q, 0, none⟩), .int .i64 id] w fun e w' => (∃ i : Int, e = .returned (.int .i64 i) ∧ decide (0 ≤ i) = rs.any (idB id)) ∧ Below w.heap.size w w' := by
  have QX := Lib.hid (h.later ((Below.refl w.heap.size w).alloc (Nat.le_refl _) (.cells #[.int .i64 id] 3)))
  have BN := Lib.hid (Box.new w #[.int .i64 id] 3)
  have BB := Lib.hid ((Below.refl w.heap.size w).alloc (Nat.le_refl _) (.cells #[.int .i64 id] 3))
  obtain ⟨n, hn⟩ : ∃ n, rs.length = n := ⟨_, rfl⟩
  have hn2 : n ≤ 9223372036854775807 := by rw [← hn]; exact Nat.le_trans h.own.cap_le h.own.max
  have IX := Lib.hid (fun W (hQ : Qm W B q a cap rs most) (hb : Box W w.heap.size #[.int .i64 id] 3) => idx_at rs n hn hn2 a cap _ _ (idB id) W egF (meantF id w.heap.size W hb) hQ.own.rdQ)
  clear h
  go_enter Try.func29, Try.ntmps29
  go_upto_region 1 with fail
  obtain ⟨w1, hw1⟩ : ∃ W, w.alloc (.cells #[.int .i64 id] 3) = W := ⟨_, rfl⟩
  rw [hw1] at QX BN BB
  rw [hw1]
  clear hw1
  have c0 := QX.out.box.cell 0
  rw [hn] at c0
  have lq := QX.out.box.lt
  go_wp2_with fail
  refine (IX.out _ QX.out BN.out).mono ?_
  rintro e wx ⟨⟨i, rfl, hi⟩, hwx⟩
  have HI := Lib.hid hi
  have B2 := Lib.hid (BB.out.trans (hwx.mono BB.out.size))
  clear hi hwx
  go_wp2
  go_ret
  exact ⟨⟨i, rfl, HI.out⟩, B2.out⟩
theorem count_at {w : World} {B q cap : Nat} {a : Option Addr} {rs : List Rq} {most : Int} (h : Qm w B q a cap rs most) :
    Calls Try.prog 30 #[.pointer (some ⟨q, 0, none⟩)] w fun e w' => e = .returned (.int .i64 (rs.length : Int)) ∧ w' = w := by
  have c0 := h.box.cell 0
  have lq := h.box.lt
  obtain ⟨n, hn⟩ : ∃ n, rs.length = n := ⟨_, rfl⟩
  rw [hn] at c0 ⊢
  clear h
  go_enter Try.func30, Try.ntmps30
  go_wp2
  go_ret
  exact ⟨rfl, rfl⟩
end Go.Proofs.Ytbifnmlhbepadaa
