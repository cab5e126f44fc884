/- Part of a chain: QuMem, QuOrd. -/
import Derived.Test.YtimkgaokcldgkaaGreatDoorFq05
import Derived.Test.YtimkgaokcldgkaaGreatDoorFq02
import Derived.Test.YtimkgaokcldgkaaGreatDoorFq00
import Derived.Test.YtimkgaokcldgkaaGreatDoorFq07
import Derived.Test.YtimkgaokcldgkaaGreatDoorFq09
import Derived.Test.YtimkgaokcldgkaaGreatDoorChecked
import Derived.WalkKit
import Derived.BigQuiet
import Derived.Lib.Hide
import Derived.OpenShut
import Derived.Shelf.Abstract
import Derived.IntWalk
import Derived.Deep.Cut
import Derived.Deep.CutRange
import Derived.Deep.DeepCutAuto
import Derived.Deep.CutBlock
import Derived.Test.YtimkgaokcldgkaaGreatDoorFq08
/- Package queue: what a queue is in memory; the library's IndexFunc, over any function value that answers by a predicate. -/
namespace Go.Proofs.YtimkgaokcldgkaaGreatDoor
open Go Go.RowKit
set_option linter.unusedVariables false
set_option linter.unusedSimpArgs false
set_option maxRecDepth 10000

theorem rowQu : RowTy Tryz.prog 38 35 5 56 := ⟨Tryz.underlying38, ⟨.agg #[.int .i64 0, .string ⟨#[]⟩, .string ⟨#[]⟩, .int .i64 0, .int .i64 0], by kernel_rfl, rfl⟩, by decide⟩
/-- A request as a value, and its cells. -/
def rqA (r : Rq) : Array Value := #[.int .i64 r.id, .string r.host, .string r.path, .int .i64 r.prio, .int .i64 r.til]
theorem rqA_list (r : Rq) : (rqA r).toList = rqL r := rfl
theorem rqA_one (r : Rq) : (rqA r).all (·.oneCell') = true := by simp [rqA, Value.oneCell']
/-- What a walk is told of one request in a slice. -/
structure R5 (w : World) (g i : Nat) (r : Rq) : Prop where
  c0 : w.cell? ⟨g, i * 5, none⟩ = some (.int .i64 r.id)
  c1 : w.cell? ⟨g, i * 5 + 1, none⟩ = some (.string r.host)
  c2 : w.cell? ⟨g, i * 5 + 2, none⟩ = some (.string r.path)
  c3 : w.cell? ⟨g, i * 5 + 3, none⟩ = some (.int .i64 r.prio)
  c4 : w.cell? ⟨g, i * 5 + 4, none⟩ = some (.int .i64 r.til)
theorem R5.later {w w' : World} {g i : Nat} {r : Rq} (h : R5 w g i r) (hb : Below w.heap.size w w') : R5 w' g i r := by
  have k : ∀ {p : Addr} {u : Value}, w.cell? p = some u → w'.cell? p = some u := fun hp => (hb.cell (World.block_lt_of_cell? _ _ hp)).trans hp
  exact ⟨k h.c0, k h.c1, k h.c2, k h.c3, k h.c4⟩
/-- Requests that can be read. -/
def RdQu (w : World) (a : Option Addr) (rs : List Rq) : Prop := ∀ k r, rs[k]? = some r → ∃ g, a = some ⟨g, 0, none⟩ ∧ R5 w g k r
theorem RdQu.later {w w' : World} {a : Option Addr} {rs : List Rq} (h : RdQu w a rs) (hb : Below w.heap.size w w') : RdQu w' a rs := fun k r hk => by
  obtain ⟨g, h1, h2⟩ := h k r hk
  exact ⟨g, h1, h2.later hb⟩
theorem Own.rdQ {w : World} {B n cap : Nat} {E : TypeId} {a : Option Addr} {rs : List Rq} (h : Own w B E 5 a n cap (rqC rs)) : RdQu w a rs := fun k r hk => by
  have hl := (List.getElem?_eq_some_iff.1 hk).1
  have h1 := h.len
  rw [rqC_len] at h1
  obtain ⟨g, rfl, _⟩ := h.some_ (by omega)
  exact ⟨g, rfl, h.cell (rqC_get hk 0 (by omega)), h.cell (rqC_get hk 1 (by omega)), h.cell (rqC_get hk 2 (by omega)), h.cell (rqC_get hk 3 (by omega)), h.cell (rqC_get hk 4 (by omega))⟩
theorem own_not_box5 {w : World} {B size n cap H : Nat} {E t : TypeId} {xs : List Value} {g : Nat} {cs : Array Value} (h : Own w B E size (some ⟨g, 0, none⟩) n cap xs) (hb : Box w H cs t) (hne : t ≠ E) : g ≠ H := fun e => by
  subst e
  obtain ⟨cur, hg, _⟩ := h.block
  have : w.heap[g]? = some (.cells cs t (0, 0)) := hb
  rw [hg] at this
  injection this with this
  injection this with _ h2 _
  exact hne h2.symm
/-- A queue. -/
structure Qm (w : World) (B q : Nat) (a : Option Addr) (cap : Nat) (rs : List Rq) (most : Int) : Prop where
  box : Box w q #[.slice a rs.length cap, .int .i64 most] 117
  own : Own w B 35 5 a rs.length cap (rqC rs)
  qB : B ≤ q
def MineQ (q : Nat) (a : Option Addr) (k : Nat) : Prop := k = q ∨ a = some ⟨k, 0, none⟩
/-- What a queue's function does to the world. -/
def TurnQ (q : Nat) (a : Option Addr) (w : World) (a' : Option Addr) (w' : World) : Prop := Only (MineQ q a) w w' ∧ ∀ k, a' = some ⟨k, 0, none⟩ → a = some ⟨k, 0, none⟩ ∨ w.heap.size ≤ k
theorem TurnQ.of_below {q : Nat} {a : Option Addr} {w w' : World} (h : Below w.heap.size w w') : TurnQ q a w a w' := ⟨Only.of_below _ h, fun k hk => Or.inl hk⟩
theorem TurnQ.trans {q : Nat} {a a1 a2 : Option Addr} {w w1 w2 : World} (h : TurnQ q a w a1 w1) (k : TurnQ q a1 w1 a2 w2) : TurnQ q a w a2 w2 :=
  ⟨h.1.trans k.1 (fun x hx => by
    rcases hx with hx | hx
    · exact Or.inl (Or.inl hx)
    · rcases h.2 x hx with h2 | h2
      · exact Or.inl (Or.inr h2)
      · exact Or.inr h2), fun x hx => by
    rcases k.2 x hx with h2 | h2
    · exact h.2 x h2
    · exact Or.inr (Nat.le_trans h.1.size h2)⟩
theorem Qm.later {w w' : World} {B q cap : Nat} {a : Option Addr} {rs : List Rq} {most : Int} (h : Qm w B q a cap rs most) (hb : Below w.heap.size w w') : Qm w' B q a cap rs most := ⟨h.box.later hb, h.own.later hb, h.qB⟩
/-- A function value that answers by a predicate, in each world that follows w. -/
def MeantQ (w : World) (g : Nat) (lb : Array Value) (p : Rq → Bool) : Prop :=
  ∀ r W, Below w.heap.size w W → Calls Tryz.prog g (#[.agg (rqA r)] ++ lb) W fun e w' => e = .returned (.bool (p r)) ∧ Below W.heap.size W w'
theorem MeantQ.later {w w2 : World} {g : Nat} {lb : Array Value} {p : Rq → Bool} (h : MeantQ w g lb p) (hb : Below w.heap.size w w2) : MeantQ w2 g lb p :=
  fun z W hW => h z W (hb.trans (hW.mono hb.size))
set_option maxHeartbeats 2000000 in
theorem idx_at (l : List Rq) (n : Nat) (hn : l.length = n) (hn2 : n ≤ 9223372036854775807) (a : Option Addr) (c g : Nat) (lb : Array Value) (p : Rq → Bool) (w : World)
    (eg : ∀ args w, (callFunc g args).run Tryz.prog w = .ok (.enter g args) w) (hm : MeantQ w g lb p) (hc : RdQu w a l) :
    Calls Tryz.prog 88 #[.slice a n c, .func (.func g) #[] lb] w fun e w' => (∃ i : Int, e = .returned (.int .i64 i) ∧ decide (0 ≤ i) = l.any p) ∧ Below w.heap.size w w' := by
  have HM := Lib.hid hm
  have HC := Lib.hid hc
  have HN := Lib.hid hn
  clear hm hc hn
  go_enter Tryz.func88, Tryz.ntmps88
  go_wp2
  go_loopw [4, 8] (fun r j wr => ∃ k : Nat, k ≤ n ∧ r = .int .i64 0 ∧ j = .int .i64 (k : Int) ∧ Hid (Below w.heap.size w wr) ∧ Hid (∀ i z, i < k → l[i]? = some z → p z = false)) (fun _ j _ => n - (intOf j).toNat)
  case atStart => exact ⟨0, by omega, rfl, rfl, Lib.hid (Below.refl _ _), Lib.hid (fun i z hi => by omega)⟩
  case round =>
    obtain ⟨k, hk, rfl, rfl, BR, HP⟩ := hrel
    by_cases hlt : k < n
    · have hkd : decide ((k : Int) < (n : Int)) = true := decide_eq_true (by omega)
      obtain ⟨z, hz⟩ : ∃ z, l[k]? = some z := ⟨_, List.getElem?_eq_getElem (by rw [HN.out]; exact hlt)⟩
      obtain ⟨r, hr, c⟩ := HC.out k z hz
      subst hr
      have cl := c.later BR.out
      have c0 := cl.c0
      have c1 := cl.c1
      have c2 := cl.c2
      have c3 := cl.c3
      have c4 := cl.c4
      have M := Lib.hid (HM.out z wr BR.out)
      have hx0 : (0 : Int) ≤ (k : Int) := by omega
      have hx1 : (k : Int) < (n : Int) := by omega
      have HZ := Lib.hid hz
      obtain ⟨b, hb⟩ : ∃ b, p z = b := ⟨_, rfl⟩
      rw [hb] at M
      have HB := Lib.hid hb
      clear c cl hz hb
      go_wp2_with fail
      refine (M.out).mono ?_
      rintro e wx ⟨rfl, hwx⟩
      have B2 := Lib.hid (BR.out.trans (hwx.mono BR.out.size))
      clear hwx
      cases b with
      | true =>
        go_wp2
        go_ret
        refine ⟨⟨k, rfl, ?_⟩, B2.out⟩
        rw [List.any_eq_true.2 ⟨z, List.mem_of_getElem? HZ.out, HB.out⟩]
        exact decide_eq_true (by omega)
      | false =>
        go_wp2
        go_roundw
        case rel => exact ⟨k + 1, by omega, rfl, by simp, B2, Lib.hid (fun i y hi hy => by
          by_cases h : i = k
          · subst h
            rw [HZ.out] at hy
            injection hy with hy
            rw [← hy, HB.out]
          · exact HP.out i y (by omega) hy)⟩
        case measure =>
          simp only [intOf]
          omega
    · have hkd : decide ((k : Int) < (n : Int)) = false := decide_eq_false (by omega)
      go_wp2
      go_ret
      refine ⟨⟨-1, rfl, ?_⟩, BR.out⟩
      symm
      apply Bool.eq_false_iff.2
      intro h
      obtain ⟨z, hz, hpz⟩ := List.any_eq_true.1 h
      obtain ⟨i, hi, e⟩ := List.getElem_of_mem hz
      have := HP.out i z (by rw [HN.out] at hi; omega) (by rw [List.getElem?_eq_getElem hi, e])
      rw [this] at hpz
      cases hpz
/-- The predicates. -/
def idB (id : Int) (r : Rq) : Bool := decide (r.id = id)
theorem find1_at (r : Rq) (id : Int) (g : Nat) (w : World) (hbx : Box w g #[.int .i64 id] 3) :
    Calls Tryz.prog 89 #[.agg (rqA r), .pointer (some ⟨g, 0, none⟩)] w fun e w' => e = .returned (.bool (idB id r)) ∧ Below w.heap.size w w' := by
  have BX := Lib.hid (hbx.alloc (.cells (rqA r) 35))
  have BN := Lib.hid (Box.new w (rqA r) 35)
  have BB := Lib.hid ((Below.refl w.heap.size w).alloc (Nat.le_refl _) (.cells (rqA r) 35))
  have hv : (r.id == id) = idB id r := rfl
  obtain ⟨b, hb⟩ : ∃ b, idB id r = b := ⟨_, rfl⟩
  rw [hb] at hv ⊢
  clear hb hbx
  unfold rqA at *
  obtain ⟨i, h, p, pr, t⟩ := r
  dsimp only at *
  go_enter Tryz.func89, Tryz.ntmps89
  go_upto_region 1 with fail
  obtain ⟨w1, hw1⟩ : ∃ W, w.alloc (.cells #[.int .i64 i, .string h, .string p, .int .i64 pr, .int .i64 t] 35) = W := ⟨_, rfl⟩
  rw [hw1] at BX BN BB
  rw [hw1]
  clear hw1
  have c0 := BN.out.cell 0
  have k0 := BX.out.cell 0
  go_wp2
  go_ret
  exact ⟨rfl, BB.out⟩
theorem drop1_at (r : Rq) (id : Int) (g : Nat) (w : World) (hbx : Box w g #[.int .i64 id] 3) :
    Calls Tryz.prog 55 #[.agg (rqA r), .pointer (some ⟨g, 0, none⟩)] w fun e w' => e = .returned (.bool (idB id r)) ∧ Below w.heap.size w w' := by
  have BX := Lib.hid (hbx.alloc (.cells (rqA r) 35))
  have BN := Lib.hid (Box.new w (rqA r) 35)
  have BB := Lib.hid ((Below.refl w.heap.size w).alloc (Nat.le_refl _) (.cells (rqA r) 35))
  have hv : (r.id == id) = idB id r := rfl
  obtain ⟨b, hb⟩ : ∃ b, idB id r = b := ⟨_, rfl⟩
  rw [hb] at hv ⊢
  clear hb hbx
  unfold rqA at *
  obtain ⟨i, h, p, pr, t⟩ := r
  dsimp only at *
  go_enter Tryz.func55, Tryz.ntmps55
  go_upto_region 1 with fail
  obtain ⟨w1, hw1⟩ : ∃ W, w.alloc (.cells #[.int .i64 i, .string h, .string p, .int .i64 pr, .int .i64 t] 35) = W := ⟨_, rfl⟩
  rw [hw1] at BX BN BB
  rw [hw1]
  clear hw1
  have c0 := BN.out.cell 0
  have k0 := BX.out.cell 0
  go_wp2
  go_ret
  exact ⟨rfl, BB.out⟩
theorem egF : ∀ args w, (callFunc 89 args).run Tryz.prog w = .ok (.enter 89 args) w := enters_of Tryz.func89 (by kernel_rfl) rfl
theorem egD : ∀ args w, (callFunc 55 args).run Tryz.prog w = .ok (.enter 55 args) w := enters_of Tryz.func55 (by kernel_rfl) rfl
theorem meantF (id : Int) (g : Nat) (w : World) (hb : Box w g #[.int .i64 id] 3) : MeantQ w 89 #[.pointer (some ⟨g, 0, none⟩)] (idB id) := fun r W hW => find1_at r id g W (hb.later hW)
theorem meantD (id : Int) (g : Nat) (w : World) (hb : Box w g #[.int .i64 id] 3) : MeantQ w 55 #[.pointer (some ⟨g, 0, none⟩)] (idB id) := fun r W hW => drop1_at r id g W (hb.later hW)
set_option maxHeartbeats 2000000 in
theorem find_at {w : World} {B q cap : Nat} {a : Option Addr} {rs : List Rq} {most : Int} (h : Qm w B q a cap rs most) (id : Int) :
    Calls Tryz.prog 72 #[.pointer (some ⟨q, 0, none⟩), .int .i64 id] w fun e w' => (∃ i : Int, e = .returned (.int .i64 i) ∧ decide (0 ≤ i) = rs.any (idB id)) ∧ Below w.heap.size w w' := by
  have QX := Lib.hid (h.later ((Below.refl w.heap.size w).alloc (Nat.le_refl _) (.cells #[.int .i64 id] 3)))
  have BN := Lib.hid (Box.new w #[.int .i64 id] 3)
  have BB := Lib.hid ((Below.refl w.heap.size w).alloc (Nat.le_refl _) (.cells #[.int .i64 id] 3))
  obtain ⟨n, hn⟩ : ∃ n, rs.length = n := ⟨_, rfl⟩
  have hn2 : n ≤ 9223372036854775807 := by rw [← hn]; exact Nat.le_trans h.own.cap_le h.own.max
  have IX := Lib.hid (fun W (hQ : Qm W B q a cap rs most) (hb : Box W w.heap.size #[.int .i64 id] 3) => idx_at rs n hn hn2 a cap _ _ (idB id) W egF (meantF id w.heap.size W hb) hQ.own.rdQ)
  clear h
  go_enter Tryz.func72, Tryz.ntmps72
  go_upto_region 1 with fail
  obtain ⟨w1, hw1⟩ : ∃ W, w.alloc (.cells #[.int .i64 id] 3) = W := ⟨_, rfl⟩
  rw [hw1] at QX BN BB
  rw [hw1]
  clear hw1
  have c0 := QX.out.box.cell 0
  rw [hn] at c0
  have lq := QX.out.box.lt
  go_wp2_with fail
  refine (IX.out _ QX.out BN.out).mono ?_
  rintro e wx ⟨⟨i, rfl, hi⟩, hwx⟩
  have HI := Lib.hid hi
  have B2 := Lib.hid (BB.out.trans (hwx.mono BB.out.size))
  clear hi hwx
  go_wp2
  go_ret
  exact ⟨⟨i, rfl, HI.out⟩, B2.out⟩
theorem count_at {w : World} {B q cap : Nat} {a : Option Addr} {rs : List Rq} {most : Int} (h : Qm w B q a cap rs most) :
    Calls Tryz.prog 56 #[.pointer (some ⟨q, 0, none⟩)] w fun e w' => e = .returned (.int .i64 (rs.length : Int)) ∧ w' = w := by
  have c0 := h.box.cell 0
  have lq := h.box.lt
  obtain ⟨n, hn⟩ : ∃ n, rs.length = n := ⟨_, rfl⟩
  rw [hn] at c0 ⊢
  clear h
  go_enter Tryz.func56, Tryz.ntmps56
  go_wp2
  go_ret
  exact ⟨rfl, rfl⟩
end Go.Proofs.YtimkgaokcldgkaaGreatDoor
/- Package queue: the order of requests. -/
namespace Go.Proofs.YtimkgaokcldgkaaGreatDoor
open Go Go.RowKit
set_option linter.unusedVariables false
set_option linter.unusedSimpArgs false
set_option maxRecDepth 10000

theorem ordI_or (a b : Rq) : ordI a b = orI (cmpI a.prio b.prio) (cmpI a.id b.id) := rfl
set_option maxHeartbeats 4000000 in
theorem order_at (a b : Rq) (w : World) : Calls Tryz.prog 74 #[.agg (rqA a), .agg (rqA b)] w fun e w' => e = .returned (.int .i64 (ordI a b)) ∧ Below w.heap.size w w' := by
  have BX := Lib.hid ((Box.new w (rqA a) 35).alloc (.cells (rqA b) 35))
  have BY : Hid (Box ((w.alloc (.cells (rqA a) 35)).alloc (.cells (rqA b) 35)) (w.heap.size + 1) (rqA b) 35) := Lib.hid (by simpa using Box.new (w.alloc (.cells (rqA a) 35)) (rqA b) 35)
  have BB := Lib.hid (((Below.refl w.heap.size w).alloc (Nat.le_refl _) (.cells (rqA a) 35)).alloc (by simp) (.cells (rqA b) 35))
  have C1 := Lib.hid (fun W => compare_at a.prio b.prio W)
  have C2 := Lib.hid (fun W => compare_at a.id b.id W)
  obtain ⟨x, hx⟩ : ∃ x, cmpI a.prio b.prio = x := ⟨_, rfl⟩
  obtain ⟨y, hy⟩ : ∃ y, cmpI a.id b.id = y := ⟨_, rfl⟩
  have HV : Hid (ordI a b = orI x y) := Lib.hid (by rw [ordI_or, hx, hy])
  obtain ⟨v, hv⟩ : ∃ v, ordI a b = v := ⟨_, rfl⟩
  rw [hv] at HV ⊢
  rw [hx] at C1
  rw [hy] at C2
  have CO := Lib.hid (fun g W h0 h1 => or_at x y g W h0 h1)
  clear hx hy hv
  unfold rqA at *
  obtain ⟨i, h, p, pr, t⟩ := a
  obtain ⟨i2, h2, p2, pr2, t2⟩ := b
  dsimp only at *
  go_enter Tryz.func74, Tryz.ntmps74
  go_upto_region 1 with fail
  obtain ⟨w1, hw1⟩ : ∃ W, (w.alloc (.cells #[.int .i64 i, .string h, .string p, .int .i64 pr, .int .i64 t] 35)).alloc (.cells #[.int .i64 i2, .string h2, .string p2, .int .i64 pr2, .int .i64 t2] 35) = W := ⟨_, rfl⟩
  rw [hw1] at BX BY BB
  rw [hw1]
  clear hw1
  have a0 := BX.out.cell 0
  have a3 := BX.out.cell 3
  have b0 := BY.out.cell 0
  have b3 := BY.out.cell 3
  have lA := BX.out.lt
  have lG := BY.out.lt
  clear BX BY
  obtain ⟨A, hA⟩ : ∃ A, w.heap.size = A := ⟨_, rfl⟩
  obtain ⟨G, hG⟩ : ∃ G, A + 1 = G := ⟨_, rfl⟩
  rw [hA] at a0 a3 b0 b3 lA lG BB ⊢
  rw [hG] at b0 b3 lG ⊢
  refine wp_region_last 12 (fun w' => w'.heap[A]? = w1.heap[A]? ∧ w'.heap[G]? = w1.heap[G]?) (by kernel_rfl) (⟨rfl, rfl⟩) (fun hHeld hClosed => ?_)
  refine wtk (i := 0) (v := ?_) rfl hClosed (Or.inl ⟨by rfl, ?_⟩) hHeld (fun hClosed => ?_)
  rotate_left
  · intro wv hSw; go_simp; all_goals (with_reducible rfl)
  (try simp only [List.getElem_toArray, List.getElem_cons_zero, put_at, List.set])
  refine wtk (i := 1) (v := ?_) rfl hClosed (Or.inl ⟨by rfl, ?_⟩) hHeld (fun hClosed => ?_)
  rotate_left
  · intro wv hSw; have e0 := cell_blk hSw.1 0; rw [a0] at e0; have e1 := cell_blk hSw.1 3; rw [a3] at e1; have e2 := cell_blk hSw.2 0; rw [b0] at e2; have e3 := cell_blk hSw.2 3; rw [b3] at e3; go_simp; all_goals (with_reducible rfl)
  (try simp only [List.getElem_toArray, List.getElem_cons_succ, List.getElem_cons_zero, put_at, List.set])
  refine wtk (i := 2) (v := ?_) rfl hClosed (Or.inl ⟨by rfl, ?_⟩) hHeld (fun hClosed => ?_)
  rotate_left
  · intro wv hSw; go_simp; all_goals (with_reducible rfl)
  (try simp only [List.getElem_toArray, List.getElem_cons_succ, List.getElem_cons_zero, put_at, List.set])
  refine wtk (i := 3) (v := ?_) rfl hClosed (Or.inl ⟨by rfl, ?_⟩) hHeld (fun hClosed => ?_)
  rotate_left
  · intro wv hSw; have e0 := cell_blk hSw.1 0; rw [a0] at e0; have e1 := cell_blk hSw.1 3; rw [a3] at e1; have e2 := cell_blk hSw.2 0; rw [b0] at e2; have e3 := cell_blk hSw.2 3; rw [b3] at e3; go_simp; all_goals (with_reducible rfl)
  (try simp only [List.getElem_toArray, List.getElem_cons_succ, List.getElem_cons_zero, put_at, List.set])
  refine wtk (i := 5) (v := ?_) rfl hClosed (Or.inl ⟨by rfl, ?_⟩) hHeld (fun hClosed => ?_)
  rotate_left
  · intro wv hSw; go_simp; all_goals (with_reducible rfl)
  (try simp only [List.getElem_toArray, List.getElem_cons_succ, List.getElem_cons_zero, put_at, List.set])
  refine wtk (i := 6) (v := ?_) rfl hClosed (Or.inl ⟨by rfl, ?_⟩) hHeld (fun hClosed => ?_)
  rotate_left
  · intro wv hSw; have e0 := cell_blk hSw.1 0; rw [a0] at e0; have e1 := cell_blk hSw.1 3; rw [a3] at e1; have e2 := cell_blk hSw.2 0; rw [b0] at e2; have e3 := cell_blk hSw.2 3; rw [b3] at e3; go_simp; all_goals (with_reducible rfl)
  (try simp only [List.getElem_toArray, List.getElem_cons_succ, List.getElem_cons_zero, put_at, List.set])
  refine wtk (i := 7) (v := ?_) rfl hClosed (Or.inl ⟨by rfl, ?_⟩) hHeld (fun hClosed => ?_)
  rotate_left
  · intro wv hSw; go_simp; all_goals (with_reducible rfl)
  (try simp only [List.getElem_toArray, List.getElem_cons_succ, List.getElem_cons_zero, put_at, List.set])
  refine wtk (i := 8) (v := ?_) rfl hClosed (Or.inl ⟨by rfl, ?_⟩) hHeld (fun hClosed => ?_)
  rotate_left
  · intro wv hSw; have e0 := cell_blk hSw.1 0; rw [a0] at e0; have e1 := cell_blk hSw.1 3; rw [a3] at e1; have e2 := cell_blk hSw.2 0; rw [b0] at e2; have e3 := cell_blk hSw.2 3; rw [b3] at e3; go_simp; all_goals (with_reducible rfl)
  (try simp only [List.getElem_toArray, List.getElem_cons_succ, List.getElem_cons_zero, put_at, List.set])
  refine wpAnyL_one (i := 4) rfl (by kernel_rfl) (by kernel_rfl) hClosed (fun KK hK => ?_)
  go_simp
  refine (C1.out _).mono ?_
  rintro e wq ⟨rfl, rfl⟩
  go_wp2_with fail
  refine hK.out _ _ ?_ (fun hClosed hHeld => ?_)
  · exact hHeld
  clear hK KK
  (first | simp only [List.getElem_toArray, List.getElem_cons_succ, List.getElem_cons_zero, put_at, List.set] | (try simp only [put_at, List.set]))
  refine wpAnyL_one (i := 9) rfl (by kernel_rfl) (by kernel_rfl) hClosed (fun KK hK => ?_)
  go_simp
  refine (C2.out _).mono ?_
  rintro e wq ⟨rfl, rfl⟩
  go_wp2_with fail
  refine hK.out _ _ ?_ (fun hClosed hHeld => ?_)
  · exact hHeld
  clear hK KK
  (first | simp only [List.getElem_toArray, List.getElem_cons_succ, List.getElem_cons_zero, put_at, List.set] | (try simp only [put_at, List.set]))
  refine wpAnyL_one (i := 10) rfl (by kernel_rfl) (by kernel_rfl) hClosed (fun KK hK => ?_)
  go_simp
  refine hK.out _ _ ?_ (fun hClosed hHeld => ?_)
  · exact ⟨(Below.heap_alloc _ _ A (by first | exact lA | simpa using lA)).trans hHeld.1, (Below.heap_alloc _ _ G (by first | exact lG | simpa using lG)).trans hHeld.2⟩
  clear hK KK
  (first | simp only [List.getElem_toArray, List.getElem_cons_succ, List.getElem_cons_zero, put_at, List.set] | (try simp only [put_at, List.set]))
  refine wpAnyL_one (i := 11) rfl (by kernel_rfl) (by kernel_rfl) hClosed (fun KK hK => ?_)
  go_simp
  refine (CO.out _ _ (by simp [World.cell?_alloc_new]) (by simp [World.cell?_alloc_new])).mono ?_
  rintro e wq ⟨rfl, rfl⟩
  go_wp2_with fail
  refine hK.out _ _ ?_ (fun hClosed hHeld => ?_)
  · exact hHeld
  clear hK KK
  (first | simp only [List.getElem_toArray, List.getElem_cons_succ, List.getElem_cons_zero, put_at, List.set] | (try simp only [put_at, List.set]))
  refine wpAnyL_last rfl (by kernel_rfl) (by kernel_rfl) (fun KK hK => ?_)
  go_simp
  refine hK.out _ _ ?_
  (try simp only [put_at, List.set])
  go_wp2
  go_ret
  exact ⟨by rw [HV.out]; rfl, by rw [hA]; exact BB.out.trans ((((Below.refl w1.heap.size w1).alloc (Nat.le_refl _) _).drew).mono (Nat.le_of_lt lA))⟩
end Go.Proofs.YtimkgaokcldgkaaGreatDoor
