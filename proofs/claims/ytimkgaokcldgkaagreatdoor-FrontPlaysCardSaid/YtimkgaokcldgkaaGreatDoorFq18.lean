/- Part of a chain: SpMath, SpMem, SpFn, SpPau. -/
import Derived.Test.YtimkgaokcldgkaaGreatDoorFq15
import Derived.Test.YtimkgaokcldgkaaGreatDoorFq00
import Derived.Test.YtimkgaokcldgkaaGreatDoorFq03
import Derived.Test.YtimkgaokcldgkaaGreatDoorFq06
import Derived.Test.YtimkgaokcldgkaaGreatDoorFq05
import Derived.Test.YtimkgaokcldgkaaGreatDoorFq07
import Derived.Test.YtimkgaokcldgkaaGreatDoorFq09
import Derived.Maps.Keyed
import Derived.StringKeys
import Derived.WalkKit
import Derived.BigQuiet
import Derived.IntWalk
import Derived.Deep.Cut
import Derived.Deep.CutRange
import Derived.Deep.CutBlock
import Derived.Deep.DeepCutAuto
/- Package spill, told by lists: places, waits, the index that results from records. No program here. -/
namespace Go.Proofs.YtimkgaokcldgkaaGreatDoor
open Go
set_option linter.unusedVariables false

structure Pl where
  seg : Int
  off : Int
  size : Int
  deriving DecidableEq
structure Wt where
  till : Int
  at_ : Pl
  deriving DecidableEq
def pl0 : Pl := ⟨0, 0, 0⟩
def wt0 : Wt := ⟨0, pl0⟩
def nowh : Pl := ⟨9223372036854775807, 9223372036854775807, 0⟩
structure Ix where
  puts : List (Int × Pl)
  waits : List (ByteArray × Wt)
  top : Int
def ix0 : Ix := ⟨[], [], 0⟩
def tillI (x : Ix) (host : ByteArray) : Int := ((gA x.waits host).getD wt0).till
def newsI (x : Ix) (host : ByteArray) (till : Int) : Bool := !decide (till ≤ tillI x host)
def pauseI (x : Ix) (host : ByteArray) (till : Int) (at_ : Pl) : Ix := if newsI x host till then { x with waits := pA x.waits host ⟨till, at_⟩ } else x
def applyI (x : Ix) (r : Rc) (at_ : Pl) : Ix :=
  if r.kind = 1 then { x with puts := pA x.puts r.id at_, top := max x.top r.id }
  else if r.kind = 2 then { x with puts := dA x.puts r.id, top := max x.top r.id }
  else if r.kind = 3 then pauseI x r.host r.till at_
  else x
/-- The records of one segment, from an offset on. -/
def recsI (seg : Int) : Int → List Rc → Ix → Ix
  | _, [], x => x
  | off, r :: t, x => recsI seg (off + (encR r).length) t (applyI x r ⟨seg, off, (encR r).length⟩)
def followL (l : List Int) : Int × Bool := match l.getLast? with
  | none => (0, true)
  | some v => if v = 9223372036854775807 then (0, false) else (v + 1, true)
end Go.Proofs.YtimkgaokcldgkaaGreatDoor
/- Package spill: the index in memory. -/
namespace Go.Proofs.YtimkgaokcldgkaaGreatDoor
open Go Go.RowKit Go.Maps
set_option linter.unusedVariables false
set_option linter.unusedSimpArgs false
set_option maxRecDepth 10000

def knI (n : Int) : Lit := .int .i64 n
def okI (n : Int) : Prop := (Lit.int .i64 n).wf = true
def knS (s : ByteArray) : Lit := .string s.data.toList
def okS (s : ByteArray) : Prop := s.size ≤ maxLen
def plC (p : Pl) : Array Value := #[.int .i64 p.seg, .int .i64 p.off, .int .i64 p.size]
def plV (p : Pl) : Value := .agg (plC p)
def wtV (p : Wt) : Value := .agg #[.int .i64 p.till, .int .i64 p.at_.seg, .int .i64 p.at_.off, .int .i64 p.at_.size]
theorem tyP : MTy Tryz.prog 58 3 81 knI (Value.int .i64) okI (plV pl0) where
  und := Tryz.underlying58
  key := int_keyed Tryz.underlying3
  inj := fun a b h => by unfold knI at h; injection h
  isl := fun k _ => by unfold knI WideAt.IsKeyLit; trivial
  kof := fun k h => keyOf_int_mk Tryz.underlying3 h
  onto := fun v l h => by
    obtain ⟨x, _, e, h2⟩ := Maps.keyOf_i64 Tryz.underlying3 h
    exact ⟨x, h2, e.symm⟩
  zer := fun w => by kernel_rfl
theorem tyW : MTy Tryz.prog 59 9 142 knS Value.string okS (wtV wt0) where
  und := Tryz.underlying59
  key := string_keyed Tryz.underlying9
  inj := fun a b h => by unfold knS at h; injection h with h; exact ByteArray.ext (Array.toList_inj.1 h)
  isl := fun k _ => by unfold knS WideAt.IsKeyLit; trivial
  kof := fun k h => Go.WideMaps.keyOf_string_mk Tryz.underlying9 h
  onto := fun v l h => by
    obtain ⟨s, _, e, h2⟩ := Go.WideMaps.string_of_keyOf Tryz.underlying9 h
    exact ⟨s, h2, e.symm⟩
  zer := fun w => by kernel_rfl
abbrev PtM (w : World) (pm : Nat) (S : List (Int × Pl)) : Prop := Am Tryz.prog 3 knI okI plV w pm S
abbrev WtM1 (w : World) (m : Nat) (S : List (ByteArray × Wt)) : Prop := Am Tryz.prog 9 knS okS wtV w m S
def WtM (w : World) (wm : Option Nat) (S : List (ByteArray × Wt)) : Prop := (wm = none ∧ S = []) ∨ ∃ m, wm = some m ∧ WtM1 w m S
theorem getD_map {α β : Type} (o : Option α) (f : α → β) (d : α) : (o.map f).getD (f d) = f (o.getD d) := by cases o <;> rfl
theorem lookup_none (w : World) (s : ByteArray) (hs : okS s) : (Instr.lookup 59 (.map none) (.string s) false).run Tryz.prog w = .ok (wtV wt0) w := Maps.look_nil false tyW.key tyW.und (tyW.zer w) (tyW.kof s hs)
theorem WtM.look {w : World} {wm : Option Nat} {S : List (ByteArray × Wt)} (h : WtM w wm S) (s : ByteArray) (hs : okS s) : (Instr.lookup 59 (.map wm) (.string s) false).run Tryz.prog w = .ok (wtV ((gA S s).getD wt0)) w := by
  rcases h with ⟨rfl, rfl⟩ | ⟨m, rfl, h⟩
  · exact lookup_none w s hs
  · rw [h.look tyW s hs, getD_map]
theorem WtM.later {w w' : World} {wm : Option Nat} {S : List (ByteArray × Wt)} (h : WtM w wm S) (hb : ∀ m, wm = some m → w'.heap[m]? = w.heap[m]?) : WtM w' wm S := by
  rcases h with ⟨rfl, rfl⟩ | ⟨m, rfl, h⟩
  · exact Or.inl ⟨rfl, rfl⟩
  · exact Or.inr ⟨m, rfl, h.block (hb m rfl)⟩
/-- The index in the cells o, o + 1, o + 2 of block b. -/
structure IxM (w : World) (B b o : Nat) (cs : Array Value) (t : TypeId) (pm : Nat) (wm : Option Nat) (x : Ix) : Prop where
  box : Box w b cs t
  c0 : cs[o]? = some (.map (some pm))
  c1 : cs[o + 1]? = some (.map wm)
  c2 : cs[o + 2]? = some (.int .i64 x.top)
  puts : PtM w pm x.puts
  waits : WtM w wm x.waits
  apart : wm ≠ some pm
  bB : B ≤ b
  pB : B ≤ pm
  wB : ∀ m, wm = some m → B ≤ m
def MineI (b pm : Nat) (wm : Option Nat) (k : Nat) : Prop := k = b ∨ k = pm ∨ wm = some k
theorem am_not_box {P : Program} {kt : TypeId} {κ α : Type} [DecidableEq κ] {lit : κ → Lit} {ok : κ → Prop} {val : α → Value} {w : World} {bm b : Nat} {S : List (κ × α)} {cs : Array Value} {t : TypeId} (h : Am P kt lit ok val w bm S) (k : Box w b cs t) : bm ≠ b := fun e => by
  obtain ⟨D, m, ⟨es, cl, hm, _⟩, _⟩ := h.mp
  have hc : w.heap[b]? = some (.cells cs t (0, 0)) := k
  rw [← e, hm] at hc
  cases hc
theorem IxM.lt {w : World} {B b o : Nat} {cs : Array Value} {t : TypeId} {pm : Nat} {wm : Option Nat} {x : Ix} (h : IxM w B b o cs t pm wm x) {k : Nat} (hk : MineI b pm wm k) : k < w.heap.size ∧ B ≤ k := by
  rcases hk with rfl | rfl | hk
  · exact ⟨h.box.lt, h.bB⟩
  · exact ⟨h.puts.lt, h.pB⟩
  · refine ⟨?_, h.wB k hk⟩
    rcases h.waits with ⟨e, _⟩ | ⟨m, e, hm⟩
    · rw [e] at hk; cases hk
    · rw [e] at hk; cases hk; exact hm.lt
theorem IxM.later {w w' : World} {B b o : Nat} {cs : Array Value} {t : TypeId} {pm : Nat} {wm : Option Nat} {x : Ix} (h : IxM w B b o cs t pm wm x) (hb : Below w.heap.size w w') : IxM w' B b o cs t pm wm x :=
  ⟨h.box.later hb, h.c0, h.c1, h.c2, h.puts.later hb, h.waits.later (fun m hm => hb.block m (h.lt (Or.inr (Or.inr hm))).1), h.apart, h.bB, h.pB, h.wB⟩
theorem IxM.drew {w : World} {B b o : Nat} {cs : Array Value} {t : TypeId} {pm : Nat} {wm : Option Nat} {x : Ix} (h : IxM w B b o cs t pm wm x) : IxM w.drew B b o cs t pm wm x := h.later (Below.refl _ w).drew
/-- What an index is behind a call: the block's other cells stay. -/
def AftI (B b o : Nat) (cs : Array Value) (t : TypeId) (pm : Nat) (wm : Option Nat) (w : World) (x' : Ix) (w' : World) : Prop :=
  ∃ (wm' : Option Nat) (cs' : Array Value), IxM w' B b o cs' t pm wm' x' ∧ (∀ i, i ≠ o + 1 → i ≠ o + 2 → cs'[i]? = cs[i]?) ∧ Only (MineI b pm wm) w w' ∧ (wm' = wm ∨ ∃ m, wm' = some m ∧ w.heap.size ≤ m)
theorem AftI.refl {w w' : World} {B b o : Nat} {cs : Array Value} {t : TypeId} {pm : Nat} {wm : Option Nat} {x : Ix} (h : IxM w B b o cs t pm wm x) (hb : Below w.heap.size w w') : AftI B b o cs t pm wm w x w' :=
  ⟨wm, cs, h.later hb, fun _ _ _ => rfl, Only.of_below _ hb, Or.inl rfl⟩
end Go.Proofs.YtimkgaokcldgkaaGreatDoor
/- Package spill: following, pause. -/
namespace Go.Proofs.YtimkgaokcldgkaaGreatDoor
open Go Go.RowKit Go.Maps
set_option linter.unusedVariables false
set_option linter.unusedSimpArgs false
set_option maxRecDepth 10000

def inL (l : List Int) : List Value := l.map (Value.int .i64)
theorem following_at (l : List Int) (n cap : Nat) (a : Option Addr) (w : World) (hl : l.length = n) (hn : n ≤ 1000000) (hr : RdC w a (inL l)) (hv : ∀ v ∈ l, -9223372036854775808 ≤ v ∧ v ≤ 9223372036854775807) :
    Calls Tryz.prog 45 #[.slice a n cap] w fun e w' => e = .returned (.tuple #[.int .i64 (followL l).1, .bool (followL l).2]) ∧ w' = w := by
  obtain ⟨P, hP⟩ : ∃ P, followL l = P := ⟨_, rfl⟩
  rw [hP]
  by_cases h0 : n = 0
  · subst h0
    have : l = [] := List.eq_nil_of_length_eq_zero hl
    subst this
    subst hP
    go_enter Tryz.func45, Tryz.ntmps45
    go_wp2
    go_ret2
    exact ⟨rfl, rfl⟩
  · obtain ⟨k, rfl⟩ : ∃ k, n = k + 1 := ⟨n - 1, by omega⟩
    obtain ⟨v, hkv⟩ : ∃ v, l[k]? = some v := ⟨_, List.getElem?_eq_getElem (by omega)⟩
    obtain ⟨b, off, rfl, hc⟩ := hr k (.int .i64 v) (by unfold inL; rw [List.getElem?_map, hkv]; rfl)
    obtain ⟨v1, v2⟩ := hv v (List.mem_of_getElem? hkv)
    have hlast : l.getLast? = some v := by rw [List.getLast?_eq_getElem?, hl]; exact hkv
    have HP : Hid (P = if v = 9223372036854775807 then (0, false) else (v + 1, true)) := Lib.hid (by rw [← hP]; unfold followL; rw [hlast])
    have d0 : (((k + 1 : Nat) : Int) == 0) = false := beq_eq_false_iff_ne.2 (by omega)
    have d1 : IntKind.i64.wrap (((k + 1 : Nat) : Int) - 1) = (k : Int) := by rw [IntKind.wrap_i64]; omega
    have i0 : (0 : Int) ≤ (k : Int) := by omega
    have i1 : (k : Int) < ((k + 1 : Nat) : Int) := by omega
    clear hP hr hkv hlast hv
    go_enter Tryz.func45, Tryz.ntmps45
    by_cases hm : v = 9223372036854775807
    · have d2 : (v == 9223372036854775807) = true := beq_iff_eq.2 hm
      go_wp2
      go_ret2
      rw [HP.out, if_pos hm]
      exact ⟨rfl, rfl⟩
    · have d2 : (v == 9223372036854775807) = false := beq_eq_false_iff_ne.2 hm
      have d3 : IntKind.i64.wrap (v + 1) = v + 1 := by rw [IntKind.wrap_i64]; omega
      go_wp2
      go_ret2
      rw [HP.out, if_neg hm]
      exact ⟨rfl, rfl⟩
end Go.Proofs.YtimkgaokcldgkaaGreatDoor
/- Package spill: pause. Written by gen_pause.py. -/
namespace Go.Proofs.YtimkgaokcldgkaaGreatDoor
open Go Go.RowKit Go.Maps
set_option linter.unusedVariables false
set_option linter.unusedSimpArgs false
set_option maxRecDepth 10000

theorem set_ne {cs : Array Value} {i j : Nat} {v : Value} (h : i ≠ j) : (cs.setIfInBounds j v)[i]? = cs[i]? := by
  rw [Array.getElem?_setIfInBounds_ne (fun e => h e.symm)]
theorem set_eq {cs : Array Value} {j : Nat} {v u : Value} (h : cs[j]? = some u) : (cs.setIfInBounds j v)[j]? = some v := by
  have := (Array.getElem?_eq_some_iff.1 h).1
  rw [Array.getElem?_setIfInBounds_self_of_lt this]
/-- A map of waits is made. -/
theorem IxM.made {w : World} {B b o : Nat} {cs : Array Value} {t : TypeId} {pm : Nat} {x : Ix} (h : IxM w B b o cs t pm none x) (hB : B ≤ w.heap.size) :
    IxM ((w.setCell ⟨b, o + 1, none⟩ (.map (some w.heap.size))).alloc (.map #[] 0)) B b o (cs.setIfInBounds (o + 1) (.map (some w.heap.size))) t pm (some w.heap.size) x := by
  have hpb := am_not_box h.puts h.box
  have hmb : w.heap.size ≠ b := fun e => by have := h.box.lt; omega
  have hw : x.waits = [] := by
    rcases h.waits with ⟨_, e⟩ | ⟨m, e, _⟩
    · exact e
    · cases e
  have hsz : (w.setCell ⟨b, o + 1, none⟩ (.map (some w.heap.size))).heap.size = w.heap.size := by simp
  refine ⟨(h.box.set (o + 1) _).alloc _, ?_, set_eq h.c1, ?_, ?_, ?_, ?_, h.bB, h.pB, fun m e => ?_⟩
  · rw [set_ne (by omega)]; exact h.c0
  · rw [set_ne (by omega)]; exact h.c2
  · refine (h.puts.block (Below.heap_setCell _ _ _ pm hpb)).later ((Below.refl _ _).alloc (Nat.le_refl _) _)
  · rw [hw]
    have hnew := Am.new (P := Tryz.prog) (kt := 9) (lit := knS) (ok := okS) (val := wtV) (w.setCell ⟨b, o + 1, none⟩ (.map (some w.heap.size)))
    rw [hsz] at hnew
    exact Or.inr ⟨_, rfl, hnew⟩
  · intro e
    have := h.puts.lt
    injection e with e
    omega
  · injection e with e
    omega
set_option maxHeartbeats 2000000 in
theorem pause_at {w : World} {B b o : Nat} {cs : Array Value} {t : TypeId} {pm : Nat} {wm : Option Nat} {x : Ix} (h : IxM w B b o cs t pm wm x) (s : ByteArray) (hs : okS s) (till : Int) (at_ : Pl) (hB : B ≤ w.heap.size) (hf : x.waits.length ≤ 1000000) (ht : t ≠ 81) :
    Calls Tryz.prog 60 #[.pointer (some ⟨b, o, none⟩), .string s, .int .i64 till, plV at_] w fun e w' => e = .returned (.bool (newsI x s till)) ∧ AftI B b o cs t pm wm w (pauseI x s till at_) w' := by
  obtain ⟨q, hq⟩ : ∃ q, newsI x s till = q := ⟨_, rfl⟩
  obtain ⟨y, hy⟩ : ∃ y, pauseI x s till at_ = y := ⟨_, rfl⟩
  obtain ⟨u, hu⟩ : ∃ u, (gA x.waits s).getD wt0 = u := ⟨_, rfl⟩
  have H0 := Lib.hid h
  have HS := Lib.hid hs
  have HY : Hid (y = if q = true then { x with waits := pA x.waits s ⟨till, at_⟩ } else x) := Lib.hid (by rw [← hy, ← hq]; rfl)
  have hq2 : (!decide (till ≤ u.till)) = q := by rw [← hq, ← hu]; rfl
  have HU := Lib.hid hu
  rw [hq, hy]
  obtain ⟨p1, p2, p3⟩ := at_
  obtain ⟨u0, u1, u2, u3⟩ := u
  dsimp only at hq2
  unfold plV plC
  dsimp only
  clear hq hy hu h hs
  go_enter Tryz.func60, Tryz.ntmps60
  go_upto_region 1 with fail
  refine code_forget (fun W => Hid (Box W w.heap.size #[.int .i64 p1, .int .i64 p2, .int .i64 p3] 81) ∧ Hid (Below w.heap.size w W)) ⟨Lib.hid (Box.new w _ _), Lib.hid ((Below.refl w.heap.size w).alloc (Nat.le_refl _) _)⟩ ?_
  obtain ⟨ap, hap⟩ : ∃ p, w.heap.size = p := ⟨_, rfl⟩
  have HAP := Lib.hid hap
  rw [hap]
  rintro w1 ⟨BP, B1⟩
  rw [← HAP.out] at B1
  clear hap
  have I1 := Lib.hid (H0.out.later B1.out)
  have c1 := (I1.out.box.cell (o + 1)).trans I1.out.c1
  have lk : (Instr.lookup 59 (.map wm) (.string s) false).run Tryz.prog w1 = .ok (.agg #[.int .i64 u0, .int .i64 u1, .int .i64 u2, .int .i64 u3]) w1 := by
    rw [I1.out.waits.look s HS.out, HU.out]
    rfl
  have fl : ∀ W : World, (Instr.field 142 (.agg #[.int .i64 u0, .int .i64 u1, .int .i64 u2, .int .i64 u3]) 0).run Tryz.prog W = .ok (.int .i64 u0) W := fun W => by kernel_rfl
  have FIN : Hid (∀ (wc w5 : World) (m : Nat) (cs' : Array Value) (wz : World), IxM wc B b o cs' t pm (some m) x → (∀ i, i ≠ o + 1 → i ≠ o + 2 → cs'[i]? = cs[i]?) → Only (MineI b pm wm) w wc → (some m = wm ∨ w.heap.size ≤ m) → Below wc.heap.size wc wz → WtM1 w5 m (pA x.waits s ⟨till, p1, p2, p3⟩) → wz.mapTurned w5 m → q = true → AftI B b o cs t pm wm w y w5) := Lib.hid (fun wc w5 m cs' wz k1 k2 k3 k4 k5 k6 k7 k8 => by
    have kz := k1.later k5
    have hg := k7.grown
    have hme : ∀ k, k < wz.heap.size → k ≠ m → w5.heap[k]? = wz.heap[k]? := fun k hk hne => hg.block k hk (fun e => hne (Option.some.inj e))
    have hmb : b ≠ m := fun e => by
      rcases kz.waits with ⟨e2, _⟩ | ⟨m2, e2, hm2⟩
      · cases e2
      · cases e2
        exact am_not_box hm2 kz.box e.symm
    have hmp : pm ≠ m := fun e => kz.apart (by rw [e])
    refine ⟨some m, cs', ⟨(hme b kz.box.lt hmb).trans kz.box, k1.c0, k1.c1, ?_, ?_, ?_, k1.apart, k1.bB, k1.pB, k1.wB⟩, k2, ?_, ?_⟩
    · rw [HY.out, if_pos k8]; exact k1.c2
    · rw [HY.out, if_pos k8]; exact kz.puts.block (hme pm kz.puts.lt hmp)
    · rw [HY.out, if_pos k8]; exact Or.inr ⟨m, rfl, k6⟩
    · refine (k3.later k5).trans (Only.of_grown (R := fun k => k = m) hg (fun k e => (Option.some.inj e).symm)) (fun k hk => ?_)
      rw [hk]
      rcases k4 with k4 | k4
      · exact Or.inl (Or.inr (Or.inr k4.symm))
      · exact Or.inr k4
    · rcases k4 with k4 | k4
      · exact Or.inl k4
      · exact Or.inr ⟨m, rfl, k4⟩)
  by_cases hle : till ≤ u0
  · have d1 : decide (till ≤ u0) = true := decide_eq_true hle
    rw [d1] at hq2
    subst hq2
    go_wp2
    go_ret
    refine ⟨rfl, ?_⟩
    rw [HY.out]
    exact AftI.refl H0.out B1.out
  · have d1 : decide (till ≤ u0) = false := decide_eq_false hle
    rw [d1] at hq2
    subst hq2
    obtain ⟨nb, hnb⟩ : ∃ nb, wm.isNone = nb := ⟨_, rfl⟩
    have eqm : ∀ W : World, (binOp .eql 59 (.map wm) (.map none)).run Tryz.prog W = .ok (.bool nb) W := fun W => by rw [← hnb]; cases wm <;> kernel_rfl
    go_upto_if 22 with fail
    go_cut [] (fun wc => ∃ (m : Nat) (cs' : Array Value), Hid (IxM wc B b o cs' t pm (some m) x) ∧ Hid (∀ i, i ≠ o + 1 → i ≠ o + 2 → cs'[i]? = cs[i]?) ∧ Hid (Only (MineI b pm wm) w wc) ∧ Hid (some m = wm ∨ w.heap.size ≤ m) ∧ Hid (Box wc ap #[.int .i64 p1, .int .i64 p2, .int .i64 p3] 81))
    case first =>
      cases wm with
      | some m =>
        obtain rfl : nb = false := hnb.symm
        go_wp2
        go_meet
        exact ⟨m, cs, I1, Lib.hid (fun _ _ _ => rfl), Lib.hid (Only.of_below _ B1.out), Lib.hid (Or.inl rfl), BP⟩
      | none =>
        obtain rfl : nb = true := hnb.symm
        have hmm := @run_makeMap Tryz.prog
        have lb := I1.out.box.lt
        have fb := I1.out.box.free (o + 1)
        go_wp2
        go_meet
        have hne : b ≠ ap := fun e => by have := H0.out.box.lt; have := HAP.out; omega
        exact ⟨w1.heap.size, _, Lib.hid (I1.out.made (Nat.le_trans hB B1.out.size)), Lib.hid (fun i h1 _ => set_ne h1), Lib.hid (((Only.of_below _ B1.out).setCell (Or.inl (Or.inl rfl)) _).alloc _), Lib.hid (Or.inr B1.out.size), Lib.hid ((BP.out.other (a := ⟨b, o + 1, none⟩) (fun e => hne e.symm) _).alloc _)⟩
    case rest =>
    obtain ⟨m, cs', IC, HC, OC, HM, BP⟩ := hcut
    rename_i wc
    have STO : Hid (∀ W, IxM W B b o cs' t pm (some m) x → ∃ w5, (Instr.mapUpdate 59 (.map (some m)) (.string s) (wtV ⟨till, p1, p2, p3⟩)).run Tryz.prog W = .ok () w5 ∧ WtM1 w5 m (pA x.waits s ⟨till, p1, p2, p3⟩) ∧ W.mapTurned w5 m) := Lib.hid (fun W hW => by
      rcases hW.waits with ⟨e2, _⟩ | ⟨m2, e2, hm2⟩
      · cases e2
      · cases e2
        exact hm2.store tyW s HS.out ⟨till, p1, p2, p3⟩ (by omega))
    have FI2 := FIN
    clear FIN
    have FIN : Hid (∀ w5 wz, WtM1 w5 m (pA x.waits s ⟨till, p1, p2, p3⟩) → wz.mapTurned w5 m → Below wc.heap.size wc wz → (Ending.returned (.bool true) = .returned (.bool true) ∧ AftI B b o cs t pm wm w y w5)) := Lib.hid (fun w5 wz h1 h2 h3 => ⟨rfl, FI2.out wc w5 m cs' wz IC.out HC.out OC.out HM.out h3 h1 h2 rfl⟩)
    go_upto_region 5 with fail
    refine wp_region_last 8 (fun w' => IxM w' B b o cs' t pm (some m) x ∧ Box w' ap #[.int .i64 p1, .int .i64 p2, .int .i64 p3] 81 ∧ Below wc.heap.size wc w') (by kernel_rfl) (⟨IC.out.drew, BP.out.drew, (Below.refl _ wc).drew⟩) (fun hHeld hClosed => ?_)
    refine wtk (i := 0) (v := ?_) rfl hClosed (Or.inl ⟨by rfl, ?_⟩) hHeld (fun hClosed => ?_)
    rotate_left
    · intro wv hSw; go_simp; all_goals (with_reducible rfl)
    (try simp only [List.getElem_toArray, List.getElem_cons_zero, put_at, List.set])
    refine wtk (i := 1) (v := ?_) rfl hClosed (Or.inl ⟨by rfl, ?_⟩) hHeld (fun hClosed => ?_)
    rotate_left
    · intro wv hSw; go_simp; all_goals (with_reducible rfl)
    (try simp only [List.getElem_toArray, List.getElem_cons_succ, List.getElem_cons_zero, put_at, List.set])
    refine wtk (i := 2) (v := ?_) rfl hClosed (Or.inl ⟨by rfl, ?_⟩) hHeld (fun hClosed => ?_)
    rotate_left
    · intro wv hSw; go_simp; all_goals (with_reducible rfl)
    (try simp only [List.getElem_toArray, List.getElem_cons_succ, List.getElem_cons_zero, put_at, List.set])
    refine wtk (i := 3) (v := ?_) rfl hClosed (Or.inl ⟨by rfl, ?_⟩) hHeld (fun hClosed => ?_)
    rotate_left
    · intro wv hSw; have c1 := (hSw.1.box.cell (o + 1)).trans hSw.1.c1; have p0 := hSw.2.1.cell 0; have p1 := hSw.2.1.cell 1; have p2 := hSw.2.1.cell 2; go_simp; all_goals (with_reducible rfl)
    (try simp only [List.getElem_toArray, List.getElem_cons_succ, List.getElem_cons_zero, put_at, List.set])
    refine wtk (i := 4) (v := ?_) rfl hClosed (Or.inl ⟨by rfl, ?_⟩) hHeld (fun hClosed => ?_)
    rotate_left
    · intro wv hSw; go_simp; all_goals (with_reducible rfl)
    (try simp only [List.getElem_toArray, List.getElem_cons_succ, List.getElem_cons_zero, put_at, List.set])
    refine wtk (i := 5) (v := ?_) rfl hClosed (Or.inl ⟨by rfl, ?_⟩) hHeld (fun hClosed => ?_)
    rotate_left
    · intro wv hSw; go_simp; all_goals (with_reducible rfl)
    (try simp only [List.getElem_toArray, List.getElem_cons_succ, List.getElem_cons_zero, put_at, List.set])
    refine wtk (i := 6) (v := ?_) rfl hClosed (Or.inl ⟨by rfl, ?_⟩) hHeld (fun hClosed => ?_)
    rotate_left
    · intro wv hSw; have c1 := (hSw.1.box.cell (o + 1)).trans hSw.1.c1; have p0 := hSw.2.1.cell 0; have p1 := hSw.2.1.cell 1; have p2 := hSw.2.1.cell 2; go_simp; all_goals (with_reducible rfl)
    (try simp only [List.getElem_toArray, List.getElem_cons_succ, List.getElem_cons_zero, put_at, List.set])
    refine wtk (i := 7) (v := ?_) rfl hClosed (Or.inl ⟨by rfl, ?_⟩) hHeld (fun hClosed => ?_)
    rotate_left
    · intro wv hSw; go_simp; all_goals (with_reducible rfl)
    (try simp only [List.getElem_toArray, List.getElem_cons_succ, List.getElem_cons_zero, put_at, List.set])
    refine wpAnyL_last rfl (by kernel_rfl) (by kernel_rfl) (fun KK hK => ?_)
    obtain ⟨w5, hrun5, hm5, ht5⟩ := STO.out _ hHeld.1
    unfold wtV at hrun5
    dsimp only at hrun5
    go_simp
    refine hK.out _ _ ?_
    (try simp only [put_at, List.set])
    have F5 := Lib.hid (FIN.out _ _ hm5 ht5 hHeld.2.2)
    clear hm5 ht5 hHeld FIN FI2 STO
    go_wp2_with fail
    go_ret
    exact ⟨rfl, F5.out.2⟩
end Go.Proofs.YtimkgaokcldgkaaGreatDoor
