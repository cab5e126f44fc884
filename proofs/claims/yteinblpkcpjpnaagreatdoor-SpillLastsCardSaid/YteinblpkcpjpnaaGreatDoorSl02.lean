/- Part of a chain: SpLsm. -/
import Derived.Test.YteinblpkcpjpnaaGreatDoorSl00
import Derived.Test.YteinblpkcpjpnaaGreatDoorSm02
import Derived.Test.YteinblpkcpjpnaaGreatDoorSl01
/- SpillLasts: the log, what was put and what is sure, in memory. -/
namespace Go.Proofs.YteinblpkcpjpnaaGreatDoor
open Go Go.RowKit Go.Maps
set_option linter.unusedVariables false
set_option linter.unusedSimpArgs false
set_option maxRecDepth 100000

theorem SpS.fit {w wr : World} {d L K : Nat} {g : Lg} {RD RL : Nat → Prop} (h : SpS w d L K g RD RL wr) : Fit g := by
  refine ⟨h.lg.lx.ok, fun p hp => ?_, h.lg.dk.seg, fun s hs => (h.lg.dk.segs_ok s hs).1⟩
  obtain ⟨bm, uc, V, ua, hd, _⟩ := h.lg.dk.dm
  exact gS_keys.2 (hd.un_ok.1 p hp)
structure LsS (w wr : World) (d L K c : Nat) (g : Lg) (RD RL : Nat → Prop) (ever sure : List Rc) (ea : Option Addr) (en ec : Nat) (sa : Option Addr) (sn sc : Nat) : Prop where
  sp : SpS w d L K g RD RL wr
  j : JL g ever sure
  n4 : g.n = 4
  eo : Own wr w.heap.size 31 5 ea en ec (flatQ ever)
  el : ever.length = en
  e60 : en ≤ c
  so : Own wr w.heap.size 31 5 sa sn sc (flatQ sure)
  sl : sure.length = sn
  s60 : sn ≤ c
  off : ∀ z, (ea = some ⟨z, 0, none⟩ ∨ sa = some ⟨z, 0, none⟩) → ¬ (RD z ∨ RL z)
  ne : ∀ z, ea = some ⟨z, 0, none⟩ → sa ≠ some ⟨z, 0, none⟩
section
variable {w wr w' : World} {d L K c M : Nat} {g g2 : Lg} {RD RL R3 R4 : Nat → Prop} {ever sure : List Rc} {ea sa : Option Addr} {en ec sn sc : Nat}
theorem LsS.lt (h : LsS w wr d L K c g RD RL ever sure ea en ec sa sn sc) {z : Nat} (hz : ea = some ⟨z, 0, none⟩ ∨ sa = some ⟨z, 0, none⟩) : z < wr.heap.size ∧ w.heap.size ≤ z := by
  rcases hz with hz | hz
  · have h9 := h.eo; rw [hz] at h9; exact ⟨h9.lt.2, h9.lt.1⟩
  · have h9 := h.so; rw [hz] at h9; exact ⟨h9.lt.2, h9.lt.1⟩
theorem LsS.later (h : LsS w wr d L K c g RD RL ever sure ea en ec sa sn sc) (hb : Below wr.heap.size wr w') : LsS w w' d L K c g RD RL ever sure ea en ec sa sn sc :=
  ⟨h.sp.later hb, h.j, h.n4, h.eo.later hb, h.el, h.e60, h.so.later hb, h.sl, h.s60, h.off, h.ne⟩
theorem LsS.mono {c' : Nat} (h : LsS w wr d L K c g RD RL ever sure ea en ec sa sn sc) (hK : K ≤ M) (hc : c ≤ c') : LsS w wr d L M c' g RD RL ever sure ea en ec sa sn sc :=
  ⟨h.sp.mono hK, h.j, h.n4, h.eo, h.el, Nat.le_trans h.e60 hc, h.so, h.sl, Nat.le_trans h.s60 hc, h.off, h.ne⟩
theorem LsS.step (h : LsS w wr d L K c g RD RL ever sure ea en ec sa sn sc) (ha : SpA w d L M RD RL wr g2 w') (hj : JL g2 ever sure) (hn : g2.n = 4) : ∃ R3 R4, LsS w w' d L M c g2 R3 R4 ever sure ea en ec sa sn sc ∧ (∀ k, R3 k ∨ R4 k → (RD k ∨ RL k) ∨ wr.heap.size ≤ k) ∧ Only (fun k => RD k ∨ RL k) wr w' := by
  obtain ⟨R3, R4, hs, hw, ho⟩ := ha
  refine ⟨R3, R4, ⟨hs, hj, hn, h.eo.only ho (fun z hz => h.off z (Or.inl hz)), h.el, h.e60, h.so.only ho (fun z hz => h.off z (Or.inr hz)), h.sl, h.s60, fun z hz e => ?_, h.ne⟩, hw, ho⟩
  rcases hw z e with e | e
  · exact h.off z hz e
  · have := (h.lt hz).1; omega
theorem LsS.opened (h : LsS w wr d L K c g RD RL ever sure ea en ec sa sn sc) {L2 K2 : Nat} {G : Lg} {RL2 : Nat → Prop} (hs : SpS w d L2 K2 G RD RL2 w') (hb : Below wr.heap.size wr w') (hg : ∀ k, RL2 k → wr.heap.size ≤ k) (hj : JL G ever sure) (hn : G.n = 4) : LsS w w' d L2 K2 c G RD RL2 ever sure ea en ec sa sn sc := by
  refine ⟨hs, hj, hn, h.eo.later hb, h.el, h.e60, h.so.later hb, h.sl, h.s60, fun z hz e => ?_, h.ne⟩
  rcases e with e | e
  · exact h.off z hz (Or.inl e)
  · have := (h.lt hz).1
    have := hg z e
    omega
theorem LsS.crashed (h : LsS w wr d L K c g RD RL ever sure ea en ec sa sn sc) {w5 : World} {L2 K2 : Nat} {G : Lg} {RL2 : Nat → Prop} (hw : ∀ k, R3 k ∨ R4 k → (RD k ∨ RL k) ∨ wr.heap.size ≤ k) (ho : Only (fun k => RD k ∨ RL k) wr w5) (hs : SpS w d L2 K2 G R3 RL2 w') (hb : Below w5.heap.size w5 w') (hg : ∀ k, RL2 k → w5.heap.size ≤ k) (hj : JL G ever sure) (hn : G.n = 4) : LsS w w' d L2 K2 c G R3 RL2 ever sure ea en ec sa sn sc := by
  refine ⟨hs, hj, hn, (h.eo.only ho (fun z hz => h.off z (Or.inl hz))).later hb, h.el, h.e60, (h.so.only ho (fun z hz => h.off z (Or.inr hz))).later hb, h.sl, h.s60, fun z hz e => ?_, h.ne⟩
  rcases e with e | e
  · rcases hw z (Or.inl e) with e | e
    · exact h.off z hz e
    · have := (h.lt hz).1; omega
  · have := (h.lt hz).1
    have := ho.size
    have := hg z e
    omega
theorem SpS.grown (h : SpS w d L K g RD RL wr) {row : Option Nat} (hg : wr.grownBy w' row) (hr : ∀ k, row = some k → ¬ (RD k ∨ RL k) ∧ w.heap.size ≤ k) (hb : Below w.heap.size wr w') : SpS w d L K g RD RL w' := by
  refine ⟨h.lg.keep hg.size (fun k hk hm => hg.block k hk (fun e => ?_)), h.ge, h.bl.trans hb, h.now, h.few⟩
  have h9 := hr k e.symm
  rcases hm with e | e | e
  · exact h9.1 (Or.inl e)
  · exact h9.1 (Or.inr e)
  · have := h.now.lt
    omega
theorem map_block {a : Option Addr} {B n cap size : Nat} {E : TypeId} {xs : List Value} (h : Own wr B E size a n cap xs) {k : Nat} (hk : a.map (·.block) = some k) : a = some ⟨k, 0, none⟩ := by
  rcases h.form with ⟨h1, _⟩ | ⟨z, h1, _⟩
  · rw [h1] at hk; cases hk
  · rw [h1] at hk
    injection hk with hk
    rw [h1, ← hk]
theorem LsS.everApp (h : LsS w wr d L K c g RD RL ever sure ea en ec sa sn sc) {r : Rc} {g5 c5 : Nat} {zs : List Value} (hz : flatQ ever ++ reqL r = zs) (p1 : Own w' w.heap.size 31 5 (some ⟨g5, 0, none⟩) (en + 1) c5 zs) (p2 : wr.grownBy w' (ea.map (·.block))) (p3 : Below w.heap.size wr w') (p4 : ea.map (·.block) = some g5 ∨ g5 = wr.heap.size + 1) :
    LsS w w' d L K (c + 1) g RD RL (ever ++ [r]) sure (some ⟨g5, 0, none⟩) (en + 1) c5 sa sn sc := by
  refine ⟨h.sp.grown p2 (fun k hk => ?_) p3, h.j.wide (fun q hq => List.mem_append.2 (Or.inl hq)) (fun q hq => hq), h.n4, by rw [flatQ_snoc, hz]; exact p1, by rw [List.length_append, h.el]; rfl, by have := h.e60; omega, h.so.blocks (fun z hz => p2.block z (h.lt (Or.inr hz)).1 (fun e => ?_)), h.sl, by have := h.s60; omega, fun z hz => ?_, fun z hz e => ?_⟩
  · have := map_block h.eo hk
    exact ⟨h.off k (Or.inl this), (h.lt (Or.inl this)).2⟩
  · exact h.ne z (map_block h.eo e.symm) hz
  · rcases hz with hz | hz
    · injection hz with hz
      injection hz with hz
      subst hz
      rcases p4 with p4 | p4
      · exact h.off _ (Or.inl (map_block h.eo p4))
      · exact fun e => by have := h.sp.lt _ e; omega
    · exact h.off z (Or.inr hz)
  · injection hz with hz
    injection hz with hz
    subst hz
    rcases p4 with p4 | p4
    · exact h.ne _ (map_block h.eo p4) e
    · have := (h.lt (Or.inr e)).1; omega
theorem LsS.sureApp (h : LsS w wr d L K c g RD RL ever sure ea en ec sa sn sc) {r : Rc} (hj : JL g ever (sure ++ [r])) {g5 c5 : Nat} {zs : List Value} (hz : flatQ sure ++ reqL r = zs) (p1 : Own w' w.heap.size 31 5 (some ⟨g5, 0, none⟩) (sn + 1) c5 zs) (p2 : wr.grownBy w' (sa.map (·.block))) (p3 : Below w.heap.size wr w') (p4 : sa.map (·.block) = some g5 ∨ g5 = wr.heap.size + 1) (hc : sn + 1 ≤ c) :
    LsS w w' d L K c g RD RL ever (sure ++ [r]) ea en ec (some ⟨g5, 0, none⟩) (sn + 1) c5 := by
  refine ⟨h.sp.grown p2 (fun k hk => ?_) p3, hj, h.n4, h.eo.blocks (fun z hz => p2.block z (h.lt (Or.inl hz)).1 (fun e => ?_)), h.el, h.e60, by rw [flatQ_snoc, hz]; exact p1, by rw [List.length_append, h.sl]; rfl, hc, fun z hz => ?_, fun z hz e => ?_⟩
  · have := map_block h.so hk
    exact ⟨h.off k (Or.inr this), (h.lt (Or.inr this)).2⟩
  · exact h.ne z hz (map_block h.so e.symm)
  · rcases hz with hz | hz
    · exact h.off z (Or.inl hz)
    · injection hz with hz
      injection hz with hz
      subst hz
      rcases p4 with p4 | p4
      · exact h.off _ (Or.inr (map_block h.so p4))
      · exact fun e => by have := h.sp.lt _ e; omega
  · injection e with e
    injection e with e
    subst e
    rcases p4 with p4 | p4
    · exact h.ne _ hz (map_block h.so p4)
    · have := (h.lt (Or.inl hz)).1; omega
theorem RqAt.blocks {a : Option Addr} {P : List Rc} (h : RqAt wr a P) (hb : ∀ z, a = some ⟨z, 0, none⟩ → w'.heap[z]? = wr.heap[z]?) : RqAt w' a P := fun i r hr => by
  obtain ⟨g, h1, h2⟩ := h i r hr
  exact ⟨g, h1, fun j u hu => (cell_blk (hb g h1) _).trans (h2 j u hu)⟩
theorem LsS.sure_at (h : LsS w wr d L K c g RD RL ever sure ea en ec sa sn sc) : RqAt wr sa sure := rqAt_own h.so h.sl
theorem LsS.ever_at (h : LsS w wr d L K c g RD RL ever sure ea en ec sa sn sc) : RqAt wr ea ever := rqAt_own h.eo h.el
end
end Go.Proofs.YteinblpkcpjpnaaGreatDoor
