/- Layer 13: the acts that came in; a disk with a text beside it. -/
import Derived.Test.YtomeipjglnpciaaDkOpen
import Derived.Test.YtomeipjglnpciaaDkDrop
namespace Go.Proofs.Ytomeipjglnpciaa
open Go Go.RowKit
open Go.Joins Go.Deep Go.WideShapes
set_option linter.unusedVariables false
set_option maxRecDepth 100000
structure DAc where
  what : Int
  n : Int
  m : Int
  ba : Option Addr
  bl : Nat
  bc : Nat
  zs : List Int
/-- What a walk is told of one act. -/
structure D4 (w : World) (g o : Nat) (x : DAc) : Prop where
  c0 : w.cell? ⟨g, o, none⟩ = some (.int .i64 x.what)
  c1 : w.cell? ⟨g, o + 1, none⟩ = some (.int .i64 x.n)
  c2 : w.cell? ⟨g, o + 2, none⟩ = some (.int .i64 x.m)
  c3 : w.cell? ⟨g, o + 3, none⟩ = some (.slice x.ba x.bl x.bc)
  wn : (Lit.int .i64 x.n).wf = true
  wm : (Lit.int .i64 x.m).wf = true
  lz : x.zs.length = x.bl
  rd : RdC w x.ba (u8L x.zs)
theorem D4.later {w w' : World} {g o : Nat} {x : DAc} (h : D4 w g o x) (hb : Below w.heap.size w w') : D4 w' g o x := by
  have k : ∀ {p : Addr} {u : Value}, w.cell? p = some u → w'.cell? p = some u := fun hp => (hb.cell (World.block_lt_of_cell? _ _ hp)).trans hp
  exact ⟨k h.c0, k h.c1, k h.c2, k h.c3, h.wn, h.wm, h.lz, h.rd.later hb⟩
def IsDActs (w : World) (x : Option Addr × Nat × Nat) : Prop :=
  ∃ b off, (0 < x.2.1 → x.1 = some ⟨b, off, none⟩) ∧ x.2.1 ≤ maxLen ∧ ∀ i, i < x.2.1 → ∃ e : DAc, D4 w b (off + i * 4) e
section
variable {H : Type} {enc : TypeId × Value → H} {w : World} {base b0 : Nat} {held : Bool} {rr : Reach}
theorem open_dacts {v : Value} {d : DataW H} {p : List MemPlace} (hv : Value.okWide Try.prog w rr b0 22 v) (hd : DataW.Trod enc Try.prog w base (fun _ => true) held 22 v d p) :
    ∃ x : Option Addr × Nat × Nat, v = .slice x.1 x.2.1 x.2.2 ∧ IsDActs w x := by
  obtain ⟨a, len, cap, rfl⟩ := okWide_slice Try.underlying22 hv
  refine ⟨(a, len, cap), rfl, ?_⟩
  have h : Fits enc Try.prog w base (fun _ => true) held 22 [.slice a len cap] := Fits.of hd
  obtain ⟨C, ⟨rfl, rfl, rfl⟩ | ⟨x, rfl, hl, hm, hx⟩⟩ := h.elems Try.underlying22 (n := 4) (by kernel_rfl)
  · exact ⟨0, 0, fun h => absurd h (by decide), by decide, fun i hi => absurd hi (Nat.not_lt_zero i)⟩
  · by_cases h0 : 0 < cap
    · obtain ⟨b, off, rfl, hc⟩ := plain_at (by decide) (fun i hi => ⟨(hx i hi).1, (hx i hi).2.2⟩) h0
      refine ⟨b, off, fun _ => rfl, (by omega : len ≤ maxLen), fun i hi => ?_⟩
      have hi : i < cap := Nat.lt_of_lt_of_le hi hl
      have hr := (hx i hi).2.1
      obtain ⟨x1, h1, w1⟩ := hr.int Try.underlying29 0 0 rfl rfl rfl Try.underlying3 (by kernel_rfl)
      obtain ⟨x2, h2, w2⟩ := hr.int Try.underlying29 1 1 rfl rfl rfl Try.underlying3 (by kernel_rfl)
      obtain ⟨x3, h3, w3⟩ := hr.int Try.underlying29 2 2 rfl rfl rfl Try.underlying3 (by kernel_rfl)
      obtain ⟨a4, l4, c4, h4, f4⟩ := hr.slice Try.underlying29 3 3 rfl rfl rfl Try.underlying27 (by kernel_rfl)
      obtain ⟨a5, l5, c5, zs, e5, hz, _, hrd⟩ := rds_of f4
      injection e5 with e1 e2 e3
      subst e1 e2 e3
      exact ⟨⟨x1, x2, x3, a4, l4, c4, zs⟩, by simpa using hc i hi 0 _ h1, by simpa using hc i hi 1 _ h2, by simpa using hc i hi 2 _ h3, by simpa using hc i hi 3 _ h4, w2, w3, hz, hrd⟩
    · obtain rfl : cap = 0 := by omega
      obtain rfl : len = 0 := by omega
      exact ⟨0, 0, fun h => absurd h (Nat.lt_irrefl 0), Nat.zero_le _, fun i hi => absurd hi (Nat.not_lt_zero i)⟩
end
/-- A disk, and a text that lies beside it. -/
def BdX (w w' : World) (B : Nat) (M : Int) (S : Sgs) (cnt : Nat) (xa : Option Addr) (zs : List Int) (ab : Option Nat) (cs : Array Value) : Prop :=
  ∃ V ua uc un beh fal, Dm w' B (B + 1) B S V ua uc un M beh fal ∧ Below B w w' ∧ (S.length : Int) ≤ M ∧ un.length ≤ cnt ∧ RdC w' xa (u8L zs) ∧ (∀ g off, xa = some ⟨g, off, none⟩ → zs ≠ [] → g < w'.heap.size ∧ ¬ MineD (B + 1) B S V ua g) ∧ ∀ g, ab = some g → Box w' g cs 29 ∧ ¬ MineD (B + 1) B S V ua g
theorem RdC.none (w : World) (a : Option Addr) : RdC w a (u8L []) := fun j u hj => by simp [u8L] at hj
theorem bx_step {wr w' : World} {B : Nat} {S S2 : Sgs} {V V2 : VF} {ua ua2 : Option Addr} {ab : Option Nat} {cs : Array Value} (hbx : ∀ g, ab = some g → Box wr g cs 29 ∧ ¬ MineD (B + 1) B S V ua g) (ht : TurnD (B + 1) B S V ua wr S2 V2 ua2 w') :
    ∀ g, ab = some g → Box w' g cs 29 ∧ ¬ MineD (B + 1) B S2 V2 ua2 g := fun g e => by
  obtain ⟨h1, h2⟩ := hbx g e
  refine ⟨h1.only ht.1 h2, fun hm => ?_⟩
  rcases ht.2 g hm with h3 | h3
  · exact h2 h3
  · have := h1.lt
    omega
theorem bd_step {w wr w' : World} {B cnt2 uc uc2 : Nat} {M beh fal beh2 fal2 : Int} {S S2 : Sgs} {V V2 : VF} {ua ua2 : Option Addr} {un un2 : Pcs} {xa : Option Addr} {zs : List Int} {ab : Option Nat} {cs : Array Value} (hB : B ≤ w.heap.size) (hd : Dm wr B (B + 1) B S V ua uc un M beh fal) (hb : Below B w wr)
    (hr : RdC wr xa (u8L zs)) (hx : ∀ g off, xa = some ⟨g, off, none⟩ → zs ≠ [] → g < wr.heap.size ∧ ¬ MineD (B + 1) B S V ua g)
    (hbx : ∀ g, ab = some g → Box wr g cs 29 ∧ ¬ MineD (B + 1) B S V ua g)
    (hd2 : Dm w' B (B + 1) B S2 V2 ua2 uc2 un2 M beh2 fal2) (ht : TurnD (B + 1) B S V ua wr S2 V2 ua2 w') (hl : (S2.length : Int) ≤ M) (hu : un2.length ≤ cnt2) : BdX w w' B M S2 cnt2 xa zs ab cs := by
  refine ⟨V2, ua2, uc2, un2, beh2, fal2, hd2, hb.trans (hd.turn ht (Nat.le_trans hB hb.size)), hl, hu, ?_, fun g off e hne => ?_, bx_step hbx ht⟩
  · by_cases h0 : zs = []
    · rw [h0]; exact RdC.none _ _
    · exact hr.only ht.1 fun g off e => (hx g off e h0).2
  · obtain ⟨h1, h2⟩ := hx g off e hne
    refine ⟨Nat.lt_of_lt_of_le h1 ht.1.size, fun hm => ?_⟩
    rcases ht.2 g hm with h3 | h3
    · exact h2 h3
    · omega
theorem bd_segs {w wr : World} {B cnt K : Nat} {M : Int} {S : Sgs} {xa : Option Addr} {zs : List Int} {ab : Option Nat} {cs : Array Value} (hB : B ≤ w.heap.size) (h : BdX w wr B M S cnt xa zs ab cs) (hK : S.length = K) :
    Calls Try.prog 15 #[.pointer (some ⟨B + 1, 0, none⟩)] wr fun e w' => ∃ a c, e = .returned (.slice a K c) ∧ Hid (BdX w w' B M S cnt xa zs ab cs) := by
  obtain ⟨V, ua, uc, un, beh, fal, hd, hb, hl, hu, hr, hx, hbx⟩ := h
  exact (segs_at hd K hK).mono fun e w' ⟨a, c, he, _, hbw⟩ => ⟨a, c, he, Lib.hid (bd_step hB hd hb hr hx hbx (hd.later hbw) (TurnD.refl hbw) hl hu)⟩
def rdE (S : Sgs) (n : Int) : Int := if (gS S n).isSome then 0 else 4
theorem bd_read {w wr : World} {B cnt : Nat} {M : Int} {S : Sgs} {xa : Option Addr} {zs : List Int} {ab : Option Nat} {cs : Array Value} (hB : B ≤ w.heap.size) (h : BdX w wr B M S cnt xa zs ab cs) (n : Int) (hn : (Lit.int .i64 n).wf = true) (L : Nat) (hL : (gD S n).length = L) (E : Int) (hE : rdE S n = E) :
    Calls Try.prog 16 #[.pointer (some ⟨B + 1, 0, none⟩), .int .i64 n] wr fun e w' => ∃ a c, e = .returned (.tuple #[.slice a L c, .int .i64 E]) ∧ Hid (BdX w w' B M S cnt xa zs ab cs) ∧ Hid (BdX w w' B M S cnt a (gD S n) ab cs) := by
  obtain ⟨V, ua, uc, un, beh, fal, hd, hb, hl, hu, hr, hx, hbx⟩ := h
  refine (read_at hd n hn).mono fun e w' hp => ?_
  rcases hp with ⟨hg, he, hbw⟩ | ⟨hs, a, c, he, ho, hbw⟩
  · have e1 : gD S n = [] := by unfold gD; rw [hg]; rfl
    have e2 : rdE S n = 4 := by unfold rdE; rw [hg]; rfl
    rw [e1] at hL ⊢
    subst hL
    rw [← hE, e2]
    exact ⟨none, 0, he, Lib.hid (bd_step hB hd hb hr hx hbx (hd.later hbw) (TurnD.refl hbw) hl hu), Lib.hid ⟨V, ua, uc, un, beh, fal, hd.later hbw, hb.trans (hbw.mono (Nat.le_trans hB hb.size)), hl, hu, RdC.none _ _, fun g off e => (by cases e), bx_step hbx (TurnD.refl hbw)⟩⟩
  · have e2 : rdE S n = 0 := by unfold rdE; rw [if_pos hs]
    rw [hL] at he ho
    rw [← hE, e2]
    refine ⟨a, c, he, Lib.hid (bd_step hB hd hb hr hx hbx (hd.later hbw) (TurnD.refl hbw) hl hu), Lib.hid ⟨V, ua, uc, un, beh, fal, hd.later hbw, hb.trans (hbw.mono (Nat.le_trans hB hb.size)), hl, hu, fun j u hj => ?_, fun g off e hne => ?_, bx_step hbx (TurnD.refl hbw)⟩⟩
    · have h0 : 0 < L := by
        have := (List.getElem?_eq_some_iff.1 hj).1
        rw [u8L_len] at this
        omega
      obtain ⟨g, rfl, _⟩ := ho.some_ h0
      exact ⟨g, 0, rfl, by rw [Nat.zero_add]; exact ho.cell hj⟩
    · have h0 : 0 < L := by rw [← hL]; exact List.length_pos_iff.2 hne
      obtain ⟨g', rfl, _⟩ := ho.some_ h0
      injection e with e
      injection e with e
      subst e
      refine ⟨ho.lt.2, fun hm => ?_⟩
      have := (hd.mine hm).1
      have := ho.lt.1
      omega
theorem bd_text {w wr : World} {B cnt l c : Nat} {M : Int} {S : Sgs} {xa : Option Addr} {zs : List Int} {ab : Option Nat} {cs : Array Value} (h : BdX w wr B M S cnt xa zs ab cs) (hl : zs.length = l) : (convert 27 9 (.slice xa l c)).run Try.prog wr = .ok (.string (strL zs)) wr := by
  obtain ⟨V, ua, uc, un, beh, fal, hd, hb, _, hu, hr, hx, hbx⟩ := h
  exact conv_rdc hr hl
theorem bd_len {w wr : World} {B cnt : Nat} {M : Int} {S : Sgs} {xa : Option Addr} {zs : List Int} {ab : Option Nat} {cs : Array Value} (h : BdX w wr B M S cnt xa zs ab cs) : (S.length : Int) ≤ M ∧ ∀ n, (gD S n).length ≤ 2048 := by
  obtain ⟨V, ua, uc, un, beh, fal, hd, hb, hl, _⟩ := h
  exact ⟨hl, hd.seg⟩
theorem bd_bel {w wr : World} {B cnt : Nat} {M : Int} {S : Sgs} {xa : Option Addr} {zs : List Int} {ab : Option Nat} {cs : Array Value} (h : BdX w wr B M S cnt xa zs ab cs) : Below B w wr := by
  obtain ⟨V, ua, uc, un, beh, fal, hd, hb, _⟩ := h
  exact hb
theorem bd_later {w wr w' : World} {B cnt : Nat} {M : Int} {S : Sgs} {xa : Option Addr} {zs : List Int} {ab : Option Nat} {cs : Array Value} (hB : B ≤ w.heap.size) (h : BdX w wr B M S cnt xa zs ab cs) (hbw : Below wr.heap.size wr w') : BdX w w' B M S cnt xa zs ab cs := by
  obtain ⟨V, ua, uc, un, beh, fal, hd, hb, hl, hu, hr, hx, hbx⟩ := h
  exact bd_step hB hd hb hr hx hbx (hd.later hbw) (TurnD.refl hbw) hl hu
def BdP (w : World) (B : Nat) (M : Int) (S : Sgs) (cnt : Nat) (xa : Option Addr) (zs : List Int) (ab : Option Nat) (cs : Array Value) (e : Ending) (w' : World) : Prop := ∃ er S2, e = .returned (.int .i64 er) ∧ (er ≠ 0 → S2 = S) ∧ BdX w w' B M S2 (cnt + 1) xa zs ab cs
theorem bd_app {w wr : World} {B cnt l c : Nat} {M : Int} {S : Sgs} {xa a : Option Addr} {zs bs : List Int} {ab : Option Nat} {cs : Array Value} (hB : B ≤ w.heap.size) (h : BdX w wr B M S cnt xa zs ab cs) (hc : cnt ≤ 999) (n : Int) (hn : (Lit.int .i64 n).wf = true) (hl : bs.length = l) (hl2 : l ≤ 2500) (hr : RdC w a (u8L bs)) (hw : w.heap.size ≤ B) :
    Calls Try.prog 6 #[.pointer (some ⟨B + 1, 0, none⟩), .int .i64 n, .slice a l c] wr (BdP w B M S cnt xa zs ab cs) := by
  obtain ⟨V, ua, uc, un, beh, fal, hd, hb, hlm, hu, hrx, hx, hbx⟩ := h
  by_cases h0 : n < 0
  · exact (app_arg n h0 (B + 1) a l c wr).mono fun e w' ⟨he, hw'⟩ => by
      subst hw'
      exact ⟨1, S, he, fun _ => rfl, bd_step hB hd hb hrx hx hbx hd (TurnD.refl (Below.refl _ _)) hlm (by omega)⟩
  · have hrw : RdC wr a (u8L bs) := hr.later (hb.mono hw)
    refine (app_at hd n (by omega) hn (by omega) bs l hl (by omega) a c hrw (fun g off e hne hm => ?_)).mono fun e w' hp => ?_
    · obtain ⟨b2, o2, e2, hcc⟩ := hr 0 (.int .u8 (bs[0]'(List.length_pos_iff.2 hne))) (by unfold u8L; simp [List.length_pos_iff.2 hne])
      rw [e] at e2
      injection e2 with e2
      injection e2 with e2 _ _
      have h1 := World.block_lt_of_cell? _ _ hcc
      have h2 := (hd.mine hm).2
      dsimp only at h1
      omega
    · rcases hp with ⟨_, he, hbw⟩ | ⟨_, _, he, V2, ua2, uc2, k1, k2⟩ | ⟨hf, _, he, V2, ua2, uc2, k1, k2⟩
      · exact ⟨5, S, he, fun _ => rfl, bd_step hB hd hb hrx hx hbx (hd.later hbw) (TurnD.refl hbw) hlm (by omega)⟩
      · exact ⟨7, S, he, fun _ => rfl, bd_step hB hd hb hrx hx hbx k1 k2 hlm (by omega)⟩
      · refine ⟨0, _, he, fun h => absurd rfl h, bd_step hB hd hb hrx hx hbx k1 k2 ?_ (by rw [List.length_append]; simp; omega)⟩
        rw [len_put hd.mp.ss]
        unfold apF at hf
        rw [Bool.or_eq_false_iff] at hf
        cases hs : (gS S n).isSome with
        | true => simpa using hlm
        | false =>
          have h1 := hf.1
          rw [hs, Bool.not_false, Bool.true_and, decide_eq_false_iff_not] at h1
          simp
          omega
theorem bd_drop {w wr : World} {B cnt : Nat} {M : Int} {S : Sgs} {xa : Option Addr} {zs : List Int} {ab : Option Nat} {cs : Array Value} (hB : B ≤ w.heap.size) (h : BdX w wr B M S cnt xa zs ab cs) (n : Int) (hn : (Lit.int .i64 n).wf = true) :
    Calls Try.prog 10 #[.pointer (some ⟨B + 1, 0, none⟩), .int .i64 n] wr (BdP w B M S cnt xa zs ab cs) := by
  obtain ⟨V, ua, uc, un, beh, fal, hd, hb, hlm, hu, hrx, hx, hbx⟩ := h
  refine (drop_at hd n hn).mono fun e w' hp => ?_
  rcases hp with ⟨_, he, hbw⟩ | ⟨_, _, he, V2, ua2, uc2, k1, k2⟩ | ⟨_, _, he, V2, ua2, uc2, k1, k2⟩
  · exact ⟨4, S, he, fun _ => rfl, bd_step hB hd hb hrx hx hbx (hd.later hbw) (TurnD.refl hbw) hlm (by omega)⟩
  · exact ⟨7, S, he, fun _ => rfl, bd_step hB hd hb hrx hx hbx k1 k2 hlm (by omega)⟩
  · refine ⟨0, _, he, fun h => absurd rfl h, bd_step hB hd hb hrx hx hbx k1 k2 ?_ (Nat.le_trans (keepP_le _ _) (by omega))⟩
    have : (dS S n).length ≤ S.length := List.length_filter_le _ _
    omega
theorem bd_sync {w wr : World} {B cnt : Nat} {M : Int} {S : Sgs} {xa : Option Addr} {zs : List Int} {ab : Option Nat} {cs : Array Value} (hB : B ≤ w.heap.size) (h : BdX w wr B M S cnt xa zs ab cs) :
    Calls Try.prog 8 #[.pointer (some ⟨B + 1, 0, none⟩)] wr (BdP w B M S cnt xa zs ab cs) := by
  obtain ⟨V, ua, uc, un, beh, fal, hd, hb, hlm, hu, hrx, hx, hbx⟩ := h
  refine (sync_at hd).mono fun e w' ⟨he, V2, ua2, uc2, k1, k2⟩ => ⟨_, S, he, fun _ => rfl, bd_step hB hd hb hrx hx hbx k1 k2 hlm ?_⟩
  split
  · omega
  · exact Nat.zero_le _
theorem bd_fault {w wr : World} {B cnt : Nat} {M : Int} {S : Sgs} {xa : Option Addr} {zs : List Int} {ab : Option Nat} {cs : Array Value} (hB : B ≤ w.heap.size) (h : BdX w wr B M S cnt xa zs ab cs) (x y : Int) (hx1 : x ≤ 9223372036854775807) (hy : y ≤ 9223372036854775807) :
    Calls Try.prog 12 #[.pointer (some ⟨B + 1, 0, none⟩), .int .i64 x, .int .i64 y] wr fun e w' => e = .returned (.tuple #[]) ∧ Hid (BdX w w' B M S cnt xa zs ab cs) := by
  obtain ⟨V, ua, uc, un, beh, fal, hd, hb, hlm, hu, hrx, hx, hbx⟩ := h
  exact (fault_at hd x y hx1 hy).mono fun e w' ⟨he, k1, k2⟩ => ⟨he, Lib.hid (bd_step hB hd hb hrx hx hbx k1 k2 hlm hu)⟩
theorem bd_box {w wr : World} {B cnt g : Nat} {M : Int} {S : Sgs} {xa : Option Addr} {zs : List Int} {cs : Array Value} (h : BdX w wr B M S cnt xa zs (some g) cs) : Box wr g cs 29 := by
  obtain ⟨V, ua, uc, un, beh, fal, hd, hb, hlm, hu, hrx, hx, hbx⟩ := h
  exact (hbx g rfl).1
theorem bd_bare {w wr : World} {B cnt cnt2 : Nat} {M : Int} {S : Sgs} {xa : Option Addr} {zs : List Int} {ab : Option Nat} {cs : Array Value} (h : BdX w wr B M S cnt xa zs ab cs) (hc : cnt ≤ cnt2) : BdX w wr B M S cnt2 none [] none #[] := by
  obtain ⟨V, ua, uc, un, beh, fal, hd, hb, hlm, hu, hrx, hx, hbx⟩ := h
  exact ⟨V, ua, uc, un, beh, fal, hd, hb, hlm, by omega, RdC.none _ _, fun g off e => (by cases e), fun g e => (by cases e)⟩
theorem bd_put {w wr w' : World} {B cnt : Nat} {M : Int} {S : Sgs} {cs : Array Value} (hB : B ≤ w.heap.size) (h : BdX w wr B M S cnt none [] none #[]) (hbw : Below wr.heap.size wr w') (hbox : Box w' wr.heap.size cs 29) : BdX w w' B M S cnt none [] (some wr.heap.size) cs := by
  obtain ⟨V, ua, uc, un, beh, fal, hd, hb, hlm, hu, hrx, hx, hbx⟩ := h
  refine ⟨V, ua, uc, un, beh, fal, hd.later hbw, hb.trans (hbw.mono (Nat.le_trans hB hb.size)), hlm, hu, RdC.none _ _, fun g off e => (by cases e), fun g e => ?_⟩
  have e2 : g = wr.heap.size := (Option.some.inj e).symm
  subst e2
  exact ⟨hbox, fun hm => by have := (hd.mine hm).1; omega⟩
end Go.Proofs.Ytomeipjglnpciaa
