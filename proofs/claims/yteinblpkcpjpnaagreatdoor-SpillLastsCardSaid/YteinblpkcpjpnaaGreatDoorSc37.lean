/- Part of a chain: SpSes, SpAwk. -/
import Derived.Test.YteinblpkcpjpnaaGreatDoorSc36
/- Package spill: a log and its disk in a law: each call in one form. -/
namespace Go.Proofs.YteinblpkcpjpnaaGreatDoor
open Go Go.RowKit Go.Maps
set_option linter.unusedVariables false
set_option linter.unusedSimpArgs false
set_option maxRecDepth 100000

/-- A disk that was made behind world w. -/
structure DkS (w : World) (d : Nat) (D : Ds) (RD : Nat → Prop) (W : World) : Prop where
  dk : DkM W RD d D
  ge : ∀ k, RD k → w.heap.size ≤ k
  bl : Below w.heap.size w W
  now : NowM w
/-- A log on it. -/
structure SpS (w : World) (d L K : Nat) (g : Lg) (RD RL : Nat → Prop) (W : World) : Prop where
  lg : LgM W RD RL d L g
  ge : ∀ k, RD k ∨ RL k → w.heap.size ≤ k
  bl : Below w.heap.size w W
  now : NowM w
  few : FewK K g.x
section
variable {w W W' : World} {d L K : Nat} {D : Ds} {g g' : Lg} {RD RL : Nat → Prop}
theorem DkS.later (h : DkS w d D RD W) (hb : Below W.heap.size W W') : DkS w d D RD W' := ⟨h.dk.later hb, h.ge, h.bl.trans (hb.mono h.bl.size), h.now⟩
theorem SpS.later (h : SpS w d L K g RD RL W) (hb : Below W.heap.size W W') : SpS w d L K g RD RL W' := ⟨h.lg.later hb, h.ge, h.bl.trans (hb.mono h.bl.size), h.now, h.few⟩
theorem SpS.drew (h : SpS w d L K g RD RL W) : SpS w d L K g RD RL W.drew := h.later (Below.refl _ _).drew
theorem DkS.drew (h : DkS w d D RD W) : DkS w d D RD W.drew := h.later (Below.refl _ _).drew
theorem SpS.disk (h : SpS w d L K g RD RL W) : DkS w d g.D RD W := ⟨h.lg.dk, fun k hk => h.ge k (Or.inl hk), h.bl, h.now⟩
theorem SpS.mono {M : Nat} (h : SpS w d L K g RD RL W) (hm : K ≤ M) : SpS w d L M g RD RL W := ⟨h.lg, h.ge, h.bl, h.now, few_mono h.few hm⟩
theorem SpS.aft (h : SpS w d L K g RD RL W) {M : Nat} (ha : AftL RD RL d L W g' W') (hf : FewK M g'.x) : ∃ R1 R2, SpS w d L M g' R1 R2 W' ∧ (∀ k, R1 k ∨ R2 k → (RD k ∨ RL k) ∨ W.heap.size ≤ k) ∧ Only (fun k => RD k ∨ RL k) W W' := by
  obtain ⟨R1, R2, k⟩ := ha
  have hn : ∀ x, R1 x ∨ R2 x → (RD x ∨ RL x) ∨ W.heap.size ≤ x := fun x hx => by
    rcases hx with hx | hx
    · rcases k.newD x hx with e | e
      · exact Or.inl (Or.inl e)
      · exact Or.inr e
    · rcases k.newL x hx with e | e
      · exact Or.inl (Or.inr e)
      · exact Or.inr e
  refine ⟨R1, R2, ⟨k.lg, fun x hx => ?_, h.bl.trans (k.only.below h.bl.size h.ge), h.now, hf⟩, hn, k.only⟩
  rcases hn x hx with e | e
  · exact h.ge x e
  · exact Nat.le_trans h.bl.size e
/-- What a call leaves: the log anew, and all else as it was. -/
def SpA (w : World) (d L K : Nat) (RD RL : Nat → Prop) (W : World) (g' : Lg) (W' : World) : Prop := ∃ R1 R2, SpS w d L K g' R1 R2 W' ∧ (∀ k, R1 k ∨ R2 k → (RD k ∨ RL k) ∨ W.heap.size ≤ k) ∧ Only (fun k => RD k ∨ RL k) W W'
theorem s_new (hn : NowM w) (hb : Below w.heap.size w W) (x : Int) : Calls Tryz.prog 8 #[.int .i64 x] W fun e W' => ∃ d RD, e = .returned (.pointer (some ⟨d, 0, none⟩)) ∧ DkS w d ⟨[], [], moI x, 0, 0⟩ RD W' ∧ Below W.heap.size W W' ∧ ∀ k, RD k → W.heap.size ≤ k := by
  refine (dnew_at x W W.heap.size (Nat.le_refl _)).mono ?_
  rintro e W' ⟨rfl, hd, hb2⟩
  have hd0 : Dm W' 0 (W.heap.size + 1) W.heap.size [] (fun _ => (none, 0)) none 0 [] (moI x) 0 0 :=
    ⟨hd.box, ⟨hd.mp.mp, fun n b hn => (by cases hn), fun n m b c _ hn => (by cases hn), List.Pairwise.nil, Nat.zero_le _⟩, Own.nil _ _ _ _, hd.un_ok, Nat.zero_le _, hd.behB, hd.falB, hd.mo, hd.cnt, hd.seg, hd.kw⟩
  exact ⟨_, fun k => MineD (W.heap.size + 1) W.heap.size [] (fun _ => (none, 0)) none k, rfl, ⟨⟨⟨W.heap.size, 0, _, none, hd0, fun k hk => hk⟩, fun k hk => (hd.mine hk).1, fun _ => Byts.nil, fun p hp => (by cases hp), fun n hn => (by cases hn)⟩, fun k hk => Nat.le_trans hb.size (hd.mine hk).2, hb.trans (hb2.mono hb.size), hn⟩, hb2, fun k hk => (hd.mine hk).2⟩
theorem open_few (h : DkM W RD d D) (n : Int) : FewK 32768 (openL D n).x := by
  have hok := replL_ok h.byt h.seg (l := segsL D) (fun s hs => (h.segs_ok s hs).1)
  have hc : (segsL D).length ≤ 16 := by unfold segsL; rw [List.length_map]; exact h.cnt
  exact ⟨by show (replL D.S (segsL D)).puts.length ≤ _; have := hok.2.1; omega, by show (replL D.S (segsL D)).waits.length ≤ _; have := hok.2.2; omega⟩
theorem s_open (h : DkS w d D RD W) (n : Int) : Calls Tryz.prog 9 #[.pointer (some ⟨d, 0, none⟩), .int .i64 n] W fun e W' => ∃ L RL, e = .returned (.tuple #[.pointer (some ⟨L, 0, none⟩), .int .i64 0]) ∧ SpS w d L 32768 (openL D n) RD RL W' ∧ Below W.heap.size W W' ∧ ∀ k, RL k → W.heap.size ≤ k := by
  have hng : ¬ RD gNow := fun e => by
    have h1 := h.ge _ e
    have h2 := h.now.lt
    omega
  refine (kopen_at h.dk n (h.now.later h.bl) hng).mono ?_
  rintro e W' ⟨L, RL, rfl, hl, hf, hb, hg⟩
  refine ⟨L, RL, rfl, ⟨hl, fun k hk => ?_, h.bl.trans (hb.mono h.bl.size), h.now, open_few h.dk n⟩, hb, hg⟩
  rcases hk with hk | hk
  · exact h.ge k hk
  · exact Nat.le_trans h.bl.size (hg k hk)
theorem s_put (h : SpS w d L K g RD RL W) (r : Rc) (hk : r.kind = 1) (hid : okI r.id) (hK1 : 32768 ≤ K) (hK2 : K ≤ 800000) (hgn : g.n ≤ 1000) (X : Lg × Int) (hX : putL g r = X) :
    Calls Tryz.prog 13 #[.pointer (some ⟨L, 0, none⟩), .agg (reqL r).toArray] W fun e W' => e = .returned (.int .i64 X.2) ∧ SpA w d L (K + 1) RD RL W X.1 W' := by
  refine (put_at_ h.lg r hk hid h.few hK1 (by omega) hgn X hX).mono ?_
  rintro e W' ⟨rfl, hc⟩
  exact ⟨rfl, h.aft hc.1 hc.2⟩
theorem s_done (h : SpS w d L K g RD RL W) (id : Int) (hid : okI id) (hK1 : 32768 ≤ K) (hK2 : K ≤ 800000) (hgn : g.n ≤ 1000) (X : Lg × Int) (hX : doneL g id = X) :
    Calls Tryz.prog 14 #[.pointer (some ⟨L, 0, none⟩), .int .i64 id] W fun e W' => e = .returned (.int .i64 X.2) ∧ SpA w d L K RD RL W X.1 W' := by
  refine (done_at h.lg id hid h.few hK1 (by omega) hgn X hX).mono ?_
  rintro e W' ⟨rfl, hc⟩
  exact ⟨rfl, h.aft hc.1 hc.2⟩
theorem s_wait (h : SpS w d L K g RD RL W) (s : ByteArray) (t : Int) (ht : okI t) (hK1 : 32768 ≤ K) (hK2 : K ≤ 800000) (hgn : g.n ≤ 1000) (X : Lg × Int) (hX : waitL g s t = X) :
    Calls Tryz.prog 15 #[.pointer (some ⟨L, 0, none⟩), .string s, .int .i64 t] W fun e W' => e = .returned (.int .i64 X.2) ∧ SpA w d L (K + 2) RD RL W X.1 W' := by
  refine (wait_at h.lg s t ht h.few hK1 hK2 hgn X hX).mono ?_
  rintro e W' ⟨rfl, hc⟩
  exact ⟨rfl, h.aft hc.1 hc.2⟩
theorem s_compact (h : SpS w d L K g RD RL W) (hK1 : 32768 ≤ K) (hK2 : K ≤ 800000) (hgn : g.n ≤ 1000) (X : Lg × Int) (hX : compactL g = X) :
    Calls Tryz.prog 16 #[.pointer (some ⟨L, 0, none⟩)] W fun e W' => e = .returned (.int .i64 X.2) ∧ SpA w d L K RD RL W X.1 W' := by
  refine (compact_at h.lg h.few hK1 (by omega) hgn).mono ?_
  rintro e W' ⟨rfl, hc⟩
  rw [← hX]
  exact ⟨rfl, h.aft hc.1 hc.2⟩
theorem s_pend (h : SpS w d L K g RD RL W) (hK2 : K ≤ 800000) (P : List Rc) (hP : pendL g = P) (M : Nat) (hM : P.length = M) :
    Calls Tryz.prog 19 #[.pointer (some ⟨L, 0, none⟩)] W fun e W' => ∃ a c, e = .returned (.slice a M c) ∧ Own W' W.heap.size 31 5 a M c (flatQ P) ∧ SpS w d L K g RD RL W' ∧ Below W.heap.size W W' := by
  refine (pend_at h.lg ⟨Nat.le_trans h.few.1 (by omega), Nat.le_trans h.few.2 (by omega)⟩ P hP M hM).mono ?_
  rintro e W' ⟨a, c, rfl, ho, hb⟩
  exact ⟨a, c, rfl, ho, h.later hb, hb⟩
theorem s_until (h : SpS w d L K g RD RL W) (s : ByteArray) (hs : okS s) :
    Calls Tryz.prog 21 #[.pointer (some ⟨L, 0, none⟩), .string s] W fun e W' => e = .returned (.int .i64 (tillI g.x s)) ∧ W' = W := by
  obtain ⟨pm, wm, hi, hmi⟩ := h.lg.lx.ix
  exact until_at hi s hs
theorem s_next (h : SpS w d L K g RD RL W) :
    Calls Tryz.prog 11 #[.pointer (some ⟨L, 0, none⟩)] W fun e W' => e = .returned (.int .i64 (nextI g.x)) ∧ W' = W := by
  obtain ⟨pm, wm, hi, hmi⟩ := h.lg.lx.ix
  exact next_at hi (Int.le_trans (by decide) h.lg.lx.ok.top0) h.lg.lx.ok.top1
theorem s_size (h : SpS w d L K g RD RL W) (N : Nat) (hN : g.D.S.length = N) :
    Calls Tryz.prog 22 #[.pointer (some ⟨L, 0, none⟩)] W fun e W' => e = .returned (.int .i64 (N : Int)) ∧ SpS w d L K g RD RL W' ∧ Below W.heap.size W W' := by
  refine (ksize_at h.lg N hN).mono ?_
  rintro e W' ⟨rfl, hb⟩
  exact ⟨rfl, h.later hb, hb⟩
theorem s_fault (h : SpS w d L K g RD RL W) (x y : Int) (hx : x ≤ 9223372036854775807) (hy : y ≤ 9223372036854775807) :
    Calls Tryz.prog 17 #[.pointer (some ⟨d, 0, none⟩), .int .i64 x, .int .i64 y] W fun e W' => e = .returned (.tuple #[]) ∧ SpA w d L K RD RL W ⟨faultD g.D x y, g.n, g.x⟩ W' := by
  refine (kfault_at h.lg.dk x y hx hy).mono ?_
  rintro e W' ⟨rfl, ha⟩
  exact ⟨rfl, h.aft (h.lg.disk ha) h.few⟩
theorem s_crash (h : SpS w d L K g RD RL W) (k : Int) (h1 : -9223372036854775808 ≤ k) (h2 : k ≤ 9223372036854775807) :
    Calls Tryz.prog 18 #[.pointer (some ⟨d, 0, none⟩), .int .i64 k] W fun e W' => e = .returned (.tuple #[]) ∧ SpA w d L K RD RL W ⟨crashD g.D k, g.n, g.x⟩ W' := by
  refine (kcrash_at h.lg.dk k h1 h2).mono ?_
  rintro e W' ⟨rfl, ha⟩
  exact ⟨rfl, h.aft (h.lg.disk ha) h.few⟩
end
/-! The fixed fact. -/
def aw4 : Rc := ⟨1, 4, ⟨#[104]⟩, ⟨#[47]⟩, 0, 0⟩
def aw6 : Rc := ⟨1, 6, ⟨#[104]⟩, ⟨#[47, 120]⟩, 0, 0⟩
theorem nodup_one {l : List Int} {a : Int} (h : l.Nodup) (hm : ∀ i, i ∈ l ↔ i = a) : l = [a] := by
  match l, h with
  | [], _ => exact absurd ((hm a).2 rfl) (by simp)
  | [x], _ => rw [(hm x).1 List.mem_cons_self]
  | x :: y :: t, h =>
    exfalso
    have h1 := (hm x).1 List.mem_cons_self
    have h2 := (hm y).1 (List.mem_cons_of_mem _ List.mem_cons_self)
    rw [h1, h2] at h
    simp at h
theorem Agr.keys {S : Sgs} {x : Ix} (h : Agr S x) (i : Int) : i ∈ x.puts.map Prod.fst ↔ (lstP i (logS S)).isSome = true := by
  rw [gA_keys]
  cases hg : gA x.puts i with
  | none => rw [h.none i hg]; simp
  | some p =>
    obtain ⟨r, h1, _⟩ := h.puts i p hg
    rw [h1]
    simp
theorem pend_one {g : Lg} (h : Agr g.D.S g.x) (hn : (g.x.puts.map Prod.fst).Nodup) {i : Int} {r : Rc} (h1 : ∀ j, j ≠ i → lstP j (logS g.D.S) = none) (h2 : lstP i (logS g.D.S) = some r) : pendL g = [r] := by
  have hk : g.x.puts.map Prod.fst = [i] := nodup_one hn fun j => by
    rw [h.keys]
    by_cases e : j = i
    · rw [e, h2]; simp
    · rw [h1 j e]; simp [e]
  unfold pendL
  rw [hk]
  unfold srtI
  rw [List.mergeSort_singleton, List.filterMap_cons, h.load, h2]
  rfl
theorem few_segs {c : Nat} {g : Lg} (h : CLog 100 c g) (hc : c ≤ 5) : g.D.S.length ≤ 1 := by
  have h1 := h.disk.segs
  have e : (2048 - 100 : Nat) = 1948 := rfl
  rw [e] at h1
  omega
theorem awake_model : ∃ g1 g2 g3 g4 : Lg, putL (openL ⟨[], [], 5, 0, 0⟩ 2) aw4 = (g1, 0) ∧ putL g1 aw6 = (g2, 0) ∧ doneL g2 4 = (g3, 0) ∧ waitL g3 ⟨#[104]⟩ 77 = (g4, 0) ∧ doneL g4 4 = (g4, 4) ∧ pendL (openL g4.D 2) = [aw6] ∧ tillI (openL g4.D 2).x ⟨#[104]⟩ = 77 ∧ nextI (openL g4.D 2).x = 7 ∧ g4.D.S.length = 1 ∧ g1.n = 2 ∧ g2.n = 2 ∧ g3.n = 2 ∧ g4.n = 2 := by
  have c0 := CLog.new 100 5 2 (by decide)
  have s4 : soundR aw4 := by decide
  have s6 : soundR aw6 := by decide
  obtain ⟨g1, p1, c1, l1, n1⟩ := c0.put (by decide) (by have := few_segs c0 (by decide); show ((openL _ _).D.S.length : Int) < 2; omega) (r := aw4) rfl s4 ⟨by decide, by decide⟩ (by unfold encR; rw [recB_length, contR_length]; decide) (by decide)
  have n1 : g1.n = 2 := n1
  obtain ⟨g2, p2, c2, l2, n2⟩ := c1.put (by decide) (by have := few_segs c1 (by decide); omega) (r := aw6) rfl s6 ⟨by decide, by decide⟩ (by unfold encR; rw [recB_length, contR_length]; decide) (by decide)
  rw [n1] at n2
  have l0 : logS (openL ⟨[], [], 5, 0, 0⟩ 2).D.S = [] := rfl
  rw [l0, List.nil_append] at l1
  rw [l1] at l2
  obtain ⟨g3, p3, c3, l3, n3⟩ := c2.done (by decide) (by have := few_segs c2 (by decide); omega) (id := 4) (q := aw4) (by rw [l2]; rfl) (by decide) (by decide) (by decide) (by decide)
  rw [n2] at n3
  rw [l2] at l3
  obtain ⟨g4, p4, c4, l4, n4⟩ := c3.wait (by decide) (by have := few_segs c3 (by decide); omega) (s := ⟨#[104]⟩) (t := 77) (by decide) (by decide) (by decide) (by decide) (by decide)
  rw [n3] at n4
  rw [l3] at l4
  have c5 := c4.open_
  rw [n4] at c5
  have l5 : logS (openL g4.D 2).D.S = [aw4] ++ [aw6] ++ [⟨2, 4, ⟨#[]⟩, ⟨#[]⟩, 0, 0⟩] ++ [waitRc ⟨#[104]⟩ 77] := l4
  refine ⟨g1, g2, g3, g4, p1, p2, p3, p4, c4.done_none (by rw [l4]; rfl), ?_, ?_, ?_, ?_, n1, n2, n3, n4⟩
  · refine pend_one c5.agr (nd_repl _ _) (i := 6) (fun j hj => ?_) (by rw [l5]; rfl)
    rw [l5]
    have h6 : ¬ (6 : Int) = j := fun e => hj e.symm
    by_cases h4 : (4 : Int) = j
    · subst h4; rfl
    · simp [lstP, stP, aw4, aw6, waitRc, h4, h6]
  · rw [c5.agr.waits, l5]
    rfl
  · have ht : (openL g4.D 2).x.top = 6 := by rw [c5.agr.top, l5]; rfl
    unfold nextI
    rw [ht]
    rfl
  · have := few_segs c4 (by decide)
    have hne : g4.D.S ≠ [] := fun e => by
      rw [e] at l4
      cases l4
    cases hS : g4.D.S with
    | nil => exact absurd hS hne
    | cons a t => rw [hS] at this; rw [List.length_cons] at this ⊢; omega
end Go.Proofs.YteinblpkcpjpnaaGreatDoor
/- Package spill: the fixed fact, walked. -/
namespace Go.Proofs.YteinblpkcpjpnaaGreatDoor
open Go Go.RowKit Go.Maps
set_option linter.unusedVariables false
set_option linter.unusedSimpArgs false
set_option maxRecDepth 100000

set_option maxHeartbeats 4000000 in
theorem awake15_at (w : World) (hn : NowM w) : Calls Tryz.prog 12 #[] w fun e w' => e = .returned (.bool true) ∧ Below w.heap.size w w' := by
  obtain ⟨g1, g2, g3, g4, m1, m2, m3, m4, m5, m6, m7, m8, m9, n1, n2, n3, n4⟩ := awake_model
  have M1 := Lib.hid m1
  have M2 := Lib.hid m2
  have M3 := Lib.hid m3
  have M4 := Lib.hid m4
  have M5 := Lib.hid m5
  have M6 := Lib.hid m6
  have M7 := Lib.hid m7
  have M8 := Lib.hid m8
  have M9 := Lib.hid m9
  have N1 := Lib.hid n1
  have N2 := Lib.hid n2
  have N3 := Lib.hid n3
  have N4 := Lib.hid n4
  have HN := Lib.hid hn
  clear m1 m2 m3 m4 m5 m6 m7 m8 m9 n1 n2 n3 n4 hn
  have NW := Lib.hid (s_new HN.out (Below.refl _ w) 5)
  go_enter Tryz.func12, Tryz.ntmps12
  go_wp2_with fail
  refine NW.out.mono ?_
  rintro e w1 ⟨d, RD, rfl, hd, _, _⟩
  have D1 := Lib.hid hd
  clear hd NW
  have OP := Lib.hid (s_open D1.out 2)
  go_wp2_with fail
  refine OP.out.mono ?_
  rintro e w2 ⟨L, RL, rfl, hs, _, _⟩
  have S2 := Lib.hid hs
  clear hs OP D1
  have P1 := Lib.hid (s_put S2.out aw4 rfl (okI_of (by decide) (by decide)) (by omega) (by omega) (by show (2 : Int) ≤ 1000; decide) _ M1.out)
  unfold aw4 reqL at P1
  dsimp only at P1
  go_wp2_with fail
  refine P1.out.mono ?_
  rintro e w3 ⟨rfl, R1, R2, hs, _, _⟩
  have S3 := Lib.hid hs
  clear hs P1 S2
  have P2 := Lib.hid (s_put S3.out aw6 rfl (okI_of (by decide) (by decide)) (by omega) (by omega) (by rw [N1.out]; decide) _ M2.out)
  unfold aw6 reqL at P2
  dsimp only at P2
  go_wp2_with fail
  refine P2.out.mono ?_
  rintro e w4 ⟨rfl, R3, R4, hs, _, _⟩
  have S4 := Lib.hid hs
  clear hs P2 S3
  have P3 := Lib.hid (s_done S4.out 4 (okI_of (by decide) (by decide)) (by omega) (by omega) (by rw [N2.out]; decide) _ M3.out)
  dsimp only at P3
  go_wp2_with fail
  refine P3.out.mono ?_
  rintro e w5 ⟨rfl, R5, R6, hs, _, _⟩
  have S5 := Lib.hid hs
  clear hs P3 S4
  have P4 := Lib.hid (s_wait S5.out ⟨#[104]⟩ 77 (okI_of (by decide) (by decide)) (by omega) (by omega) (by rw [N3.out]; decide) _ M4.out)
  dsimp only at P4
  go_wp2_with fail
  refine P4.out.mono ?_
  rintro e w6 ⟨rfl, R7, R8, hs, _, _⟩
  have S6 := Lib.hid hs
  clear hs P4 S5
  have P5 := Lib.hid (s_done S6.out 4 (okI_of (by decide) (by decide)) (by omega) (by omega) (by rw [N4.out]; decide) _ M5.out)
  dsimp only at P5
  go_wp2_with fail
  refine P5.out.mono ?_
  rintro e w7 ⟨rfl, R9, R10, hs, _, _⟩
  have S7 := Lib.hid hs
  clear hs P5 S6
  have P6 := Lib.hid (s_open S7.out.disk 2)
  go_wp2_with fail
  refine P6.out.mono ?_
  rintro e w8 ⟨L2, RL2, rfl, hs, _, _⟩
  have S8 := Lib.hid hs
  clear hs P6 S7
  have P7 := Lib.hid (s_pend S8.out (by omega) _ M6.out 1 rfl)
  go_wp2_with fail
  refine P7.out.mono ?_
  rintro e w9 ⟨pa, pc, rfl, ho, hs, _⟩
  have S9 := Lib.hid hs
  obtain ⟨pg, hpg, _, _⟩ := ho.some_ (by decide)
  subst hpg
  have ck : w9.cell? ⟨pg, 2, none⟩ = some (.string ⟨#[47, 120]⟩) := ho.cell (j := 2) rfl
  clear ho hs P7 S8
  have U9 := Lib.hid (s_until S9.out ⟨#[104]⟩ (by show (1 : Nat) ≤ maxLen; decide))
  rw [M7.out] at U9
  go_wp2_with fail
  refine U9.out.mono ?_
  rintro e wx ⟨rfl, hw⟩
  subst wx
  have X9 := Lib.hid (s_next S9.out)
  rw [M8.out] at X9
  clear U9
  go_wp2_with fail
  refine X9.out.mono ?_
  rintro e wx ⟨rfl, hw⟩
  subst wx
  have Z9 := Lib.hid (s_size S9.out 1 M9.out)
  clear X9
  go_wp2_with fail
  refine Z9.out.mono ?_
  rintro e w10 ⟨rfl, hs, _⟩
  have S10 := Lib.hid hs
  clear hs Z9 S9 ck
  go_wp2
  go_ret
  exact ⟨rfl, S10.out.bl⟩
end Go.Proofs.YteinblpkcpjpnaaGreatDoor
