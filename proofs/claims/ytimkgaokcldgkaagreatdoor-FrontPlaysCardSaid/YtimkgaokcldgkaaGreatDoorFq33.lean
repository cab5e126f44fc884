/- Part of a chain: FnSes, FnBox, FnAwM, FnAwk. -/
import Derived.Test.YtimkgaokcldgkaaGreatDoorFq32
import Derived.Test.YtimkgaokcldgkaaGreatDoorFq30
import Derived.Test.YtimkgaokcldgkaaGreatDoorFq14
/- Package front: a Front, its log and its disk in a law; whole requests. -/
namespace Go.Proofs.YtimkgaokcldgkaaGreatDoor
open Go Go.RowKit Go.Maps
set_option linter.unusedVariables false
set_option linter.unusedSimpArgs false
set_option maxRecDepth 100000

/-- A Front, with its log, that were made behind world w. -/
structure FtS (w : World) (d L K : Nat) (g : Lg) (RD RL : Nat → Prop) (f N : Nat) (RF : Nat → Prop) (F : Ft) (W : World) : Prop where
  sp : SpS w d L K g RD RL W
  fr : FtM W RF f L N F
  ap : ∀ k, RF k → ¬ (RD k ∨ RL k)
  ge : ∀ k, RF k → w.heap.size ≤ k
section
variable {w W W' : World} {d L K f N : Nat} {g g' : Lg} {RD RL RF : Nat → Prop} {F F' : Ft}
theorem SpS.only {R : Nat → Prop} (h : SpS w d L K g RD RL W) (ho : Only R W W') (ha : ∀ k, R k → ¬ (RD k ∨ RL k) ∧ w.heap.size ≤ k) : SpS w d L K g RD RL W' := by
  refine ⟨h.lg.keep ho.size (fun k hk hm => ho.block k hk (fun e => ?_)), h.ge, h.bl.trans (ho.below h.bl.size (fun k hk => (ha k hk).2)), h.now, h.few⟩
  have h9 := ha k e
  rcases hm with e | e | e
  · exact h9.1 (Or.inl e)
  · exact h9.1 (Or.inr e)
  · have := h.now.lt
    omega
theorem FtS.later (h : FtS w d L K g RD RL f N RF F W) (hb : Below W.heap.size W W') : FtS w d L K g RD RL f N RF F W' := ⟨h.sp.later hb, h.fr.later hb, h.ap, h.ge⟩
theorem FtS.bl (h : FtS w d L K g RD RL f N RF F W) : Below w.heap.size w W := h.sp.bl
theorem FtS.spa {M : Nat} (h : FtS w d L K g RD RL f N RF F W) (ha : SpA w d L M RD RL W g' W') : ∃ R1 R2, FtS w d L M g' R1 R2 f N RF F W' ∧ (∀ k, R1 k ∨ R2 k → (RD k ∨ RL k) ∨ W.heap.size ≤ k) ∧ Only (fun k => RD k ∨ RL k) W W' := by
  obtain ⟨R1, R2, h1, h2, h3⟩ := ha
  refine ⟨R1, R2, ⟨h1, h.fr.only h3 h.ap, fun k hk hr => ?_, h.ge⟩, h2, h3⟩
  rcases h2 k hr with e | e
  · exact h.ap k hk e
  · have := h.fr.lt hk
    omega
/-- Any change of the Front alone. -/
theorem FtS.aft {M : Nat} (h : FtS w d L K g RD RL f N RF F W) (ha : AftF RF f L M W F' W') : ∃ R2, FtS w d L K g RD RL f M R2 F' W' ∧ (∀ k, R2 k → RF k ∨ W.heap.size ≤ k) ∧ Only RF W W' := by
  obtain ⟨R2, h1, h2⟩ := ha
  have hs := h.sp.only h2.only (fun k hk => ⟨h.ap k hk, h.ge k hk⟩)
  refine ⟨R2, ⟨hs, h1, fun k hk hr => ?_, fun k hk => ?_⟩, h2.new, h2.only⟩
  · rcases h2.new k hk with e | e
    · exact h.ap k e hr
    · rcases hr with hr | hr
      · have := h.sp.lg.dk.lt k hr; omega
      · have := h.sp.lg.lx.lt k hr; omega
  · rcases h2.new k hk with e | e
    · exact h.ge k e
    · exact Nat.le_trans h.sp.bl.size e
theorem FtS.new (h : SpS w d L K g RD RL W) (hf : FtM W' RF f L 0 F) (hb : Below W.heap.size W W') (hg : ∀ k, RF k → W.heap.size ≤ k) : FtS w d L K g RD RL f 0 RF F W' :=
  ⟨h.later hb, hf, fun k hk hr => by
    have h1 := hg k hk
    rcases hr with hr | hr
    · have := h.lg.dk.lt k hr; omega
    · have := h.lg.lx.lt k hr; omega, fun k hk => Nat.le_trans h.bl.size (hg k hk)⟩
end
/-! Whole requests. -/
def rcQ (r : Rq) : Rc := ⟨1, r.id, r.host, r.path, r.prio, r.til⟩
/-- What a Front holds: each host's requests whole, by the log. -/
structure FtW (F : Ft) (g : Lg) (rs : Int → List Rq) : Prop where
  R : ∀ h, F.R h = (rs h).map noP
  ld : ∀ h, ∀ r ∈ rs h, loadL g r.id = some (rcQ r)
  ps : PsOk F (fun i => ((loadL g i).getD rc0).path)
theorem bef_noP (a b : Rq) : befB (noP a) (noP b) = befB a b := rfl
theorem posQ_noP (l : List Rq) (r : Rq) : posQ (l.map noP) (noP r) = posQ l r := by
  induction l with
  | nil => rfl
  | cons x t ih => rw [List.map_cons, posQ_cons, posQ_cons, bef_noP, ih]
theorem ins_noP (l : List Rq) (r : Rq) : insQ (l.map noP) (noP r) = (insQ l r).map noP := by
  unfold insQ
  rw [posQ_noP, List.map_append, List.map_cons, List.map_take, List.map_drop]
theorem srt_noP {l : List Rq} (h : Srt (l.map noP)) : Srt l := by
  unfold Srt at *
  rw [List.pairwise_map] at h
  exact h
section
variable {F : Ft} {g g' : Lg} {rs : Int → List Rq}
theorem FtW.path (h : FtW F g rs) (id : Int) : pathF F g id = ((loadL g id).getD rc0).path := by
  unfold pathF
  cases hg : gA F.ps id with
  | none => rfl
  | some p => exact h.ps id p hg
theorem FtW.pathR (h : FtW F g rs) {x : Int} {r : Rq} (hr : r ∈ rs x) : pathF F g r.id = r.path := by
  rw [h.path, h.ld x r hr]
  rfl
theorem FtW.has (h : FtW F g rs) (x : Int) (p : ByteArray) : hasP F g x p = (rs x).any fun r => r.path.toList == p.toList := by
  unfold hasP
  rw [h.R x, List.any_map]
  exact Bool.eq_iff_iff.2 ⟨fun e => by
      obtain ⟨r, hr, h2⟩ := List.any_eq_true.1 e
      refine List.any_eq_true.2 ⟨r, hr, ?_⟩
      have h3 := h.pathR hr
      have h2 : ((pathF F g r.id).toList == p.toList) = true := h2
      rw [h3] at h2
      exact h2, fun e => by
      obtain ⟨r, hr, h2⟩ := List.any_eq_true.1 e
      refine List.any_eq_true.2 ⟨r, hr, ?_⟩
      have h3 := h.pathR hr
      show ((pathF F g r.id).toList == p.toList) = true
      rw [h3]
      exact h2⟩
theorem FtW.nil (per mem : Int) (g : Lg) : FtW (ft0 per mem) g (fun _ => []) := ⟨fun _ => rfl, fun _ r hr => (by cases hr), fun i p hp => (by cases hp)⟩
theorem FtW.ins (h : FtW F g rs) (x : Int) {r : Rq} (hl : loadL g r.id = some (rcQ r)) : FtW (insF F x r) g (setR rs x (insQ (rs x) r)) := by
  refine ⟨fun k => ?_, fun k y hy => ?_, h.ps.ins x r (by show r.path = _; rw [hl]; rfl)⟩
  · show setR F.R x (insQ (F.R x) (noP r)) k = (setR rs x (insQ (rs x) r) k).map noP
    unfold setR
    split
    · rw [h.R x, ins_noP]
    · exact h.R k
  · unfold setR at hy
    split at hy
    · rcases insQ_mem.1 hy with rfl | hy
      · exact hl
      · exact h.ld x y hy
    · exact h.ld k y hy
theorem FtW.drp (h : FtW F g rs) (x id : Int) : FtW (drpF F x id) g (setR rs x ((rs x).filter fun y => !decide (y.id = id))) := by
  refine ⟨fun k => ?_, fun k y hy => ?_, h.ps.drp x id⟩
  · show setR F.R x ((F.R x).filter fun y => !decide (y.id = id)) k = (setR rs x ((rs x).filter fun y => !decide (y.id = id)) k).map noP
    unfold setR
    split
    · rw [h.R x, List.filter_map]; rfl
    · exact h.R k
  · unfold setR at hy
    split at hy
    · exact h.ld x y (List.mem_filter.1 hy).1
    · exact h.ld k y hy
theorem FtW.kep (h : FtW F g rs) {id : Int} {S' : List (Int × ByteArray)} (hk : kepS F.ps F.mem id (pathF F g id) S') : FtW ⟨F.per, F.mem, F.R, F.hs, S'⟩ g rs :=
  ⟨h.R, h.ld, by
    rw [h.path id] at hk
    exact PsOk.kep (want := fun i => ((loadL g i).getD rc0).path) h.ps hk⟩
/-- Another request is in the log. -/
theorem FtW.put {Z c : Nat} (h : FtW F g rs) (ok : FtOk F) (hc : CLog Z c g) (hc' : CLog Z (c + 1) g') {r : Rq} (hl : logS g'.D.S = logS g.D.S ++ [rcQ r]) (hn : gA F.hs r.id = none) : FtW F g' rs ∧ loadL g' r.id = some (rcQ r) := by
  have e : ∀ id, loadL g' id = if r.id = id then some (rcQ r) else loadL g id := fun id => by
    rw [hc'.agr.load, hl, lstP_snoc, ← hc.agr.load]
    unfold stP
    by_cases e : r.id = id
    · rw [if_pos ⟨rfl, e⟩, if_pos e]
    · rw [if_neg (fun h => e h.2), if_neg (fun h => e h.2), if_neg e]
  have ne : ∀ id, (gA F.hs id).isSome = true → ¬ r.id = id := fun id hi e => by rw [← e, hn] at hi; cases hi
  refine ⟨⟨h.R, fun k y hy => ?_, fun i p hp => ?_⟩, by rw [e, if_pos rfl]⟩
  · rw [e, if_neg (ne y.id (by
      rw [(ok.ids y.id k).2 ⟨noP y, by rw [h.R k]; exact List.mem_map_of_mem hy, rfl⟩]; rfl))]
    exact h.ld k y hy
  · dsimp only
    rw [e, if_neg (ne i (ok.sub i (by rw [hp]; rfl)))]
    exact h.ps i p hp
theorem FtW.head (h : FtW F g rs) {x : Int} {r : Rq} {t : List Rq} (hr : rs x = r :: t) : F.R x = noP r :: t.map noP ∧ wiP (noP r) (pathF F g (noP r).id) = r := by
  refine ⟨by rw [h.R x, hr]; rfl, ?_⟩
  rw [show pathF F g (noP r).id = r.path from h.pathR (by rw [hr]; exact List.mem_cons_self)]
  rfl
end
end Go.Proofs.YtimkgaokcldgkaaGreatDoor
/- Package front in a law: the session's calls, with the law's own boxes beside. -/
namespace Go.Proofs.YtimkgaokcldgkaaGreatDoor
open Go Go.RowKit Go.Maps
set_option linter.unusedVariables false
set_option linter.unusedSimpArgs false
set_option maxRecDepth 100000

abbrev Bxs := List (Nat × Obj)
theorem heap_lt {W : World} {k : Nat} {o : Obj} (h : W.heap[k]? = some o) : k < W.heap.size := (Array.getElem?_eq_some_iff.1 h).1
structure FtB (w : World) (d L K : Nat) (g : Lg) (RD RL : Nat → Prop) (f N : Nat) (RF : Nat → Prop) (F : Ft) (bs : Bxs) (W : World) : Prop where
  ft : FtS w d L K g RD RL f N RF F W
  bx : ∀ b ∈ bs, W.heap[b.1]? = some b.2 ∧ ¬ (RD b.1 ∨ RL b.1) ∧ ¬ RF b.1 ∧ w.heap.size ≤ b.1
section
variable {w W W' : World} {d L K f N M : Nat} {g g' : Lg} {RD RL RF : Nat → Prop} {F F' : Ft} {bs : Bxs}
theorem FtB.later (h : FtB w d L K g RD RL f N RF F bs W) (hb : Below W.heap.size W W') : FtB w d L K g RD RL f N RF F bs W' :=
  ⟨h.ft.later hb, fun b hm => ⟨(hb.block _ (heap_lt (h.bx b hm).1)).trans (h.bx b hm).1, (h.bx b hm).2⟩⟩
theorem FtB.spa (h : FtB w d L K g RD RL f N RF F bs W) (ha : SpA w d L M RD RL W g' W') : ∃ R1 R2, FtB w d L M g' R1 R2 f N RF F bs W' := by
  obtain ⟨R1, R2, h1, h2, h3⟩ := h.ft.spa ha
  refine ⟨R1, R2, h1, fun b hm => ?_⟩
  obtain ⟨q1, q2, q3, q4⟩ := h.bx b hm
  have ql := heap_lt q1
  refine ⟨(h3.block _ ql q2).trans q1, fun e => ?_, q3, q4⟩
  rcases h2 b.1 e with e | e
  · exact q2 e
  · omega
theorem FtB.aft (h : FtB w d L K g RD RL f N RF F bs W) (ha : AftF RF f L M W F' W') : ∃ R2, FtB w d L K g RD RL f M R2 F' bs W' := by
  obtain ⟨R2, h1, h2, h3⟩ := h.ft.aft ha
  refine ⟨R2, h1, fun b hm => ?_⟩
  obtain ⟨q1, q2, q3, q4⟩ := h.bx b hm
  have ql := heap_lt q1
  refine ⟨(h3.block _ ql q3).trans q1, q2, fun e => ?_, q4⟩
  rcases h2 b.1 e with e | e
  · exact q3 e
  · omega
/-- A box of the law's own. -/
theorem FtB.add (h : FtB w d L K g RD RL f N RF F bs W) (cs : Array Value) (t : TypeId) : FtB w d L K g RD RL f N RF F ((W.heap.size, .cells cs t (0, 0)) :: bs) (W.alloc (.cells cs t)) := by
  have hb := (Below.refl W.heap.size W).alloc (Nat.le_refl _) (.cells cs t)
  refine ⟨h.ft.later hb, fun b hm => ?_⟩
  rcases List.mem_cons.1 hm with rfl | hm
  · refine ⟨Box.new W cs t, fun e => ?_, fun e => ?_, h.ft.bl.size⟩
    · rcases e with e | e
      · have := h.ft.sp.lg.dk.lt _ e; dsimp only at this; omega
      · have := h.ft.sp.lg.lx.lt _ e; dsimp only at this; omega
    · have := h.ft.fr.lt e; dsimp only at this; omega
  · exact ⟨(hb.block _ (heap_lt (h.bx b hm).1)).trans (h.bx b hm).1, (h.bx b hm).2⟩
theorem FtB.box (h : FtB w d L K g RD RL f N RF F bs W) {b : Nat} {cs : Array Value} {t : TypeId} (hm : (b, .cells cs t (0, 0)) ∈ bs) : Box W b cs t := (h.bx _ hm).1
/-- First, in a law. -/
def SesF (w : World) (d L K : Nat) (g : Lg) (RD RL : Nat → Prop) (f N : Nat) (RF : Nat → Prop) (F : Ft) (rs : Int → List Rq) (bs : Bxs) (x : Int) (e : Ending) (W' : World) : Prop :=
  match rs x with
  | [] => e = .returned (.tuple #[.agg (rqA rq0), .bool false]) ∧ FtB w d L K g RD RL f N RF F bs W'
  | r :: t => e = .returned (.tuple #[.agg (rqA r), .bool true]) ∧ ∃ S', FtB w d L K g RD RL f N RF ⟨F.per, F.mem, F.R, F.hs, S'⟩ bs W' ∧ FtW ⟨F.per, F.mem, F.R, F.hs, S'⟩ g rs ∧ 1 ≤ S'.length
theorem kep_pos {S S' : List (Int × ByteArray)} {m id : Int} {p : ByteArray} (h : kepS S m id p S') : 1 ≤ S'.length := by
  have hp : ∀ T : List (Int × ByteArray), 1 ≤ (pA T id p).length := fun T => by
    cases T with
    | nil => exact Nat.le_refl _
    | cons a t => obtain ⟨m, c⟩ := a; unfold pA; split <;> simp
  rcases h with ⟨_, rfl⟩ | ⟨_, _, x, _, rfl⟩ <;> exact hp _
theorem ses_first {rs : Int → List Rq} (h : FtB w d L K g RD RL f N RF F bs W) (hw : FtW F g rs) (x : Int) (hx : okI x) (hN : N ≤ 900000) :
    Calls Tryz.prog 17 #[.pointer (some ⟨f, 0, none⟩), .int .i64 x] W (SesF w d L K g RD RL f N RF F rs bs x) := by
  refine (ffirst_at h.ft.fr h.ft.sp.lg x hx hN).mono ?_
  intro e W' hp
  unfold FirstP at hp
  unfold SesF
  cases hr : rs x with
  | nil =>
    have h0 : F.R x = [] := by rw [hw.R x, hr]; rfl
    rw [h0] at hp
    exact ⟨hp.1, h.later hp.2⟩
  | cons r t =>
    obtain ⟨h1, h2⟩ := hw.head hr
    rw [h1] at hp
    obtain ⟨p1, S', p2, p3, p4⟩ := hp
    rw [h2] at p1
    refine ⟨p1, S', ⟨⟨h.ft.sp.only p4 (fun k hk => ⟨h.ft.ap k hk, h.ft.ge k hk⟩), p3, h.ft.ap, h.ft.ge⟩, fun b hm => ?_⟩, hw.kep p2, kep_pos p2⟩
    obtain ⟨q1, q2, q3, q4⟩ := h.bx b hm
    exact ⟨(p4.block _ (heap_lt q1) q3).trans q1, q2, q3, q4⟩
theorem ses_has {rs : Int → List Rq} (h : FtB w d L K g RD RL f N RF F bs W) (hw : FtW F g rs) (x : Int) (hx : okI x) (hN : N ≤ 900000) (p : ByteArray) (q : Bool) (hq : ((rs x).any fun r => r.path.toList == p.toList) = q) :
    Calls Tryz.prog 21 #[.pointer (some ⟨f, 0, none⟩), .int .i64 x, .string p] W fun e W' => e = .returned (.bool q) ∧ FtB w d L K g RD RL f N RF F bs W' := by
  refine (fhas_at h.ft.fr h.ft.sp.lg x hx p hN).mono ?_
  rintro e W' ⟨rfl, hb⟩
  rw [hw.has, hq]
  exact ⟨rfl, h.later hb⟩
/-- Drop of a request that is there. -/
theorem ses_drop {rs : Int → List Rq} (h : FtB w d L K g RD RL f N RF F bs W) (hw : FtW F g rs) (id : Int) (hid : okI id) (hN : N ≤ 900000) :
    Calls Tryz.prog 16 #[.pointer (some ⟨f, 0, none⟩), .int .i64 id] W fun e W' =>
      (gA F.hs id = none ∧ e = .returned (.bool false) ∧ FtB w d L K g RD RL f N RF F bs W') ∨
      (∃ x R2, gA F.hs id = some x ∧ e = .returned (.bool true) ∧ FtB w d L K g RD RL f N R2 (drpF F x id) bs W' ∧ FtW (drpF F x id) g (setR rs x ((rs x).filter fun y => !decide (y.id = id)))) := by
  refine (fdrop_at h.ft.fr id hid hN).mono ?_
  intro e W' hp
  unfold FDropP at hp
  cases hg : gA F.hs id with
  | none =>
    rw [hg] at hp
    obtain ⟨p1, p2⟩ := hp
    subst p2
    exact Or.inl ⟨rfl, p1, h⟩
  | some x =>
    rw [hg] at hp
    obtain ⟨p1, p2⟩ := hp
    obtain ⟨R2, q1⟩ := h.aft p2
    exact Or.inr ⟨x, R2, rfl, p1, q1, hw.drp x id⟩
/-- Add of a request that the log holds. -/
theorem ses_add {rs : Int → List Rq} (h : FtB w d L K g RD RL f N RF F bs W) (hw : FtW F g rs) (x : Int) (hx : okI x) (r : Rq) (hr : okI r.id) (hN : N ≤ 900000) (hl : loadL g r.id = some (rcQ r) ∨ (gA F.hs r.id).isSome = true ∨ F.per ≤ ((rs x).length : Int)) :
    Calls Tryz.prog 10 #[.pointer (some ⟨f, 0, none⟩), .int .i64 x, .agg (rqA r)] W fun e W' =>
      ((gA F.hs r.id).isSome = true ∧ e = .returned (.int .i64 10) ∧ FtB w d L K g RD RL f N RF F bs W') ∨
      (gA F.hs r.id = none ∧ F.per ≤ ((rs x).length : Int) ∧ e = .returned (.int .i64 5) ∧ FtB w d L K g RD RL f N RF F bs W') ∨
      (gA F.hs r.id = none ∧ ¬ F.per ≤ ((rs x).length : Int) ∧ e = .returned (.int .i64 0) ∧ ∃ R2, FtB w d L K g RD RL f (N + 1) R2 (insF F x r) bs W' ∧ FtW (insF F x r) g (setR rs x (insQ (rs x) r))) := by
  have hlen : (F.R x).length = (rs x).length := by rw [hw.R x, List.length_map]
  refine (fadd_at h.ft.fr x hx r hr hN).mono ?_
  intro e W' hp
  rcases hp with ⟨p1, p2, p3⟩ | ⟨p1, p2, p3, p4⟩ | ⟨p1, p2, p3, p4⟩
  · exact Or.inl ⟨p1, p2, h.later p3⟩
  · exact Or.inr (Or.inl ⟨p1, by rw [← hlen]; exact p2, p3, h.later p4⟩)
  · rw [hlen] at p2
    obtain ⟨R2, q1⟩ := h.aft p4
    refine Or.inr (Or.inr ⟨p1, p2, p3, R2, q1, hw.ins x ?_⟩)
    rcases hl with hl | hl | hl
    · exact hl
    · rw [p1] at hl; cases hl
    · exact absurd hl p2
theorem ses_back {rs : Int → List Rq} (h : FtB w d L K g RD RL f N RF F bs W) (hw : FtW F g rs) (x : Int) (hx : okI x) (r : Rq) (hr : okI r.id) (hN : N ≤ 900000) (hl : loadL g r.id = some (rcQ r) ∨ (gA F.hs r.id).isSome = true) :
    Calls Tryz.prog 11 #[.pointer (some ⟨f, 0, none⟩), .int .i64 x, .agg (rqA r)] W fun e W' =>
      ((gA F.hs r.id).isSome = true ∧ e = .returned (.tuple #[]) ∧ FtB w d L K g RD RL f N RF F bs W') ∨
      (gA F.hs r.id = none ∧ e = .returned (.tuple #[]) ∧ ∃ R2, FtB w d L K g RD RL f (N + 1) R2 (insF F x r) bs W' ∧ FtW (insF F x r) g (setR rs x (insQ (rs x) r))) := by
  refine (fback_at h.ft.fr x hx r hr hN).mono ?_
  intro e W' hp
  rcases hp with ⟨p1, p2, p3⟩ | ⟨p1, p2, p3⟩
  · exact Or.inl ⟨p1, p2, h.later p3⟩
  · obtain ⟨R2, q1⟩ := h.aft p3
    refine Or.inr ⟨p1, p2, R2, q1, hw.ins x ?_⟩
    rcases hl with hl | hl
    · exact hl
    · rw [p1] at hl; cases hl
end
end Go.Proofs.YtimkgaokcldgkaaGreatDoor
/- Layer 17's fixed fact: the mathematics. -/
namespace Go.Proofs.YtimkgaokcldgkaaGreatDoor
open Go Go.RowKit Go.Maps
set_option linter.unusedVariables false
set_option linter.unusedSimpArgs false
set_option maxRecDepth 100000

def awR1 : Rq := ⟨1, ⟨#[104]⟩, ⟨#[47, 97]⟩, 0, 0⟩
def awR2 : Rq := ⟨2, ⟨#[104]⟩, ⟨#[47, 98]⟩, 0, 0⟩
def awR9 : Rq := ⟨9, ⟨#[]⟩, ⟨#[]⟩, 0, 0⟩
def awF0 : Ft := ft0 2 1
def awF1 : Ft := insF awF0 3 awR1
def awF2 : Ft := insF awF1 3 awR2
def fwS1 : Int → List Rq := setR (fun _ => []) 3 (insQ [] awR1)
def fwS2 : Int → List Rq := setR fwS1 3 (insQ (fwS1 3) awR2)
theorem aw_s2 : fwS2 3 = [awR1, awR2] := by
  show insQ [awR1] awR2 = _
  have e : posQ [awR1] awR2 = 1 := by decide
  unfold insQ
  rw [e]
  rfl
theorem few_segs_ {Z c : Nat} {g : Lg} (h : CLog Z c g) (hZ : Z ≤ 127) (hc : c ≤ 40) : g.D.S.length ≤ 3 := by
  have h1 := h.disk.segs
  have h2 : c * Z ≤ 40 * 127 := Nat.mul_le_mul hc hZ
  have h3 : (g.D.S.length - 1) * 1921 ≤ (g.D.S.length - 1) * (2048 - Z) := Nat.mul_le_mul_left _ (by omega)
  omega
theorem awake17_model : ∃ g1 g2 : Lg, putL (openL ⟨[], [], moI 9, 0, 0⟩ 4) (rcQ awR1) = (g1, 0) ∧ putL g1 (rcQ awR2) = (g2, 0) ∧ g1.n = 4 ∧ g2.n = 4 ∧ loadL g2 1 = some (rcQ awR1) ∧ loadL g2 2 = some (rcQ awR2) := by
  have c0 : CLog 127 0 (openL ⟨[], [], moI 9, 0, 0⟩ 4) := CLog.new 127 9 4 (by decide)
  have s1 : soundR (rcQ awR1) := by decide
  have s2 : soundR (rcQ awR2) := by decide
  have n0 : (openL ⟨[], [], moI 9, 0, 0⟩ 4).n = 4 := rfl
  obtain ⟨g1, p1, c1, l1, n1⟩ := c0.put (by decide) (by have := few_segs_ c0 (by decide) (by decide); rw [n0]; omega) (r := rcQ awR1) rfl s1 ⟨by decide, by decide⟩ (by unfold encR; rw [recB_length, contR_length]; decide) (by decide)
  rw [n0] at n1
  obtain ⟨g2, p2, c2, l2, n2⟩ := c1.put (by decide) (by have := few_segs_ c1 (by decide) (by decide); omega) (r := rcQ awR2) rfl s2 ⟨by decide, by decide⟩ (by unfold encR; rw [recB_length, contR_length]; decide) (by decide)
  rw [n1] at n2
  have l0 : logS (openL ⟨[], [], moI 9, 0, 0⟩ 4).D.S = [] := rfl
  rw [l0, List.nil_append] at l1
  rw [l1] at l2
  exact ⟨g1, g2, p1, p2, n1, n2, by rw [c2.agr.load, l2]; rfl, by rw [c2.agr.load, l2]; rfl⟩
end Go.Proofs.YtimkgaokcldgkaaGreatDoor
/- Layer 17's fixed fact, walked. Written by gen_awk17.py. -/
namespace Go.Proofs.YtimkgaokcldgkaaGreatDoor
open Go Go.RowKit Go.Maps
set_option linter.unusedVariables false
set_option linter.unusedSimpArgs false
set_option maxRecDepth 100000

set_option maxHeartbeats 4000000 in
theorem awake17_at (w : World) (hn : NowM w) : Calls Tryz.prog 22 #[] w fun e w' => e = .returned (.bool true) ∧ Below w.heap.size w w' := by
  obtain ⟨g1, g2, m1, m2, n1, n2, l1, l2⟩ := awake17_model
  have M1 := Lib.hid m1
  have M2 := Lib.hid m2
  have N1 := Lib.hid n1
  have N2 := Lib.hid n2
  have L1 := Lib.hid l1
  have L2 := Lib.hid l2
  have HN := Lib.hid hn
  have K3 : Hid (okI 3) := Lib.hid (okI_of (by decide) (by decide))
  clear m1 m2 n1 n2 l1 l2 hn
  have NW := Lib.hid (s_new HN.out (Below.refl _ w) 9)
  go_enter Tryz.func22, Tryz.ntmps22
  go_wp2_with fail
  refine NW.out.mono ?_
  rintro e w1 ⟨d, RD, rfl, hd, _, _⟩
  have D1 := Lib.hid hd
  clear hd NW
  have OP := Lib.hid (s_open D1.out 4)
  go_wp2_with fail
  refine OP.out.mono ?_
  rintro e w2 ⟨L, RL, rfl, hs, _, _⟩
  have S2 := Lib.hid hs
  clear hs OP D1
  have FN := Lib.hid (fnew_at 2 1 L w2)
  go_wp2_with fail
  refine FN.out.mono ?_
  rintro e w3 ⟨f, RF, rfl, hf, hb, hg⟩
  have T3 := Lib.hid (FtS.new S2.out hf hb hg)
  have T3 : Hid (FtB w d L 32768 (openL ⟨[], [], moI 9, 0, 0⟩ 4) RD RL f 0 RF awF0 [] w3) := Lib.hid ⟨T3.out, fun b hb => by cases hb⟩
  clear hf hb hg FN S2
  go_upto_region 4 with fail
  refine code_forget (fun W => Hid (FtB w d L 32768 (openL ⟨[], [], moI 9, 0, 0⟩ 4) RD RL f 0 RF awF0 [(w3.heap.size, .cells #[.int .i64 1, .string ⟨#[104]⟩, .string ⟨#[47, 97]⟩, .int .i64 0, .int .i64 0] 35 (0, 0))] W)) (Lib.hid (T3.out.add _ _)) ?_
  obtain ⟨rb, hrb⟩ : ∃ p, w3.heap.size = p := ⟨_, rfl⟩
  rw [hrb]
  clear hrb T3
  rintro w4 T4
  go_upto_region 5 with fail
  refine code_forget (fun W => Hid (FtB w d L 32768 (openL ⟨[], [], moI 9, 0, 0⟩ 4) RD RL f 0 RF awF0 [(w4.heap.size, .cells #[.int .i64 2, .string ⟨#[104]⟩, .string ⟨#[47, 98]⟩, .int .i64 0, .int .i64 0] 35 (0, 0)), (rb, .cells #[.int .i64 1, .string ⟨#[104]⟩, .string ⟨#[47, 97]⟩, .int .i64 0, .int .i64 0] 35 (0, 0))] W)) (Lib.hid (T4.out.add _ _)) ?_
  obtain ⟨sb, hsb⟩ : ∃ p, w4.heap.size = p := ⟨_, rfl⟩
  rw [hsb]
  clear hsb T4
  rintro w5 T5
  obtain ⟨bs, hbs⟩ : ∃ bs, ([(sb, .cells #[.int .i64 2, .string ⟨#[104]⟩, .string ⟨#[47, 98]⟩, .int .i64 0, .int .i64 0] 35 (0, 0)), (rb, .cells #[.int .i64 1, .string ⟨#[104]⟩, .string ⟨#[47, 97]⟩, .int .i64 0, .int .i64 0] 35 (0, 0))] : Bxs) = bs := ⟨_, rfl⟩
  have HBR : Hid ((rb, .cells #[.int .i64 1, .string ⟨#[104]⟩, .string ⟨#[47, 97]⟩, .int .i64 0, .int .i64 0] 35 (0, 0)) ∈ bs) := Lib.hid (by rw [← hbs]; simp)
  have HBS : Hid ((sb, .cells #[.int .i64 2, .string ⟨#[104]⟩, .string ⟨#[47, 98]⟩, .int .i64 0, .int .i64 0] 35 (0, 0)) ∈ bs) := Lib.hid (by rw [← hbs]; simp)
  rw [hbs] at T5
  clear hbs
  have P1 := Lib.hid (s_put T5.out.ft.sp (rcQ awR1) rfl (okI_of (by decide) (by decide)) (by omega) (by omega) (by show (4 : Int) ≤ 1000; decide) _ M1.out)
  unfold rcQ awR1 reqL at P1
  dsimp only at P1
  have B5 := Lib.hid (T5.out.box HBR.out)
  have a0 := B5.out.cell 0
  have a1 := B5.out.cell 1
  have a2 := B5.out.cell 2
  have a3 := B5.out.cell 3
  have a4 := B5.out.cell 4
  go_wp2_with fail
  refine P1.out.mono ?_
  rintro e w6 ⟨rfl, ha⟩
  obtain ⟨RD1, RL1, ht6⟩ := T5.out.spa ha
  have T6 := Lib.hid ht6
  clear ha ht6 P1 T5 B5 a0 a1 a2 a3 a4
  have P2 := Lib.hid (s_put T6.out.ft.sp (rcQ awR2) rfl (okI_of (by decide) (by decide)) (by omega) (by omega) (by rw [N1.out]; decide) _ M2.out)
  unfold rcQ awR2 reqL at P2
  dsimp only at P2
  have B6 := Lib.hid (T6.out.box HBS.out)
  have a0 := B6.out.cell 0
  have a1 := B6.out.cell 1
  have a2 := B6.out.cell 2
  have a3 := B6.out.cell 3
  have a4 := B6.out.cell 4
  go_wp2_with fail
  refine P2.out.mono ?_
  rintro e w7 ⟨rfl, ha⟩
  obtain ⟨RD2, RL2, ht7⟩ := T6.out.spa ha
  have HB7 := Lib.hid ht7
  clear ha ht7 P2 T6 B6 a0 a1 a2 a3 a4
  obtain ⟨K, hK⟩ : ∃ K, 32768 + 1 + 1 = K := ⟨_, rfl⟩
  have HB7 : Hid (FtB w d L K g2 RD2 RL2 f 0 RF awF0 bs w7) := Lib.hid (by rw [← hK]; exact HB7.out)
  clear hK
  have AD1 : Hid (∀ W, FtB w d L K g2 RD2 RL2 f 0 RF awF0 bs W → Calls Tryz.prog 10 #[.pointer (some ⟨f, 0, none⟩), .int .i64 3, .agg #[.int .i64 1, .string ⟨#[104]⟩, .string ⟨#[47, 97]⟩, .int .i64 0, .int .i64 0]] W fun e W' => e = .returned (.int .i64 0) ∧ ∃ R2, Hid (FtB w d L K g2 RD2 RL2 f 1 R2 awF1 bs W' ∧ FtW awF1 g2 fwS1)) := Lib.hid (fun W hW => (ses_add hW (FtW.nil 2 1 g2) 3 K3.out awR1 (okI_of (by decide) (by decide)) (by omega) (Or.inl L1.out)).mono fun e W' hp => by
    rcases hp with ⟨p1, _⟩ | ⟨_, p2, _⟩ | ⟨_, _, p3, R2, p4, p5⟩
    · cases p1
    · exact absurd p2 (by decide)
    · exact ⟨p3, R2, Lib.hid ⟨p4, p5⟩⟩)
  have AD2 : Hid (∀ W R3, FtB w d L K g2 RD2 RL2 f 1 R3 awF1 bs W → FtW awF1 g2 fwS1 → Calls Tryz.prog 10 #[.pointer (some ⟨f, 0, none⟩), .int .i64 3, .agg #[.int .i64 2, .string ⟨#[104]⟩, .string ⟨#[47, 98]⟩, .int .i64 0, .int .i64 0]] W fun e W' => e = .returned (.int .i64 0) ∧ ∃ R2, Hid (FtB w d L K g2 RD2 RL2 f 2 R2 awF2 bs W' ∧ FtW awF2 g2 fwS2)) := Lib.hid (fun W R3 hW hF => (ses_add hW hF 3 K3.out awR2 (okI_of (by decide) (by decide)) (by omega) (Or.inl L2.out)).mono fun e W' hp => by
    rcases hp with ⟨p1, _⟩ | ⟨_, p2, _⟩ | ⟨_, _, p3, R2, p4, p5⟩
    · exact absurd p1 (by decide)
    · exact absurd p2 (by decide)
    · exact ⟨p3, R2, Lib.hid ⟨p4, p5⟩⟩)
  go_upto_region 7 with fail
  refine wp_region_last 7 (fun w' => Box w' rb #[.int .i64 1, .string ⟨#[104]⟩, .string ⟨#[47, 97]⟩, .int .i64 0, .int .i64 0] 35 ∧ Box w' sb #[.int .i64 2, .string ⟨#[104]⟩, .string ⟨#[47, 98]⟩, .int .i64 0, .int .i64 0] 35) (by kernel_rfl) (⟨(HB7.out.box HBR.out).drew, (HB7.out.box HBS.out).drew⟩) (fun hHeld hClosed => ?_)
  refine wtk (i := 0) (v := ?_) rfl hClosed (Or.inl ⟨by rfl, ?_⟩) hHeld (fun hClosed => ?_)
  rotate_left
  · intro wv hSw; go_simp; all_goals (with_reducible rfl)
  (try simp only [List.getElem_toArray, List.getElem_cons_zero, put_at, List.set])
  refine wtk (i := 1) (v := ?_) rfl hClosed (Or.inl ⟨by rfl, ?_⟩) hHeld (fun hClosed => ?_)
  rotate_left
  · intro wv hSw; have a0 := hSw.1.cell 0; have a1 := hSw.1.cell 1; have a2 := hSw.1.cell 2; have a3 := hSw.1.cell 3; have a4 := hSw.1.cell 4; have b0 := hSw.2.cell 0; have b1 := hSw.2.cell 1; have b2 := hSw.2.cell 2; have b3 := hSw.2.cell 3; have b4 := hSw.2.cell 4; go_simp; all_goals (with_reducible rfl)
  (try simp only [List.getElem_toArray, List.getElem_cons_succ, List.getElem_cons_zero, put_at, List.set])
  refine wtk (i := 3) (v := ?_) rfl hClosed (Or.inl ⟨by rfl, ?_⟩) hHeld (fun hClosed => ?_)
  rotate_left
  · intro wv hSw; go_simp; all_goals (with_reducible rfl)
  (try simp only [List.getElem_toArray, List.getElem_cons_succ, List.getElem_cons_zero, put_at, List.set])
  refine wtk (i := 4) (v := ?_) rfl hClosed (Or.inl ⟨by rfl, ?_⟩) hHeld (fun hClosed => ?_)
  rotate_left
  · intro wv hSw; have a0 := hSw.1.cell 0; have a1 := hSw.1.cell 1; have a2 := hSw.1.cell 2; have a3 := hSw.1.cell 3; have a4 := hSw.1.cell 4; have b0 := hSw.2.cell 0; have b1 := hSw.2.cell 1; have b2 := hSw.2.cell 2; have b3 := hSw.2.cell 3; have b4 := hSw.2.cell 4; go_simp; all_goals (with_reducible rfl)
  (try simp only [List.getElem_toArray, List.getElem_cons_succ, List.getElem_cons_zero, put_at, List.set])
  refine wpAnyL_one (i := 2) rfl (by kernel_rfl) (by kernel_rfl) hClosed (fun KK hK => ?_)
  go_simp
  refine (AD1.out _ (HB7.out.later (Below.refl _ _).drew)).mono ?_
  rintro e wq ⟨rfl, R3, HQ⟩
  go_wp2_with fail
  refine hK.out _ _ ?_ (fun hClosed hHeld => ?_)
  · exact ⟨HQ.out.1.box HBR.out, HQ.out.1.box HBS.out⟩
  clear hK KK
  (first | simp only [List.getElem_toArray, List.getElem_cons_succ, List.getElem_cons_zero, put_at, List.set] | (try simp only [put_at, List.set]))
  refine wpAnyL_one (i := 5) rfl (by kernel_rfl) (by kernel_rfl) hClosed (fun KK hK => ?_)
  go_simp
  refine (AD2.out _ _ HQ.out.1 HQ.out.2).mono ?_
  rintro e wp ⟨rfl, R4, HP⟩
  go_wp2_with fail
  refine hK.out _ _ ?_ (fun hClosed hHeld => ?_)
  · exact ⟨HP.out.1.box HBR.out, HP.out.1.box HBS.out⟩
  clear hK KK
  (first | simp only [List.getElem_toArray, List.getElem_cons_succ, List.getElem_cons_zero, put_at, List.set] | (try simp only [put_at, List.set]))
  refine wtk (i := 6) (v := ?_) rfl hClosed (Or.inl ⟨by rfl, ?_⟩) hHeld (fun hClosed => ?_)
  rotate_left
  · intro wv hSw; go_simp; all_goals (with_reducible rfl)
  (try simp only [List.getElem_toArray, List.getElem_cons_succ, List.getElem_cons_zero, put_at, List.set])
  refine wpAnyL_last rfl (by kernel_rfl) (by kernel_rfl) (fun KK hK => ?_)
  go_simp
  refine hK.out _ _ ?_
  (try simp only [put_at, List.set])
  clear hHeld hClosed AD1 AD2 HB7
  have H8 := Lib.hid HP.out.1
  have W8 := Lib.hid HP.out.2
  have AD3 := Lib.hid (ses_add H8.out W8.out 3 K3.out awR9 (okI_of (by decide) (by decide)) (by omega) (Or.inr (Or.inr (by decide))))
  unfold awR9 rqA at AD3
  dsimp only at AD3
  clear HP HQ
  go_wp2_with fail
  refine AD3.out.mono ?_
  rintro e w9 hp
  rcases hp with ⟨p1, _⟩ | ⟨_, _, rfl, ht9⟩ | ⟨_, p2, _⟩
  rotate_left
  rotate_left
  · rw [aw_s2] at p2; exact absurd p2 (by decide)
  · exact absurd p1 (by decide)
  have H9 := Lib.hid ht9
  clear ht9 AD3 H8
  have FS1 := Lib.hid (ses_first H9.out W8.out 3 K3.out (by omega))
  unfold SesF at FS1
  rw [aw_s2] at FS1
  unfold awR1 rqA at FS1
  dsimp only at FS1
  go_wp2_with fail
  refine FS1.out.mono ?_
  rintro e w10 ⟨rfl, T1, ht10, hw10, _⟩
  have H10 := Lib.hid ht10
  have W10 := Lib.hid hw10
  clear ht10 hw10 FS1 H9 W8
  go_upto_region 10 with fail
  refine code_forget (fun W => Hid (FtB w d L K g2 RD2 RL2 f 2 R4 ⟨awF2.per, awF2.mem, awF2.R, awF2.hs, T1⟩ ((w10.heap.size, .cells #[.int .i64 1, .string ⟨#[104]⟩, .string ⟨#[47, 97]⟩, .int .i64 0, .int .i64 0] 35 (0, 0)) :: bs) W)) (Lib.hid (H10.out.add _ _)) ?_
  obtain ⟨xb, hxb⟩ : ∃ p, w10.heap.size = p := ⟨_, rfl⟩
  rw [hxb]
  clear hxb H10
  rintro w11 H11
  have DR := Lib.hid (ses_drop H11.out W10.out 1 (okI_of (by decide) (by decide)) (by omega))
  go_wp2_with fail
  refine DR.out.mono ?_
  rintro e w12 hp
  rcases hp with ⟨p1, _⟩ | ⟨x, R5, p1, rfl, p3, p4⟩
  · exact absurd p1 (by decide)
  obtain rfl : 3 = x := by
    have h9 : (some 3 : Option Int) = some x := p1
    injection h9
  have H12 := Lib.hid p3
  have W12 := Lib.hid p4
  clear p1 p3 p4 DR H11 W10
  obtain ⟨F3, hF3⟩ : ∃ G, drpF ⟨awF2.per, awF2.mem, awF2.R, awF2.hs, T1⟩ 3 1 = G := ⟨_, rfl⟩
  have HH3 : Hid (F3.hs.length = 1 ∧ F3.mem = 1) := Lib.hid (by rw [← hF3]; exact ⟨rfl, rfl⟩)
  rw [hF3] at H12 W12
  clear hF3
  have HS3 : Hid (setR fwS2 3 ((fwS2 3).filter fun y => !decide (y.id = 1)) 3 = [awR2]) := Lib.hid (by
    rw [show ∀ l, setR fwS2 3 l 3 = l from fun l => if_pos rfl, aw_s2]
    rfl)
  obtain ⟨S3, hS3⟩ : ∃ S, setR fwS2 3 ((fwS2 3).filter fun y => !decide (y.id = 1)) = S := ⟨_, rfl⟩
  rw [hS3] at W12 HS3
  clear hS3
  have FS2 := Lib.hid (ses_first H12.out W12.out 3 K3.out (by omega))
  unfold SesF at FS2
  rw [HS3.out] at FS2
  unfold awR2 rqA at FS2
  dsimp only at FS2
  go_wp2_with fail
  refine FS2.out.mono ?_
  rintro e w13 ⟨rfl, T2, ht13, hw13, hp13⟩
  have H13 := Lib.hid ht13
  have W13 := Lib.hid hw13
  have L13 : Hid (T2.length = 1) := Lib.hid (by
    have h9 := ht13.ft.fr.ok.lim
    have h8 : (T2.length : Int) ≤ F3.mem := h9
    have := HH3.out.2
    omega)
  clear ht13 hw13 hp13 FS2 H12 W12
  go_upto_region 12 with fail
  refine code_forget (fun W => Hid (FtB w d L K g2 RD2 RL2 f 2 R5 ⟨F3.per, F3.mem, F3.R, F3.hs, T2⟩ ((w13.heap.size, .cells #[.int .i64 2, .string ⟨#[104]⟩, .string ⟨#[47, 98]⟩, .int .i64 0, .int .i64 0] 35 (0, 0)) :: (xb, .cells #[.int .i64 1, .string ⟨#[104]⟩, .string ⟨#[47, 97]⟩, .int .i64 0, .int .i64 0] 35 (0, 0)) :: bs) W)) (Lib.hid (H13.out.add _ _)) ?_
  obtain ⟨yb, hyb⟩ : ∃ p, w13.heap.size = p := ⟨_, rfl⟩
  rw [hyb]
  clear hyb H13
  rintro w14 H14
  have BR := Lib.hid (H14.out.box (List.mem_cons_of_mem _ (List.mem_cons_of_mem _ HBR.out)))
  have BS := Lib.hid (H14.out.box (List.mem_cons_of_mem _ (List.mem_cons_of_mem _ HBS.out)))
  have BX := Lib.hid (H14.out.box (List.mem_cons_of_mem _ List.mem_cons_self))
  have BY := Lib.hid (H14.out.box List.mem_cons_self)
  have a0 := BR.out.cell 0
  have a1 := BR.out.cell 1
  have a2 := BR.out.cell 2
  have a3 := BR.out.cell 3
  have a4 := BR.out.cell 4
  have b0 := BS.out.cell 0
  have b1 := BS.out.cell 1
  have b2 := BS.out.cell 2
  have b3 := BS.out.cell 3
  have b4 := BS.out.cell 4
  have x0 := BX.out.cell 0
  have x1 := BX.out.cell 1
  have x2 := BX.out.cell 2
  have x3 := BX.out.cell 3
  have x4 := BX.out.cell 4
  have y0 := BY.out.cell 0
  have y1 := BY.out.cell 1
  have y2 := BY.out.cell 2
  have y3 := BY.out.cell 3
  have y4 := BY.out.cell 4
  have q1 := rq_eq 1 ⟨#[104]⟩ ⟨#[47, 97]⟩ 0 0 w14
  have q2 := rq_eq 2 ⟨#[104]⟩ ⟨#[47, 98]⟩ 0 0 w14
  have MM := Lib.hid (fmem_at H14.out.ft.fr 1 L13.out)
  go_wp2_with fail
  refine MM.out.mono ?_
  rintro e wz ⟨rfl, hw⟩
  subst wz
  clear MM q1 q2 x0 x1 x2 x3 x4 y0 y1 y2 y3 y4 a0 a1 a2 a3 a4 b0 b1 b2 b3 b4
  have HS := Lib.hid (ses_has H14.out W13.out 3 K3.out (by omega) ⟨#[47, 98]⟩ true (by rw [HS3.out]; simp [awR2]))
  go_wp2_with fail
  refine HS.out.mono ?_
  rintro e w15 ⟨rfl, ht15⟩
  have H15 := Lib.hid ht15
  clear ht15 HS H14
  have HS := Lib.hid (ses_has H15.out W13.out 3 K3.out (by omega) ⟨#[47, 97]⟩ false (by rw [HS3.out]; simp [awR2, ByteArray.toList_eq]))
  go_wp2_with fail
  refine HS.out.mono ?_
  rintro e w16 ⟨rfl, ht16⟩
  have H16 := Lib.hid ht16
  clear ht16 HS H15
  have CC := Lib.hid (fcount_at H16.out.ft.fr 1 HH3.out.1)
  go_wp2_with fail
  refine CC.out.mono ?_
  rintro e wz ⟨rfl, hw⟩
  subst wz
  clear CC
  have BR := Lib.hid (H16.out.box (List.mem_cons_of_mem _ (List.mem_cons_of_mem _ HBR.out)))
  have BS := Lib.hid (H16.out.box (List.mem_cons_of_mem _ (List.mem_cons_of_mem _ HBS.out)))
  have a0 := BR.out.cell 0
  have a1 := BR.out.cell 1
  have a2 := BR.out.cell 2
  have a3 := BR.out.cell 3
  have a4 := BR.out.cell 4
  have b0 := BS.out.cell 0
  have b1 := BS.out.cell 1
  have b2 := BS.out.cell 2
  have b3 := BS.out.cell 3
  have b4 := BS.out.cell 4
  have BF : Hid (Calls Tryz.prog 23 #[.agg #[.int .i64 1, .string ⟨#[104]⟩, .string ⟨#[47, 97]⟩, .int .i64 0, .int .i64 0], .agg #[.int .i64 2, .string ⟨#[104]⟩, .string ⟨#[47, 98]⟩, .int .i64 0, .int .i64 0]] w16 fun e w' => e = .returned (.bool true) ∧ Below w16.heap.size w16 w') := Lib.hid (before_at awR1 awR2 w16)
  go_wp2_with fail
  refine BF.out.mono ?_
  rintro e w17 ⟨rfl, hb⟩
  have BB := Lib.hid (H16.out.ft.bl.trans (hb.mono H16.out.ft.bl.size))
  clear hb BF
  go_wp2
  go_ret
  exact ⟨rfl, BB.out⟩
end Go.Proofs.YtimkgaokcldgkaaGreatDoor
