/- Part of a chain: FnSes, FnBox, LaidFn, SpIn. -/
import Derived.Test.YtimkgaokcldgkaaGreatDoorFd24
import Derived.Test.YtimkgaokcldgkaaGreatDoorFd25
import Derived.Test.YtimkgaokcldgkaaGreatDoorFd00
import Derived.Test.YtimkgaokcldgkaaGreatDoorRows
/- Package front: a Front, its log and its disk in a law; whole requests. -/
namespace Go.Proofs.YtimkgaokcldgkaaGreatDoor
open Go Go.RowKit Go.Maps
set_option linter.unusedVariables false
set_option linter.unusedSimpArgs false
set_option maxRecDepth 100000

/-- A Front, with its log, that were made behind world w. -/
structure FtS (w : World) (d L K : Nat) (g : Lg) (RD RL : Nat → Prop) (f N : Nat) (RF : Nat → Prop) (F : Ft) (W : World) : Prop where
  sp : SpS w d L K g RD RL W
  fr : FtM W RF f L N F
  ap : ∀ k, RF k → ¬ (RD k ∨ RL k)
  ge : ∀ k, RF k → w.heap.size ≤ k
section
variable {w W W' : World} {d L K f N : Nat} {g g' : Lg} {RD RL RF : Nat → Prop} {F F' : Ft}
theorem SpS.only {R : Nat → Prop} (h : SpS w d L K g RD RL W) (ho : Only R W W') (ha : ∀ k, R k → ¬ (RD k ∨ RL k) ∧ w.heap.size ≤ k) : SpS w d L K g RD RL W' := by
  refine ⟨h.lg.keep ho.size (fun k hk hm => ho.block k hk (fun e => ?_)), h.ge, h.bl.trans (ho.below h.bl.size (fun k hk => (ha k hk).2)), h.now, h.few⟩
  have h9 := ha k e
  rcases hm with e | e | e
  · exact h9.1 (Or.inl e)
  · exact h9.1 (Or.inr e)
  · have := h.now.lt
    omega
theorem FtS.later (h : FtS w d L K g RD RL f N RF F W) (hb : Below W.heap.size W W') : FtS w d L K g RD RL f N RF F W' := ⟨h.sp.later hb, h.fr.later hb, h.ap, h.ge⟩
theorem FtS.bl (h : FtS w d L K g RD RL f N RF F W) : Below w.heap.size w W := h.sp.bl
theorem FtS.spa {M : Nat} (h : FtS w d L K g RD RL f N RF F W) (ha : SpA w d L M RD RL W g' W') : ∃ R1 R2, FtS w d L M g' R1 R2 f N RF F W' ∧ (∀ k, R1 k ∨ R2 k → (RD k ∨ RL k) ∨ W.heap.size ≤ k) ∧ Only (fun k => RD k ∨ RL k) W W' := by
  obtain ⟨R1, R2, h1, h2, h3⟩ := ha
  refine ⟨R1, R2, ⟨h1, h.fr.only h3 h.ap, fun k hk hr => ?_, h.ge⟩, h2, h3⟩
  rcases h2 k hr with e | e
  · exact h.ap k hk e
  · have := h.fr.lt hk
    omega
/-- Any change of the Front alone. -/
theorem FtS.aft {M : Nat} (h : FtS w d L K g RD RL f N RF F W) (ha : AftF RF f L M W F' W') : ∃ R2, FtS w d L K g RD RL f M R2 F' W' ∧ (∀ k, R2 k → RF k ∨ W.heap.size ≤ k) ∧ Only RF W W' := by
  obtain ⟨R2, h1, h2⟩ := ha
  have hs := h.sp.only h2.only (fun k hk => ⟨h.ap k hk, h.ge k hk⟩)
  refine ⟨R2, ⟨hs, h1, fun k hk hr => ?_, fun k hk => ?_⟩, h2.new, h2.only⟩
  · rcases h2.new k hk with e | e
    · exact h.ap k e hr
    · rcases hr with hr | hr
      · have := h.sp.lg.dk.lt k hr; omega
      · have := h.sp.lg.lx.lt k hr; omega
  · rcases h2.new k hk with e | e
    · exact h.ge k e
    · exact Nat.le_trans h.sp.bl.size e
theorem FtS.new (h : SpS w d L K g RD RL W) (hf : FtM W' RF f L 0 F) (hb : Below W.heap.size W W') (hg : ∀ k, RF k → W.heap.size ≤ k) : FtS w d L K g RD RL f 0 RF F W' :=
  ⟨h.later hb, hf, fun k hk hr => by
    have h1 := hg k hk
    rcases hr with hr | hr
    · have := h.lg.dk.lt k hr; omega
    · have := h.lg.lx.lt k hr; omega, fun k hk => Nat.le_trans h.bl.size (hg k hk)⟩
end
/-! Whole requests. -/
def rcQ (r : Rq) : Rc := ⟨1, r.id, r.host, r.path, r.prio, r.til⟩
/-- What a Front holds: each host's requests whole, by the log. -/
structure FtW (F : Ft) (g : Lg) (rs : Int → List Rq) : Prop where
  R : ∀ h, F.R h = (rs h).map noP
  ld : ∀ h, ∀ r ∈ rs h, loadL g r.id = some (rcQ r)
  ps : PsOk F (fun i => ((loadL g i).getD rc0).path)
theorem bef_noP (a b : Rq) : befB (noP a) (noP b) = befB a b := rfl
theorem posQ_noP (l : List Rq) (r : Rq) : posQ (l.map noP) (noP r) = posQ l r := by
  induction l with
  | nil => rfl
  | cons x t ih => rw [List.map_cons, posQ_cons, posQ_cons, bef_noP, ih]
theorem ins_noP (l : List Rq) (r : Rq) : insQ (l.map noP) (noP r) = (insQ l r).map noP := by
  unfold insQ
  rw [posQ_noP, List.map_append, List.map_cons, List.map_take, List.map_drop]
theorem wiP_noP (r : Rq) : wiP (noP r) r.path = r := rfl
theorem srt_noP {l : List Rq} (h : Srt (l.map noP)) : Srt l := by
  unfold Srt at *
  rw [List.pairwise_map] at h
  exact h
section
variable {F : Ft} {g g' : Lg} {rs : Int → List Rq}
theorem FtW.path (h : FtW F g rs) (id : Int) : pathF F g id = ((loadL g id).getD rc0).path := by
  unfold pathF
  cases hg : gA F.ps id with
  | none => rfl
  | some p => exact h.ps id p hg
theorem FtW.pathR (h : FtW F g rs) {x : Int} {r : Rq} (hr : r ∈ rs x) : pathF F g r.id = r.path := by
  rw [h.path, h.ld x r hr]
  rfl
theorem FtW.has (h : FtW F g rs) (x : Int) (p : ByteArray) : hasP F g x p = (rs x).any fun r => r.path.toList == p.toList := by
  unfold hasP
  rw [h.R x, List.any_map]
  exact Bool.eq_iff_iff.2 ⟨fun e => by
      obtain ⟨r, hr, h2⟩ := List.any_eq_true.1 e
      refine List.any_eq_true.2 ⟨r, hr, ?_⟩
      have h3 := h.pathR hr
      have h2 : ((pathF F g r.id).toList == p.toList) = true := h2
      rw [h3] at h2
      exact h2, fun e => by
      obtain ⟨r, hr, h2⟩ := List.any_eq_true.1 e
      refine List.any_eq_true.2 ⟨r, hr, ?_⟩
      have h3 := h.pathR hr
      show ((pathF F g r.id).toList == p.toList) = true
      rw [h3]
      exact h2⟩
theorem FtW.nil (per mem : Int) (g : Lg) : FtW (ft0 per mem) g (fun _ => []) := ⟨fun _ => rfl, fun _ r hr => (by cases hr), fun i p hp => (by cases hp)⟩
theorem FtW.ins (h : FtW F g rs) (x : Int) {r : Rq} (hl : loadL g r.id = some (rcQ r)) : FtW (insF F x r) g (setR rs x (insQ (rs x) r)) := by
  refine ⟨fun k => ?_, fun k y hy => ?_, h.ps.ins x r (by show r.path = _; rw [hl]; rfl)⟩
  · show setR F.R x (insQ (F.R x) (noP r)) k = (setR rs x (insQ (rs x) r) k).map noP
    unfold setR
    split
    · rw [h.R x, ins_noP]
    · exact h.R k
  · unfold setR at hy
    split at hy
    · rcases insQ_mem.1 hy with rfl | hy
      · exact hl
      · exact h.ld x y hy
    · exact h.ld k y hy
theorem FtW.drp (h : FtW F g rs) (x id : Int) : FtW (drpF F x id) g (setR rs x ((rs x).filter fun y => !decide (y.id = id))) := by
  refine ⟨fun k => ?_, fun k y hy => ?_, h.ps.drp x id⟩
  · show setR F.R x ((F.R x).filter fun y => !decide (y.id = id)) k = (setR rs x ((rs x).filter fun y => !decide (y.id = id)) k).map noP
    unfold setR
    split
    · rw [h.R x, List.filter_map]; rfl
    · exact h.R k
  · unfold setR at hy
    split at hy
    · exact h.ld x y (List.mem_filter.1 hy).1
    · exact h.ld k y hy
theorem FtW.kep (h : FtW F g rs) {id : Int} {S' : List (Int × ByteArray)} (hk : kepS F.ps F.mem id (pathF F g id) S') : FtW ⟨F.per, F.mem, F.R, F.hs, S'⟩ g rs :=
  ⟨h.R, h.ld, by
    rw [h.path id] at hk
    exact PsOk.kep (want := fun i => ((loadL g i).getD rc0).path) h.ps hk⟩
/-- Another request is in the log. -/
theorem FtW.put {Z c : Nat} (h : FtW F g rs) (ok : FtOk F) (hc : CLog Z c g) (hc' : CLog Z (c + 1) g') {r : Rq} (hl : logS g'.D.S = logS g.D.S ++ [rcQ r]) (hn : gA F.hs r.id = none) : FtW F g' rs ∧ loadL g' r.id = some (rcQ r) := by
  have e : ∀ id, loadL g' id = if r.id = id then some (rcQ r) else loadL g id := fun id => by
    rw [hc'.agr.load, hl, lstP_snoc, ← hc.agr.load]
    unfold stP
    by_cases e : r.id = id
    · rw [if_pos ⟨rfl, e⟩, if_pos e]
    · rw [if_neg (fun h => e h.2), if_neg (fun h => e h.2), if_neg e]
  have ne : ∀ id, (gA F.hs id).isSome = true → ¬ r.id = id := fun id hi e => by rw [← e, hn] at hi; cases hi
  refine ⟨⟨h.R, fun k y hy => ?_, fun i p hp => ?_⟩, by rw [e, if_pos rfl]⟩
  · rw [e, if_neg (ne y.id (by
      rw [(ok.ids y.id k).2 ⟨noP y, by rw [h.R k]; exact List.mem_map_of_mem hy, rfl⟩]; rfl))]
    exact h.ld k y hy
  · dsimp only
    rw [e, if_neg (ne i (ok.sub i (by rw [hp]; rfl)))]
    exact h.ps i p hp
theorem FtW.head (h : FtW F g rs) {x : Int} {r : Rq} {t : List Rq} (hr : rs x = r :: t) : F.R x = noP r :: t.map noP ∧ wiP (noP r) (pathF F g (noP r).id) = r := by
  refine ⟨by rw [h.R x, hr]; rfl, ?_⟩
  rw [show pathF F g (noP r).id = r.path from h.pathR (by rw [hr]; exact List.mem_cons_self)]
  rfl
end
end Go.Proofs.YtimkgaokcldgkaaGreatDoor
/- Package front in a law: the session's calls, with the law's own boxes beside. -/
namespace Go.Proofs.YtimkgaokcldgkaaGreatDoor
open Go Go.RowKit Go.Maps
set_option linter.unusedVariables false
set_option linter.unusedSimpArgs false
set_option maxRecDepth 100000

abbrev Bxs := List (Nat × Obj)
theorem heap_lt {W : World} {k : Nat} {o : Obj} (h : W.heap[k]? = some o) : k < W.heap.size := (Array.getElem?_eq_some_iff.1 h).1
structure FtB (w : World) (d L K : Nat) (g : Lg) (RD RL : Nat → Prop) (f N : Nat) (RF : Nat → Prop) (F : Ft) (bs : Bxs) (W : World) : Prop where
  ft : FtS w d L K g RD RL f N RF F W
  bx : ∀ b ∈ bs, W.heap[b.1]? = some b.2 ∧ ¬ (RD b.1 ∨ RL b.1) ∧ ¬ RF b.1 ∧ w.heap.size ≤ b.1
section
variable {w W W' : World} {d L K f N M : Nat} {g g' : Lg} {RD RL RF : Nat → Prop} {F F' : Ft} {bs : Bxs}
theorem FtB.later (h : FtB w d L K g RD RL f N RF F bs W) (hb : Below W.heap.size W W') : FtB w d L K g RD RL f N RF F bs W' :=
  ⟨h.ft.later hb, fun b hm => ⟨(hb.block _ (heap_lt (h.bx b hm).1)).trans (h.bx b hm).1, (h.bx b hm).2⟩⟩
theorem FtB.spa (h : FtB w d L K g RD RL f N RF F bs W) (ha : SpA w d L M RD RL W g' W') : ∃ R1 R2, FtB w d L M g' R1 R2 f N RF F bs W' := by
  obtain ⟨R1, R2, h1, h2, h3⟩ := h.ft.spa ha
  refine ⟨R1, R2, h1, fun b hm => ?_⟩
  obtain ⟨q1, q2, q3, q4⟩ := h.bx b hm
  have ql := heap_lt q1
  refine ⟨(h3.block _ ql q2).trans q1, fun e => ?_, q3, q4⟩
  rcases h2 b.1 e with e | e
  · exact q2 e
  · omega
theorem FtB.aft (h : FtB w d L K g RD RL f N RF F bs W) (ha : AftF RF f L M W F' W') : ∃ R2, FtB w d L K g RD RL f M R2 F' bs W' := by
  obtain ⟨R2, h1, h2, h3⟩ := h.ft.aft ha
  refine ⟨R2, h1, fun b hm => ?_⟩
  obtain ⟨q1, q2, q3, q4⟩ := h.bx b hm
  have ql := heap_lt q1
  refine ⟨(h3.block _ ql q3).trans q1, q2, fun e => ?_, q4⟩
  rcases h2 b.1 e with e | e
  · exact q3 e
  · omega
/-- A box of the law's own. -/
theorem FtB.add (h : FtB w d L K g RD RL f N RF F bs W) (cs : Array Value) (t : TypeId) : FtB w d L K g RD RL f N RF F ((W.heap.size, .cells cs t (0, 0)) :: bs) (W.alloc (.cells cs t)) := by
  have hb := (Below.refl W.heap.size W).alloc (Nat.le_refl _) (.cells cs t)
  refine ⟨h.ft.later hb, fun b hm => ?_⟩
  rcases List.mem_cons.1 hm with rfl | hm
  · refine ⟨Box.new W cs t, fun e => ?_, fun e => ?_, h.ft.bl.size⟩
    · rcases e with e | e
      · have := h.ft.sp.lg.dk.lt _ e; dsimp only at this; omega
      · have := h.ft.sp.lg.lx.lt _ e; dsimp only at this; omega
    · have := h.ft.fr.lt e; dsimp only at this; omega
  · exact ⟨(hb.block _ (heap_lt (h.bx b hm).1)).trans (h.bx b hm).1, (h.bx b hm).2⟩
theorem FtB.box (h : FtB w d L K g RD RL f N RF F bs W) {b : Nat} {cs : Array Value} {t : TypeId} (hm : (b, .cells cs t (0, 0)) ∈ bs) : Box W b cs t := (h.bx _ hm).1
/-- First, in a law. -/
def SesF (w : World) (d L K : Nat) (g : Lg) (RD RL : Nat → Prop) (f N : Nat) (RF : Nat → Prop) (F : Ft) (rs : Int → List Rq) (bs : Bxs) (x : Int) (e : Ending) (W' : World) : Prop :=
  match rs x with
  | [] => e = .returned (.tuple #[.agg (rqA rq0), .bool false]) ∧ FtB w d L K g RD RL f N RF F bs W'
  | r :: t => e = .returned (.tuple #[.agg (rqA r), .bool true]) ∧ ∃ S', FtB w d L K g RD RL f N RF ⟨F.per, F.mem, F.R, F.hs, S'⟩ bs W' ∧ FtW ⟨F.per, F.mem, F.R, F.hs, S'⟩ g rs ∧ 1 ≤ S'.length
theorem kep_pos {S S' : List (Int × ByteArray)} {m id : Int} {p : ByteArray} (h : kepS S m id p S') : 1 ≤ S'.length := by
  have hp : ∀ T : List (Int × ByteArray), 1 ≤ (pA T id p).length := fun T => by
    cases T with
    | nil => exact Nat.le_refl _
    | cons a t => obtain ⟨m, c⟩ := a; unfold pA; split <;> simp
  rcases h with ⟨_, rfl⟩ | ⟨_, _, x, _, rfl⟩ <;> exact hp _
theorem ses_first {rs : Int → List Rq} (h : FtB w d L K g RD RL f N RF F bs W) (hw : FtW F g rs) (x : Int) (hx : okI x) (hN : N ≤ 900000) :
    Calls Tryz.prog 17 #[.pointer (some ⟨f, 0, none⟩), .int .i64 x] W (SesF w d L K g RD RL f N RF F rs bs x) := by
  refine (ffirst_at h.ft.fr h.ft.sp.lg x hx hN).mono ?_
  intro e W' hp
  unfold FirstP at hp
  unfold SesF
  cases hr : rs x with
  | nil =>
    have h0 : F.R x = [] := by rw [hw.R x, hr]; rfl
    rw [h0] at hp
    exact ⟨hp.1, h.later hp.2⟩
  | cons r t =>
    obtain ⟨h1, h2⟩ := hw.head hr
    rw [h1] at hp
    obtain ⟨p1, S', p2, p3, p4⟩ := hp
    rw [h2] at p1
    refine ⟨p1, S', ⟨⟨h.ft.sp.only p4 (fun k hk => ⟨h.ft.ap k hk, h.ft.ge k hk⟩), p3, h.ft.ap, h.ft.ge⟩, fun b hm => ?_⟩, hw.kep p2, kep_pos p2⟩
    obtain ⟨q1, q2, q3, q4⟩ := h.bx b hm
    exact ⟨(p4.block _ (heap_lt q1) q3).trans q1, q2, q3, q4⟩
theorem ses_has {rs : Int → List Rq} (h : FtB w d L K g RD RL f N RF F bs W) (hw : FtW F g rs) (x : Int) (hx : okI x) (hN : N ≤ 900000) (p : ByteArray) (q : Bool) (hq : ((rs x).any fun r => r.path.toList == p.toList) = q) :
    Calls Tryz.prog 21 #[.pointer (some ⟨f, 0, none⟩), .int .i64 x, .string p] W fun e W' => e = .returned (.bool q) ∧ FtB w d L K g RD RL f N RF F bs W' := by
  refine (fhas_at h.ft.fr h.ft.sp.lg x hx p hN).mono ?_
  rintro e W' ⟨rfl, hb⟩
  rw [hw.has, hq]
  exact ⟨rfl, h.later hb⟩
/-- Drop of a request that is there. -/
theorem ses_drop {rs : Int → List Rq} (h : FtB w d L K g RD RL f N RF F bs W) (hw : FtW F g rs) (id : Int) (hid : okI id) (hN : N ≤ 900000) :
    Calls Tryz.prog 16 #[.pointer (some ⟨f, 0, none⟩), .int .i64 id] W fun e W' =>
      (gA F.hs id = none ∧ e = .returned (.bool false) ∧ FtB w d L K g RD RL f N RF F bs W') ∨
      (∃ x R2, gA F.hs id = some x ∧ e = .returned (.bool true) ∧ FtB w d L K g RD RL f N R2 (drpF F x id) bs W' ∧ FtW (drpF F x id) g (setR rs x ((rs x).filter fun y => !decide (y.id = id)))) := by
  refine (fdrop_at h.ft.fr id hid hN).mono ?_
  intro e W' hp
  unfold FDropP at hp
  cases hg : gA F.hs id with
  | none =>
    rw [hg] at hp
    obtain ⟨p1, p2⟩ := hp
    subst p2
    exact Or.inl ⟨rfl, p1, h⟩
  | some x =>
    rw [hg] at hp
    obtain ⟨p1, p2⟩ := hp
    obtain ⟨R2, q1⟩ := h.aft p2
    exact Or.inr ⟨x, R2, rfl, p1, q1, hw.drp x id⟩
/-- Add of a request that the log holds. -/
theorem ses_add {rs : Int → List Rq} (h : FtB w d L K g RD RL f N RF F bs W) (hw : FtW F g rs) (x : Int) (hx : okI x) (r : Rq) (hr : okI r.id) (hN : N ≤ 900000) (hl : loadL g r.id = some (rcQ r) ∨ (gA F.hs r.id).isSome = true ∨ F.per ≤ ((rs x).length : Int)) :
    Calls Tryz.prog 10 #[.pointer (some ⟨f, 0, none⟩), .int .i64 x, .agg (rqA r)] W fun e W' =>
      ((gA F.hs r.id).isSome = true ∧ e = .returned (.int .i64 10) ∧ FtB w d L K g RD RL f N RF F bs W') ∨
      (gA F.hs r.id = none ∧ F.per ≤ ((rs x).length : Int) ∧ e = .returned (.int .i64 5) ∧ FtB w d L K g RD RL f N RF F bs W') ∨
      (gA F.hs r.id = none ∧ ¬ F.per ≤ ((rs x).length : Int) ∧ e = .returned (.int .i64 0) ∧ ∃ R2, FtB w d L K g RD RL f (N + 1) R2 (insF F x r) bs W' ∧ FtW (insF F x r) g (setR rs x (insQ (rs x) r))) := by
  have hlen : (F.R x).length = (rs x).length := by rw [hw.R x, List.length_map]
  refine (fadd_at h.ft.fr x hx r hr hN).mono ?_
  intro e W' hp
  rcases hp with ⟨p1, p2, p3⟩ | ⟨p1, p2, p3, p4⟩ | ⟨p1, p2, p3, p4⟩
  · exact Or.inl ⟨p1, p2, h.later p3⟩
  · exact Or.inr (Or.inl ⟨p1, by rw [← hlen]; exact p2, p3, h.later p4⟩)
  · rw [hlen] at p2
    obtain ⟨R2, q1⟩ := h.aft p4
    refine Or.inr (Or.inr ⟨p1, p2, p3, R2, q1, hw.ins x ?_⟩)
    rcases hl with hl | hl | hl
    · exact hl
    · rw [p1] at hl; cases hl
    · exact absurd hl p2
theorem ses_back {rs : Int → List Rq} (h : FtB w d L K g RD RL f N RF F bs W) (hw : FtW F g rs) (x : Int) (hx : okI x) (r : Rq) (hr : okI r.id) (hN : N ≤ 900000) (hl : loadL g r.id = some (rcQ r) ∨ (gA F.hs r.id).isSome = true) :
    Calls Tryz.prog 11 #[.pointer (some ⟨f, 0, none⟩), .int .i64 x, .agg (rqA r)] W fun e W' =>
      ((gA F.hs r.id).isSome = true ∧ e = .returned (.tuple #[]) ∧ FtB w d L K g RD RL f N RF F bs W') ∨
      (gA F.hs r.id = none ∧ e = .returned (.tuple #[]) ∧ ∃ R2, FtB w d L K g RD RL f (N + 1) R2 (insF F x r) bs W' ∧ FtW (insF F x r) g (setR rs x (insQ (rs x) r))) := by
  refine (fback_at h.ft.fr x hx r hr hN).mono ?_
  intro e W' hp
  rcases hp with ⟨p1, p2, p3⟩ | ⟨p1, p2, p3⟩
  · exact Or.inl ⟨p1, p2, h.later p3⟩
  · obtain ⟨R2, q1⟩ := h.aft p3
    refine Or.inr ⟨p1, p2, R2, q1, hw.ins x ?_⟩
    rcases hl with hl | hl
    · exact hl
    · rw [p1] at hl; cases hl
end
end Go.Proofs.YtimkgaokcldgkaaGreatDoor
/- What the rows list: the package's variable. -/
namespace Go.Proofs.YtimkgaokcldgkaaGreatDoor
open Go.RowKit Go.Deep
set_option maxRecDepth 10000

theorem int_field {P : Program} {enc : TypeId × Value → Unit} {W : World} {base : Nat} {sp : Nat → Bool} {held : Bool} {n o i : Nat} {t : TypeId} {cs : List Value} {xs : List (DataW Unit × List MemPlace)} {v : Int} (ht : P.underlying t = some (.int .i64))
    (h : DataW.trod enc P W base sp held n t ((cs.drop o).take 1) = xs[i]?) (hx : (xs.map (·.1))[i]? = some (.lit (.int .i64 v))) : cs[o]? = some (.int .i64 v) := by
  rw [List.getElem?_map] at hx
  obtain ⟨y, hy, hyx⟩ := Option.map_eq_some_iff.1 hx
  rw [hy] at h
  obtain ⟨m, h1, h2, _⟩ := DataW.trod_int ht h
  rw [h2] at hyx
  simp only [DataW.lit.injEq, Lit.int.injEq, true_and] at hyx
  subst hyx
  exact take_one h1
theorem now_of_laid {W : World} {L : List (String × DataW Unit)} (hL : laidMet Tryz.prog (("decorum/spill.nowhere", Rows.laid_decorum_spill_nowhere) :: L) W) : NowM W := by
  obtain ⟨ps, ⟨g', t', cs, fuel, p, q, hg', ht', hvar, hd, _, _⟩, _⟩ := hL
  obtain rfl := Option.some.inj ((show Tryz.prog.globalNamed "decorum/spill.nowhere" = some 0 by kernel_rfl).symm.trans hg')
  obtain rfl := Option.some.inj ((show (Tryz.prog.globals[0]?).map (·.type) = some 81 by kernel_rfl).symm.trans ht')
  have hv : ∀ i : Nat, W.cell? ⟨0, i, none⟩ = cs[i]? := fun i => World.var?_cell (by kernel_rfl) hvar i
  obtain ⟨xs, n, rfl, hx, hl, hlen, hf⟩ := DataW.trod_struct Tryz.underlying81 hd
  have hx1 : xs.map (·.1) = [DataW.lit (.int .i64 9223372036854775807), .lit (.int .i64 9223372036854775807), .lit (.int .i64 0)] := by
    have h9 := congrArg Prod.fst hx
    unfold Rows.laid_decorum_spill_nowhere at h9
    simp only [DataW.agg.injEq] at h9
    exact h9.symm
  have e0 := int_field (o := 0) (i := 0) (v := 9223372036854775807) Tryz.underlying3 (hf 0 _ rfl) (by rw [hx1]; rfl)
  have e1 := int_field (o := 1) (i := 1) (v := 9223372036854775807) Tryz.underlying3 (hf 1 _ rfl) (by rw [hx1]; rfl)
  have e2 := int_field (o := 2) (i := 2) (v := 0) Tryz.underlying3 (hf 2 _ rfl) (by rw [hx1]; rfl)
  intro i hi
  unfold gNow
  rw [hv]
  rw [Array.getElem?_toList] at e0 e1 e2
  match i, hi with
  | 0, _ => exact e0
  | 1, _ => exact e1
  | 2, _ => exact e2
theorem tabs_of_laid {W : World} (hL : laidMet Tryz.prog Rows.frontNoneRow.laid W) : NowM W := now_of_laid hL
end Go.Proofs.YtimkgaokcldgkaaGreatDoor
/- Package spill: requests and acts that came in. -/
namespace Go.Proofs.YtimkgaokcldgkaaGreatDoor
open Go Go.RowKit
open Go.Joins Go.Deep Go.WideShapes
set_option linter.unusedVariables false
set_option maxRecDepth 100000
/-- A request's numbers are numbers of the machine. -/
structure RcW (r : Rc) : Prop where
  k : r.kind = 1
  id : okI r.id
  pr : okI r.prio
  ti : okI r.till
structure AcT where
  what : Int
  n : Int
  m : Int
  r : Rc
  host : ByteArray
/-- What a walk is told of one act. -/
structure A9 (w : World) (g o : Nat) (x : AcT) : Prop where
  c0 : w.cell? ⟨g, o, none⟩ = some (.int .i64 x.what)
  c1 : w.cell? ⟨g, o + 1, none⟩ = some (.int .i64 x.n)
  c2 : w.cell? ⟨g, o + 2, none⟩ = some (.int .i64 x.m)
  c3 : w.cell? ⟨g, o + 3, none⟩ = some (.int .i64 x.r.id)
  c4 : w.cell? ⟨g, o + 4, none⟩ = some (.string x.r.host)
  c5 : w.cell? ⟨g, o + 5, none⟩ = some (.string x.r.path)
  c6 : w.cell? ⟨g, o + 6, none⟩ = some (.int .i64 x.r.prio)
  c7 : w.cell? ⟨g, o + 7, none⟩ = some (.int .i64 x.r.till)
  c8 : w.cell? ⟨g, o + 8, none⟩ = some (.string x.host)
  rw : RcW x.r
  nw : okI x.n
  mw : okI x.m
  ww : okI x.what
theorem A9.later {w w' : World} {g o : Nat} {x : AcT} (h : A9 w g o x) (hb : Below w.heap.size w w') : A9 w' g o x := by
  have k : ∀ {p : Addr} {u : Value}, w.cell? p = some u → w'.cell? p = some u := fun hp => (hb.cell (World.block_lt_of_cell? _ _ hp)).trans hp
  exact ⟨k h.c0, k h.c1, k h.c2, k h.c3, k h.c4, k h.c5, k h.c6, k h.c7, k h.c8, h.rw, h.nw, h.mw, h.ww⟩
section
variable {H : Type} {enc : TypeId × Value → H} {w : World} {base b0 : Nat} {held : Bool} {rr : Reach}
end
end Go.Proofs.YtimkgaokcldgkaaGreatDoor
