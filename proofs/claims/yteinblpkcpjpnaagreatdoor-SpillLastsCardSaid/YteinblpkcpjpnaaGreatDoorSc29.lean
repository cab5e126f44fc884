/- Part of a chain: SpLg, SpLxM. -/
import Derived.Test.YteinblpkcpjpnaaGreatDoorSc24
import Derived.Test.YteinblpkcpjpnaaGreatDoorSc28
import Derived.Test.YteinblpkcpjpnaaGreatDoorSc18
/- Package spill: a disk and a log in memory, each with the blocks that are its own. -/
namespace Go.Proofs.YteinblpkcpjpnaaGreatDoor
open Go Go.RowKit Go.Maps
set_option linter.unusedVariables false
set_option linter.unusedSimpArgs false
set_option maxRecDepth 10000

/-- What a call does to the blocks R: only they are written; they become R', of which new ones may be a part. -/
structure TurnR (R : Nat → Prop) (w : World) (R' : Nat → Prop) (w' : World) : Prop where
  only : Only R w w'
  new : ∀ k, R' k → R k ∨ w.heap.size ≤ k
theorem TurnR.later {R : Nat → Prop} {w w' : World} (h : Below w.heap.size w w') : TurnR R w R w' := ⟨Only.of_below _ h, fun k hk => Or.inl hk⟩
theorem TurnR.trans {R R1 R2 : Nat → Prop} {w w1 w2 : World} (h : TurnR R w R1 w1) (k : TurnR R1 w1 R2 w2) : TurnR R w R2 w2 :=
  ⟨h.only.trans k.only h.new, fun x hx => by
    rcases k.new x hx with h2 | h2
    · exact h.new x h2
    · exact Or.inr (Nat.le_trans h.only.size h2)⟩
theorem Only.wide {R R' : Nat → Prop} {w w' : World} (h : Only R w w') (hr : ∀ k, R k → R' k) : Only R' w w' := ⟨h.os, h.tape, h.output, h.size, fun k hk hne => h.block k hk (fun e => hne (hr k e))⟩
/-! The disk. -/
theorem sum_ge {K : List Int} {f g : Int → Nat} {n : Int} {z : Nat} (hn : n ∈ K) (h : ∀ k, f k = (if n = k then z else 0) + g k) : z + (K.map g).sum ≤ (K.map f).sum := by
  induction K with
  | nil => cases hn
  | cons k t ih =>
    rw [List.map_cons, List.map_cons, List.sum_cons, List.sum_cons, h k]
    have hm : ∀ t : List Int, (t.map g).sum ≤ (t.map f).sum := fun t => by
      induction t with
      | nil => simp
      | cons j s ih2 => rw [List.map_cons, List.map_cons, List.sum_cons, List.sum_cons, h j]; omega
    rcases List.mem_cons.1 hn with e | e
    · subst e
      rw [if_pos rfl]
      have := hm t
      omega
    · have := ih e
      omega
theorem un_count {K : List Int} : ∀ {u : Pcs}, (∀ p ∈ u, p.1 ∈ K) → (∀ p ∈ u, 0 < p.2) → u.length ≤ (K.map (loose u)).sum
  | [], _, _ => Nat.zero_le _
  | (g, z) :: t, h1, h2 => by
    have ih := un_count (u := t) (fun p hp => h1 p (List.mem_cons_of_mem _ hp)) (fun p hp => h2 p (List.mem_cons_of_mem _ hp))
    have := sum_ge (K := K) (f := loose ((g, z) :: t)) (g := loose t) (n := g) (z := z) (h1 _ List.mem_cons_self) (fun k => rfl)
    have h3 := h2 (g, z) List.mem_cons_self
    dsimp only at h3
    rw [List.length_cons]
    omega
theorem sum_le {K : List Int} {f : Int → Nat} {m : Nat} (h : ∀ k, f k ≤ m) : (K.map f).sum ≤ K.length * m := by
  induction K with
  | nil => simp
  | cons k t ih =>
    rw [List.map_cons, List.sum_cons, List.length_cons, Nat.succ_mul]
    have := h k
    omega
structure DkM (w : World) (R : Nat → Prop) (d : Nat) (D : Ds) : Prop where
  dm : ∃ bm uc V ua, Dm w 0 d bm D.S V ua uc D.un D.most D.beh D.fal ∧ ∀ k, MineD d bm D.S V ua k → R k
  lt : ∀ k, R k → k < w.heap.size
  byt : BytS D.S
  pos : ∀ p ∈ D.un, 0 < p.2
  nn : ∀ n, (gS D.S n).isSome = true → 0 ≤ n
section
variable {w : World} {R : Nat → Prop} {d : Nat} {D : Ds}
theorem DkM.keep {w' : World} (h : DkM w R d D) (hs : w.heap.size ≤ w'.heap.size) (hb : ∀ k, R k → w'.heap[k]? = w.heap[k]?) : DkM w' R d D := by
  obtain ⟨bm, uc, V, ua, hd, hm⟩ := h.dm
  refine ⟨⟨bm, uc, V, ua, ⟨(hb d (hm d (Or.inl rfl))).trans hd.box, hd.mp.blocks fun k hk => hb k (hm k (Or.inr (Or.inl hk))), hd.own.blocks fun g e => hb g (hm g (Or.inr (Or.inr e))), hd.un_ok, hd.dB, hd.behB, hd.falB, hd.mo, hd.cnt, hd.seg, hd.kw⟩, hm⟩, fun k hk => Nat.lt_of_lt_of_le (h.lt k hk) hs, h.byt, h.pos, h.nn⟩
theorem DkM.later {w' : World} (h : DkM w R d D) (hb : Below w.heap.size w w') : DkM w' R d D := h.keep hb.size fun k hk => hb.block k (h.lt k hk)
theorem DkM.only {R2 : Nat → Prop} {w' : World} (h : DkM w R d D) (ho : Only R2 w w') (ha : ∀ k, R k → ¬ R2 k) : DkM w' R d D := h.keep ho.size fun k hk => ho.block k (h.lt k hk) (ha k hk)
theorem DkM.un_few (h : DkM w R d D) : D.un.length ≤ 32768 := by
  obtain ⟨bm, uc, V, ua, hd, hm⟩ := h.dm
  have h1 := un_count (K := D.S.map Prod.fst) (u := D.un) (fun p hp => gS_keys.2 (hd.un_ok.1 p hp)) h.pos
  have h2 := sum_le (K := D.S.map Prod.fst) (f := loose D.un) (m := 2048) (fun k => Nat.le_trans (hd.un_ok.2 k) (hd.seg k))
  have h3 := hd.cnt
  rw [List.length_map] at h2
  omega
theorem DkM.cnt (h : DkM w R d D) : D.S.length ≤ 16 := by
  obtain ⟨bm, uc, V, ua, hd, hm⟩ := h.dm
  exact hd.cnt
theorem DkM.seg (h : DkM w R d D) (n : Int) : (gD D.S n).length ≤ 2048 := by
  obtain ⟨bm, uc, V, ua, hd, hm⟩ := h.dm
  exact hd.seg n
theorem DkM.kw (h : DkM w R d D) {n : Int} (hn : (gS D.S n).isSome = true) : okI n := by
  obtain ⟨bm, uc, V, ua, hd, hm⟩ := h.dm
  exact hd.kw n hn
theorem DkM.ss (h : DkM w R d D) : SS D.S := by
  obtain ⟨bm, uc, V, ua, hd, hm⟩ := h.dm
  exact hd.mp.ss
theorem DkM.segs_ok (h : DkM w R d D) : ∀ s ∈ segsL D, okI s ∧ 0 ≤ s := fun s hs => ⟨h.kw (gS_keys.1 hs), h.nn s (gS_keys.1 hs)⟩
/-- What a disk is behind a call. -/
def AftK (R : Nat → Prop) (d : Nat) (w : World) (D' : Ds) (w' : World) : Prop := ∃ R', DkM w' R' d D' ∧ TurnR R w R' w'
theorem AftK.refl {w' : World} (h : DkM w R d D) (hb : Below w.heap.size w w') : AftK R d w D w' := ⟨R, h.later hb, TurnR.later hb⟩
theorem aftK {w' : World} {bm uc : Nat} {V : VF} {ua : Option Addr} {S' : Sgs} {un' : Pcs} {most' beh' fal' : Int} (hd : Dm w 0 d bm D.S V ua uc D.un D.most D.beh D.fal) (hm : ∀ k, MineD d bm D.S V ua k → R k)
    (ha : AftD 0 d bm D.S V ua w S' un' most' beh' fal' w') (h1 : BytS S') (h2 : ∀ p ∈ un', 0 < p.2) (h3 : ∀ n, (gS S' n).isSome = true → 0 ≤ n) : AftK R d w ⟨S', un', most', beh', fal'⟩ w' := by
  obtain ⟨V', ua', uc', hd', ht⟩ := ha
  refine ⟨fun k => MineD d bm S' V' ua' k, ⟨⟨bm, uc', V', ua', hd', fun k hk => hk⟩, fun k hk => (hd'.mine hk).1, h1, h2, h3⟩, ⟨ht.1.wide hm, fun k hk => ?_⟩⟩
  rcases ht.2 k hk with h | h
  · exact Or.inl (hm k h)
  · exact Or.inr h
theorem byt_put {S : Sgs} (h : BytS S) (n : Int) {b : List Int} (hb : Byts b) : BytS (pS S n (gD S n ++ b)) := fun k => by
  rw [gD_put]
  split
  · exact (h n).append hb
  · exact h k
theorem nn_put {S : Sgs} (h : ∀ n, (gS S n).isSome = true → 0 ≤ n) {n : Int} (hn : 0 ≤ n) (b : List Int) : ∀ k, (gS (pS S n b) k).isSome = true → 0 ≤ k := fun k hk => by
  rw [gS_put] at hk
  split at hk
  · rename_i e; rw [e]; exact hn
  · exact h k hk
theorem kapp_at (h : DkM w R d D) (n : Int) (hn : 0 ≤ n) (hnw : okI n) (b : List Int) (hb : Byts b) (h0 : 0 < b.length) (m : Nat) (hm : b.length = m) (hm2 : m ≤ 100000) (ab : Option Addr) (cb : Nat) (hr : RdC w ab (u8L b)) (hnm : ∀ g off, ab = some ⟨g, off, none⟩ → ¬ R g) :
    Calls Tryz.prog 46 #[.pointer (some ⟨d, 0, none⟩), .int .i64 n, .slice ab m cb] w fun e w' => e = .returned (.int .i64 (appD D n b).2) ∧ AftK R d w (appD D n b).1 w' := by
  have hun := h.un_few
  obtain ⟨bm, uc, V, ua, hd, hmi⟩ := h.dm
  refine (app_at hd n hn hnw (by omega) b m hm hm2 ab cb hr (fun g off e _ hk => hnm g off e (hmi g hk))).mono ?_
  rintro e w' (⟨h1, rfl, hbl⟩ | ⟨h1, h2, rfl, ha⟩ | ⟨h1, h2, rfl, ha⟩)
  · rw [show appD D n b = (D, 5) by unfold appD; rw [if_pos h1]]
    exact ⟨rfl, AftK.refl h hbl⟩
  · rw [show appD D n b = (D.tick, 7) by unfold appD; rw [h1, if_neg (by decide), if_pos h2]]
    exact ⟨rfl, aftK hd hmi ha h.byt h.pos h.nn⟩
  · rw [show appD D n b = (⟨pS D.S n (gD D.S n ++ b), D.un ++ [(n, b.length)], D.most, wfH D.beh, wfF D.beh D.fal⟩, 0) by unfold appD; rw [h1, h2, if_neg (by decide), if_neg (by decide)]]
    refine ⟨rfl, aftK hd hmi ha (byt_put h.byt n hb) (fun p hp => ?_) (nn_put h.nn hn _)⟩
    rcases List.mem_append.1 hp with hp | hp
    · exact h.pos p hp
    · rw [List.mem_singleton] at hp
      rw [hp]
      exact h0
theorem ksync_at (h : DkM w R d D) :
    Calls Tryz.prog 47 #[.pointer (some ⟨d, 0, none⟩)] w fun e w' => e = .returned (.int .i64 (syncD D).2) ∧ AftK R d w (syncD D).1 w' := by
  obtain ⟨bm, uc, V, ua, hd, hmi⟩ := h.dm
  refine (sync_at hd).mono ?_
  rintro e w' ⟨rfl, ha⟩
  cases hw : wfB D.beh D.fal with
  | true =>
    rw [hw, if_pos rfl] at ha
    rw [show syncD D = (D.tick, 7) by unfold syncD; rw [if_pos hw], if_pos rfl]
    exact ⟨rfl, aftK hd hmi ha h.byt h.pos h.nn⟩
  | false =>
    rw [hw, if_neg (by decide)] at ha
    rw [show syncD D = (⟨D.S, [], D.most, wfH D.beh, wfF D.beh D.fal⟩, 0) by unfold syncD; rw [hw, if_neg (by decide)], if_neg (by decide)]
    exact ⟨rfl, aftK hd hmi ha h.byt (fun p hp => (by cases hp)) h.nn⟩
theorem kdrop_at (h : DkM w R d D) (n : Int) (hnw : okI n) :
    Calls Tryz.prog 54 #[.pointer (some ⟨d, 0, none⟩), .int .i64 n] w fun e w' => e = .returned (.int .i64 (dropD D n).2) ∧ AftK R d w (dropD D n).1 w' := by
  obtain ⟨bm, uc, V, ua, hd, hmi⟩ := h.dm
  refine (drop_at hd n hnw).mono ?_
  rintro e w' (⟨h1, rfl, hbl⟩ | ⟨h1, h2, rfl, ha⟩ | ⟨h1, h2, rfl, ha⟩)
  · rw [show dropD D n = (D, 4) by unfold dropD; rw [h1]; rfl]
    exact ⟨rfl, AftK.refl h hbl⟩
  · rw [show dropD D n = (D.tick, 7) by unfold dropD; rw [if_pos h1, if_pos h2]]
    exact ⟨rfl, aftK hd hmi ha h.byt h.pos h.nn⟩
  · rw [show dropD D n = (⟨dS D.S n, keepP n D.un, D.most, wfH D.beh, wfF D.beh D.fal⟩, 0) by unfold dropD; rw [if_pos h1, h2, if_neg (by decide)]]
    refine ⟨rfl, aftK hd hmi ha (fun k => ?_) (fun p hp => h.pos p (List.mem_filter.1 hp).1) (fun k hk => ?_)⟩
    · rw [gD_drop]
      split
      · exact fun x hx => (by cases hx)
      · exact h.byt k
    · rw [gS_drop] at hk
      split at hk
      · cases hk
      · exact h.nn k hk
theorem byt_cut {S : Sgs} (h : BytS S) (k : Int) (p : Int × Nat) : BytS (cut1 k S p) := fun n => by
  unfold cut1
  rw [gD_put]
  split
  · exact (h p.1).take _
  · exact h n
theorem byt_crash : ∀ {u : Pcs} {S : Sgs} (k : Int), BytS S → BytS (crash k S u)
  | [], S, k, h => h
  | p :: t, S, k, h => byt_crash (u := t) _ (byt_cut h k p)
theorem nn_crash : ∀ {u : Pcs} {S : Sgs} (k : Int), (∀ n, (gS S n).isSome = true → 0 ≤ n) → (∀ p ∈ u, 0 ≤ p.1) → ∀ n, (gS (crash k S u) n).isSome = true → 0 ≤ n
  | [], S, k, h, _ => h
  | p :: t, S, k, h, h2 => nn_crash (u := t) _ (nn_put h (h2 p List.mem_cons_self) _) (fun q hq => h2 q (List.mem_cons_of_mem _ hq))
theorem kcrash_at (h : DkM w R d D) (k : Int) (hk1 : -9223372036854775808 ≤ k) (hk2 : k ≤ 9223372036854775807) :
    Calls Tryz.prog 18 #[.pointer (some ⟨d, 0, none⟩), .int .i64 k] w fun e w' => e = .returned (.tuple #[]) ∧ AftK R d w (crashD D k) w' := by
  obtain ⟨bm, uc, V, ua, hd, hmi⟩ := h.dm
  refine (crash_at hd k hk1 hk2).mono ?_
  rintro e w' ⟨rfl, ha⟩
  exact ⟨rfl, aftK hd hmi ha (byt_crash k h.byt) (fun p hp => (by cases hp)) (nn_crash k h.nn (fun p hp => h.nn _ (hd.un_ok.1 p hp)))⟩
theorem kfault_at (h : DkM w R d D) (x y : Int) (hx : x ≤ 9223372036854775807) (hy : y ≤ 9223372036854775807) :
    Calls Tryz.prog 17 #[.pointer (some ⟨d, 0, none⟩), .int .i64 x, .int .i64 y] w fun e w' => e = .returned (.tuple #[]) ∧ AftK R d w (faultD D x y) w' := by
  obtain ⟨bm, uc, V, ua, hd, hmi⟩ := h.dm
  refine (fault_at hd x y hx hy).mono ?_
  rintro e w' ⟨rfl, ha, ht⟩
  exact ⟨rfl, aftK hd hmi ⟨V, ua, uc, ha, ht⟩ h.byt h.pos h.nn⟩
theorem ksegs_at (h : DkM w R d D) (N : Nat) (hN : D.S.length = N) :
    Calls Tryz.prog 26 #[.pointer (some ⟨d, 0, none⟩)] w fun e w' => ∃ a c, e = .returned (.slice a N c) ∧ Own w' w.heap.size 3 1 a N c (inL (segsL D)) ∧ Below w.heap.size w w' := by
  obtain ⟨bm, uc, V, ua, hd, hmi⟩ := h.dm
  refine (segs_at hd N hN).mono ?_
  rintro e w' ⟨a, c, rfl, ho, hb⟩
  refine ⟨a, c, rfl, ?_, hb⟩
  unfold inL segsL
  rw [List.map_map]
  exact ho
theorem kread_at (h : DkM w R d D) (n : Int) (hn : okI n) (N : Nat) (hN : (gD D.S n).length = N) :
    Calls Tryz.prog 37 #[.pointer (some ⟨d, 0, none⟩), .int .i64 n] w fun e w' => ∃ a c k, e = .returned (.tuple #[.slice a N c, .int .i64 k]) ∧ Own w' w.heap.size 5 1 a N c (u8L (gD D.S n)) ∧ Below w.heap.size w w' := by
  obtain ⟨bm, uc, V, ua, hd, hmi⟩ := h.dm
  exact dread_at hd n hn N hN
structure PlOk (p : Pl) : Prop where
  seg : okI p.seg
  o0 : 0 ≤ p.off
  o1 : p.off ≤ 9223372036854775807
  s0 : 0 ≤ p.size
  s1 : p.size ≤ 1000000
theorem ksread_at (h : DkM w R d D) (p : Pl) (hp : PlOk p) :
    Calls Tryz.prog 36 #[.pointer (some ⟨d, 0, none⟩), plV p] w fun e w' => e = .returned (.tuple #[.agg (reqL ((rdL D.S p).getD rc0)).toArray, .bool (rdL D.S p).isSome]) ∧ Below w.heap.size w w' := by
  obtain ⟨bm, uc, V, ua, hd, hmi⟩ := h.dm
  refine (sread_at hd h.byt p hp.seg hp.o0 hp.o1 hp.s0 hp.s1).mono ?_
  rintro e w' ⟨o, rfl, ho, hb⟩
  rw [rdQ_eq h.byt ho]
  exact ⟨rfl, hb⟩
end
end Go.Proofs.YteinblpkcpjpnaaGreatDoor
/- Package spill: an index that is well made; a log in memory with its blocks; replay, Open. -/
namespace Go.Proofs.YteinblpkcpjpnaaGreatDoor
open Go Go.RowKit Go.Maps
set_option linter.unusedVariables false
set_option linter.unusedSimpArgs false
set_option maxRecDepth 10000

theorem okI_of {n : Int} (h1 : -9223372036854775808 ≤ n) (h2 : n ≤ 9223372036854775807) : okI n := by
  unfold okI
  simp [Lit.wf, IntKind.min, IntKind.max, IntKind.signed, IntKind.bits]
  omega
theorem okI_iff {n : Int} (h : okI n) : -9223372036854775808 ≤ n ∧ n ≤ 9223372036854775807 := by
  unfold okI at h
  simp [Lit.wf, IntKind.min, IntKind.max, IntKind.signed, IntKind.bits] at h
  omega
structure IxOk (x : Ix) : Prop where
  puts : ∀ id p, gA x.puts id = some p → PlOk p ∧ 0 ≤ id
  waits : ∀ h v, gA x.waits h = some v → PlOk v.at_ ∧ 0 ≤ v.till ∧ v.till ≤ 9223372036854775807 ∧ h.size ≤ 256
  top0 : 0 ≤ x.top
  top1 : x.top ≤ 9223372036854775807
theorem plOk_now : PlOk nowh := ⟨okI_of (by decide) (by decide), by decide, by decide, by decide, by decide⟩
theorem plOk_zero : PlOk pl0 := ⟨okI_of (by decide) (by decide), by decide, by decide, by decide, by decide⟩
theorem IxOk.zero : IxOk ix0 := ⟨fun id p h => (by simp [ix0, gA] at h), fun h v e => (by simp [ix0, gA] at e), by decide, by decide⟩
theorem IxOk.put {x : Ix} (h : IxOk x) {id : Int} {p : Pl} (hp : PlOk p) (h0 : 0 ≤ id) (h1 : id ≤ 9223372036854775807) : IxOk { x with puts := pA x.puts id p, top := max x.top id } :=
  ⟨fun k q hk => by
    have hk : gA (pA x.puts id p) k = some q := hk
    rw [gA_put] at hk
    split at hk
    · rename_i e
      rw [← Option.some.inj hk, e]
      exact ⟨hp, h0⟩
    · exact h.puts k q hk, h.waits, by have := h.top0; show 0 ≤ max _ _; omega, by have := h.top1; show max _ _ ≤ _; omega⟩
theorem IxOk.puts_ {x : Ix} (h : IxOk x) {id : Int} {p : Pl} (hp : PlOk p) (h0 : 0 ≤ id) : IxOk { x with puts := pA x.puts id p } :=
  ⟨fun k q hk => by
    have hk : gA (pA x.puts id p) k = some q := hk
    rw [gA_put] at hk
    split at hk
    · rename_i e
      rw [← Option.some.inj hk, e]
      exact ⟨hp, h0⟩
    · exact h.puts k q hk, h.waits, h.top0, h.top1⟩
theorem IxOk.topped {x : Ix} (h : IxOk x) {id : Int} (h1 : id ≤ 9223372036854775807) : IxOk { x with top := max x.top id } :=
  ⟨h.puts, h.waits, by have := h.top0; show 0 ≤ max _ _; omega, by have := h.top1; show max _ _ ≤ _; omega⟩
theorem IxOk.del {x : Ix} (h : IxOk x) (id : Int) : IxOk { x with puts := dA x.puts id } :=
  ⟨fun k q hk => by
    have hk : gA (dA x.puts id) k = some q := hk
    rw [gA_del] at hk
    split at hk
    · cases hk
    · exact h.puts k q hk, h.waits, h.top0, h.top1⟩
theorem IxOk.wait {x : Ix} (h : IxOk x) {s : ByteArray} {t : Int} {p : Pl} (hp : PlOk p) (h0 : 0 ≤ t) (h1 : t ≤ 9223372036854775807) (hs : s.size ≤ 256) : IxOk { x with waits := pA x.waits s ⟨t, p⟩ } :=
  ⟨h.puts, fun k q hk => by
    have hk : gA (pA x.waits s ⟨t, p⟩) k = some q := hk
    rw [gA_put] at hk
    split at hk
    · rename_i e
      rw [← Option.some.inj hk, e]
      exact ⟨hp, h0, h1, hs⟩
    · exact h.waits k q hk, h.top0, h.top1⟩
theorem IxOk.till0 {x : Ix} (h : IxOk x) (s : ByteArray) : 0 ≤ tillI x s := by
  unfold tillI
  cases hg : gA x.waits s with
  | none => decide
  | some v => exact (h.waits s v hg).2.1
theorem IxOk.pause {x : Ix} (h : IxOk x) {s : ByteArray} {t : Int} {p : Pl} (hp : PlOk p) (h1 : t ≤ 9223372036854775807) (hs : s.size ≤ 256) : IxOk (pauseI x s t p) := by
  unfold pauseI
  split
  · rename_i hn
    refine h.wait hp ?_ h1 hs
    have h9 : tillI x s < t := by unfold newsI at hn; simpa using hn
    have := h.till0 s
    omega
  · exact h
theorem IxOk.apply {x : Ix} (h : IxOk x) {r : Rc} {p : Pl} (hp : PlOk p) (hs : soundR r) (hf : FitR r) : IxOk (applyI x r p) := by
  obtain ⟨s1, s2, s3, s4, s5, s6, s7, s8⟩ := hs
  obtain ⟨f1, f2⟩ := hf
  unfold applyI
  split
  · exact h.put hp s3 (by omega)
  · split
    · exact (h.del r.id).topped (by omega)
    · split
      · exact h.pause hp (by omega) s7
      · exact h
theorem recsI_ok {seg : Int} (hs : okI seg) : ∀ {rs : List Rc} {x : Ix} {o : Int}, IxOk x → (∀ r ∈ rs, soundR r ∧ FitR r) → 0 ≤ o → o + ((flatR rs).length : Int) ≤ 1000000 → IxOk (recsI seg o rs x)
  | [], x, o, h, _, _, _ => h
  | r :: t, x, o, h, h1, h2, h3 => by
    rw [flatR_cons, List.length_append] at h3
    obtain ⟨a, b⟩ := h1 r List.mem_cons_self
    unfold recsI
    exact recsI_ok hs (h.apply ⟨hs, h2, by show o ≤ _; omega, Int.natCast_nonneg _, by show ((encR r).length : Int) ≤ _; omega⟩ a b) (fun q hq => h1 q (List.mem_cons_of_mem _ hq)) (by omega) (by omega)
theorem recsI_len {seg : Int} : ∀ {rs : List Rc} {x : Ix} {o : Int}, (recsI seg o rs x).puts.length ≤ x.puts.length + rs.length ∧ (recsI seg o rs x).waits.length ≤ x.waits.length + rs.length
  | [], x, o => ⟨by simp [recsI], by simp [recsI]⟩
  | r :: t, x, o => by
    have ih := recsI_len (seg := seg) (rs := t) (x := applyI x r ⟨seg, o, (encR r).length⟩) (o := o + (encR r).length)
    have h := applyI_len x r ⟨seg, o, (encR r).length⟩
    unfold recsI
    rw [List.length_cons]
    omega
theorem flat_ge : ∀ rs : List Rc, rs.length * 26 ≤ (flatR rs).length
  | [] => Nat.le_refl _
  | r :: t => by
    rw [flatR_cons, List.length_append, List.length_cons]
    have := encR_ge r
    have := flat_ge t
    omega
theorem scanL_len {b : List Int} (hb : Byts b) : (scanL b).length * 26 ≤ b.length := by
  have h1 := flat_ge (scanL b)
  have h2 := used_le hb
  unfold usedL at h2
  omega
theorem repl_ok {S : Sgs} (hb : BytS S) (hl : ∀ n, (gD S n).length ≤ 2048) : ∀ {l : List Int} {x : Ix}, (∀ s ∈ l, okI s) → IxOk x →
    IxOk (l.foldl (fun x s => recsI s 0 (scanL (gD S s)) x) x) ∧ (l.foldl (fun x s => recsI s 0 (scanL (gD S s)) x) x).puts.length ≤ x.puts.length + 2048 * l.length ∧ (l.foldl (fun x s => recsI s 0 (scanL (gD S s)) x) x).waits.length ≤ x.waits.length + 2048 * l.length
  | [], x, _, h => ⟨h, by simp, by simp⟩
  | s :: t, x, hs, h => by
    have h1 := recsI_ok (hs s List.mem_cons_self) h (scan_ok (hb s)).1 (Int.le_refl 0) (by
      have := used_le (hb s)
      have := hl s
      unfold usedL at *
      omega)
    have h2 := recsI_len (seg := s) (rs := scanL (gD S s)) (x := x) (o := 0)
    have h3 := scanL_len (hb s)
    have h4 := hl s
    have ih := repl_ok hb hl (l := t) (fun q hq => hs q (List.mem_cons_of_mem _ hq)) h1
    rw [List.foldl_cons, List.length_cons]
    refine ⟨ih.1, ?_, ?_⟩
    · omega
    · omega
theorem replL_ok {S : Sgs} (hb : BytS S) (hl : ∀ n, (gD S n).length ≤ 2048) {l : List Int} (hs : ∀ s ∈ l, okI s) : IxOk (replL S l) ∧ (replL S l).puts.length ≤ 2048 * l.length ∧ (replL S l).waits.length ≤ 2048 * l.length := by
  have := repl_ok hb hl hs IxOk.zero
  unfold replL
  have e1 : ix0.puts.length = 0 := rfl
  have e2 : ix0.waits.length = 0 := rfl
  exact ⟨this.1, by have := this.2; omega, by have := this.2; omega⟩
/-- Few enough to be counted. -/
def Few (x : Ix) : Prop := x.puts.length ≤ 900000 ∧ x.waits.length ≤ 900000
/-- The index of a log in memory. -/
def logC (d : Nat) (n : Int) (pm : Nat) (wm : Option Nat) (top : Int) : Array Value := #[.pointer (some ⟨d, 0, none⟩), .int .i64 n, .map (some pm), .map wm, .int .i64 top]
structure LxM (w : World) (R : Nat → Prop) (d L : Nat) (n : Int) (x : Ix) : Prop where
  ix : ∃ pm wm, IxM w 0 L 2 (logC d n pm wm x.top) 70 pm wm x ∧ ∀ k, MineI L pm wm k → R k
  lt : ∀ k, R k → k < w.heap.size
  ok : IxOk x
section
variable {w : World} {R : Nat → Prop} {d L : Nat} {n : Int} {x : Ix}
theorem LxM.keep {w' : World} (h : LxM w R d L n x) (hs : w.heap.size ≤ w'.heap.size) (hb : ∀ k, R k → w'.heap[k]? = w.heap[k]?) : LxM w' R d L n x := by
  obtain ⟨pm, wm, hi, hm⟩ := h.ix
  exact ⟨⟨pm, wm, hi.keep fun k hk => hb k (hm k hk), hm⟩, fun k hk => Nat.lt_of_lt_of_le (h.lt k hk) hs, h.ok⟩
theorem LxM.later {w' : World} (h : LxM w R d L n x) (hb : Below w.heap.size w w') : LxM w' R d L n x := h.keep hb.size fun k hk => hb.block k (h.lt k hk)
theorem LxM.only {R2 : Nat → Prop} {w' : World} (h : LxM w R d L n x) (ho : Only R2 w w') (ha : ∀ k, R k → ¬ R2 k) : LxM w' R d L n x := h.keep ho.size fun k hk => ho.block k (h.lt k hk) (ha k hk)
theorem LxM.box (h : LxM w R d L n x) : ∃ pm wm, Box w L (logC d n pm wm x.top) 70 ∧ R L := by
  obtain ⟨pm, wm, hi, hm⟩ := h.ix
  exact ⟨pm, wm, hi.box, hm L (Or.inl rfl)⟩
theorem logC_eq {w : World} {pm : Nat} {wm wm' : Option Nat} {t : Int} {cs : Array Value} {y : Ix} (hi : IxM w 0 L 2 cs 70 pm wm' y) (hc : ∀ i, i ≠ 2 + 1 → i ≠ 2 + 2 → cs[i]? = (logC d n pm wm t)[i]?) : cs = logC d n pm wm' y.top := by
  apply Array.ext_getElem?
  intro i
  match i with
  | 0 => exact hc 0 (by decide) (by decide)
  | 1 => exact hc 1 (by decide) (by decide)
  | 2 => exact hi.c0
  | 3 => exact hi.c1
  | 4 => exact hi.c2
  | k + 5 => rw [hc (k + 5) (by omega) (by omega)]; rfl
/-- An index behind a call of its own. -/
theorem LxM.turned {w' : World} {pm : Nat} {wm : Option Nat} {y : Ix} (hi : IxM w 0 L 2 (logC d n pm wm x.top) 70 pm wm x) (hm : ∀ k, MineI L pm wm k → R k) (ha : AftI 0 L 2 (logC d n pm wm x.top) 70 pm wm w y w') (ho : IxOk y) : ∃ R', LxM w' R' d L n y ∧ TurnR R w R' w' := by
  obtain ⟨wm', cs', h1, h2, h3, h4⟩ := ha
  obtain rfl := logC_eq h1 h2
  refine ⟨MineI L pm wm', ⟨⟨pm, wm', h1, fun k hk => hk⟩, fun k hk => (h1.lt hk).1, ho⟩, ⟨h3.wide hm, fun k hk => ?_⟩⟩
  rcases hk with hk | hk | hk
  · exact Or.inl (hm k (Or.inl hk))
  · exact Or.inl (hm k (Or.inr (Or.inl hk)))
  · rcases h4 with h4 | ⟨m, h4, h5⟩
    · exact Or.inl (hm k (Or.inr (Or.inr (h4 ▸ hk))))
    · rw [h4] at hk
      cases hk
      exact Or.inr h5
end
/-- The package's variable. -/
def gNow : Nat := 0
def NowM (w : World) : Prop := ∀ i : Nat, i < 3 → w.cell? ⟨gNow, i, none⟩ = (plC nowh)[i]?
theorem NowM.lt {w : World} (h : NowM w) : gNow < w.heap.size := World.block_lt_of_cell? _ _ (h 0 (by decide))
theorem NowM.keep {w w' : World} (h : NowM w) (hb : w'.heap[gNow]? = w.heap[gNow]?) : NowM w' := fun i hi => (cell_blk hb i).trans (h i hi)
theorem NowM.later {w w' : World} (h : NowM w) (hb : Below w.heap.size w w') : NowM w' := h.keep (hb.block _ h.lt)
theorem NowM.only {R : Nat → Prop} {w w' : World} (h : NowM w) (ho : Only R w w') (hn : ¬ R gNow) : NowM w' := h.keep (ho.block _ h.lt hn)
structure LgM (w : World) (RD RL : Nat → Prop) (d L : Nat) (g : Lg) : Prop where
  dk : DkM w RD d g.D
  lx : LxM w RL d L g.n g.x
  ap : ∀ k, RD k → ¬ RL k
  now : NowM w
  nD : ¬ RD gNow
  nL : ¬ RL gNow
/-- What a log is behind a call. -/
structure AftG (RD RL : Nat → Prop) (d L : Nat) (w : World) (g' : Lg) (w' : World) (RD' RL' : Nat → Prop) : Prop where
  lg : LgM w' RD' RL' d L g'
  only : Only (fun k => RD k ∨ RL k) w w'
  newD : ∀ k, RD' k → RD k ∨ w.heap.size ≤ k
  newL : ∀ k, RL' k → RL k ∨ w.heap.size ≤ k
def AftL (RD RL : Nat → Prop) (d L : Nat) (w : World) (g' : Lg) (w' : World) : Prop := ∃ RD' RL', AftG RD RL d L w g' w' RD' RL'
section
variable {w w' : World} {RD RL : Nat → Prop} {d L : Nat} {g g' : Lg}
theorem LgM.keep (h : LgM w RD RL d L g) (hs : w.heap.size ≤ w'.heap.size) (hb : ∀ k, k < w.heap.size → (RD k ∨ RL k ∨ k = gNow) → w'.heap[k]? = w.heap[k]?) : LgM w' RD RL d L g :=
  ⟨h.dk.keep hs fun k hk => hb k (h.dk.lt k hk) (Or.inl hk), h.lx.keep hs fun k hk => hb k (h.lx.lt k hk) (Or.inr (Or.inl hk)), h.ap, h.now.keep (hb _ h.now.lt (Or.inr (Or.inr rfl))), h.nD, h.nL⟩
theorem LgM.later (h : LgM w RD RL d L g) (hb : Below w.heap.size w w') : LgM w' RD RL d L g := h.keep hb.size fun k hk _ => hb.block k hk
theorem LgM.drew (h : LgM w RD RL d L g) : LgM w.drew RD RL d L g := h.later (Below.refl _ w).drew
theorem AftL.refl (h : LgM w RD RL d L g) (hb : Below w.heap.size w w') : AftL RD RL d L w g w' := ⟨RD, RL, h.later hb, Only.of_below _ hb, fun k hk => Or.inl hk, fun k hk => Or.inl hk⟩
theorem AftL.trans {w1 : World} {RD1 RL1 : Nat → Prop} {g1 : Lg} (h : AftG RD RL d L w g1 w1 RD1 RL1) (k : AftL RD1 RL1 d L w1 g' w') : AftL RD RL d L w g' w' := by
  obtain ⟨RD2, RL2, k⟩ := k
  refine ⟨RD2, RL2, k.lg, h.only.trans k.only fun x hx => ?_, fun x hx => ?_, fun x hx => ?_⟩
  · rcases hx with hx | hx
    · rcases h.newD x hx with e | e
      · exact Or.inl (Or.inl e)
      · exact Or.inr e
    · rcases h.newL x hx with e | e
      · exact Or.inl (Or.inr e)
      · exact Or.inr e
  · rcases k.newD x hx with e | e
    · exact h.newD x e
    · exact Or.inr (Nat.le_trans h.only.size e)
  · rcases k.newL x hx with e | e
    · exact h.newL x e
    · exact Or.inr (Nat.le_trans h.only.size e)
/-- The same from an earlier world. -/
theorem AftL.before {w0 : World} (hb : Below w0.heap.size w0 w) (h : AftL RD RL d L w g' w') : AftL RD RL d L w0 g' w' := by
  obtain ⟨RD2, RL2, k⟩ := h
  refine ⟨RD2, RL2, k.lg, (Only.of_below _ hb).trans k.only (fun x hx => Or.inl hx), fun x hx => ?_, fun x hx => ?_⟩
  · rcases k.newD x hx with e | e
    · exact Or.inl e
    · exact Or.inr (Nat.le_trans hb.size e)
  · rcases k.newL x hx with e | e
    · exact Or.inl e
    · exact Or.inr (Nat.le_trans hb.size e)
theorem AftL.later {w2 : World} (h : AftL RD RL d L w g' w') (hb : Below w'.heap.size w' w2) : AftL RD RL d L w g' w2 := by
  obtain ⟨RD2, RL2, k⟩ := h
  exact AftL.trans k (AftL.refl k.lg hb)
/-- A call upon the disk alone. -/
theorem LgM.disk {D' : Ds} (h : LgM w RD RL d L g) (ha : AftK RD d w D' w') : AftL RD RL d L w ⟨D', g.n, g.x⟩ w' := by
  obtain ⟨RD', hd, ht⟩ := ha
  refine ⟨RD', RL, ⟨hd, h.lx.only ht.only (fun k h1 h2 => h.ap k h2 h1), fun k hk hl => ?_, h.now.only ht.only h.nD, fun e => ?_, h.nL⟩, ht.only.wide (fun k hk => Or.inl hk), ht.new, fun k hk => Or.inl hk⟩
  · rcases ht.new k hk with e | e
    · exact h.ap k e hl
    · have := h.lx.lt k hl
      omega
  · rcases ht.new _ e with e | e
    · exact h.nD e
    · have := h.now.lt
      omega
/-- A call upon the index alone. -/
theorem LgM.index {x' : Ix} (h : LgM w RD RL d L g) (ha : ∃ RL', LxM w' RL' d L g.n x' ∧ TurnR RL w RL' w') : AftL RD RL d L w ⟨g.D, g.n, x'⟩ w' := by
  obtain ⟨RL', hl, ht⟩ := ha
  refine ⟨RD, RL', ⟨h.dk.only ht.only h.ap, hl, fun k hk hk2 => ?_, h.now.only ht.only h.nL, h.nD, fun e => ?_⟩, ht.only.wide (fun k hk => Or.inr hk), fun k hk => Or.inl hk, ht.new⟩
  · rcases ht.new k hk2 with e | e
    · exact h.ap k hk e
    · have := h.dk.lt k hk
      omega
  · rcases ht.new _ e with e | e
    · exact h.nL e
    · have := h.now.lt
      omega
/-- What is no block of the log's stays. -/
theorem AftG.keep {RD' RL' : Nat → Prop} (h : AftG RD RL d L w g' w' RD' RL') {k : Nat} (hk : k < w.heap.size) (h1 : ¬ RD k) (h2 : ¬ RL k) : w'.heap[k]? = w.heap[k]? := h.only.block k hk (fun e => by rcases e with e | e; exact h1 e; exact h2 e)
end
theorem kreplay_at {w : World} {R : Nat → Prop} {d : Nat} {D : Ds} (h : DkM w R d D) (l : List Int) (N cap : Nat) (a : Option Addr) (hl : l.length = N) (hN : N ≤ 16) (hr : RdC w a (inL l)) (hw : ∀ s ∈ l, okI s) :
    Calls Tryz.prog 25 #[.pointer (some ⟨d, 0, none⟩), .slice a N cap] w fun e w' => ∃ (pm : Nat) (wm : Option Nat), e = .returned (.agg #[.map (some pm), .map wm, .int .i64 (replL D.S l).top]) ∧ PtM w' pm (replL D.S l).puts ∧ WtM w' wm (replL D.S l).waits ∧ wm ≠ some pm ∧ w.heap.size ≤ pm ∧ (∀ m, wm = some m → w.heap.size ≤ m) ∧ Below w.heap.size w w' := by
  obtain ⟨bm, uc, V, ua, hd, hmi⟩ := h.dm
  refine (replay_at hd h.byt l N cap a hl hN hr hw).mono ?_
  rintro e w' ⟨x, pm, wm, rfl, hrep, h1, h2, h3, h4, h5, h6⟩
  obtain rfl : x = replL D.S l := repR_eq h.byt hrep
  exact ⟨pm, wm, rfl, h1, h2, h3, h4, h5, h6⟩
theorem kopen_at {w : World} {R : Nat → Prop} {d : Nat} {D : Ds} (h : DkM w R d D) (n : Int) (hnow : NowM w) (hn : ¬ R gNow) :
    Calls Tryz.prog 9 #[.pointer (some ⟨d, 0, none⟩), .int .i64 n] w fun e w' => ∃ (L : Nat) (RL : Nat → Prop), e = .returned (.tuple #[.pointer (some ⟨L, 0, none⟩), .int .i64 0]) ∧ LgM w' R RL d L (openL D n) ∧ Few (openL D n).x ∧ Below w.heap.size w w' ∧ ∀ k, RL k → w.heap.size ≤ k := by
  obtain ⟨bm, uc, V, ua, hd, hmi⟩ := h.dm
  refine (open_at hd h.byt n).mono ?_
  rintro e w' ⟨L, pm, wm, x, rfl, hrep, hi, hb⟩
  obtain rfl : x = replL D.S (segsL D) := repR_eq h.byt hrep
  have hok := replL_ok h.byt h.seg (l := segsL D) (fun s hs => (h.segs_ok s hs).1)
  have hc : (segsL D).length ≤ 16 := by unfold segsL; rw [List.length_map]; exact h.cnt
  have hge : ∀ k, MineI L pm wm k → w.heap.size ≤ k := fun k hk => (hi.lt hk).2
  refine ⟨L, MineI L pm wm, rfl, ⟨h.later hb, ⟨⟨pm, wm, ⟨hi.box, hi.c0, hi.c1, hi.c2, hi.puts, hi.waits, hi.apart, Nat.zero_le _, Nat.zero_le _, fun m _ => Nat.zero_le _⟩, fun k hk => hk⟩, fun k hk => (hi.lt hk).1, hok.1⟩, fun k h1 h2 => ?_, hnow.later hb, hn, fun e => ?_⟩, ⟨?_, ?_⟩, hb, hge⟩
  · have := h.lt k h1
    have := hge k h2
    omega
  · have := hnow.lt
    have := hge _ e
    omega
  · show (replL D.S (segsL D)).puts.length ≤ _
    omega
  · show (replL D.S (segsL D)).waits.length ≤ _
    omega
end Go.Proofs.YteinblpkcpjpnaaGreatDoor
