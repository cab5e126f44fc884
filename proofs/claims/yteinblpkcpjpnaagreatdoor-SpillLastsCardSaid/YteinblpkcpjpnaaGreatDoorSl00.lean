/- Part of a chain: SpDur, SpJ, SpJ2. -/
import Derived.Test.YteinblpkcpjpnaaGreatDoorSm00
/- Package spill, told by lists: what a crash cannot take. No program here. -/
namespace Go.Proofs.YteinblpkcpjpnaaGreatDoor
open Go Go.RowKit
set_option linter.unusedVariables false
set_option linter.unusedSimpArgs false
set_option maxRecDepth 10000

/-- How many bytes a segment loses. -/
def cutC : Int → Pcs → Int → Nat
  | _, [], _ => 0
  | k, p :: t, g => (if p.1 = g then p.2 - keptN k p.2 else 0) + cutC (k - keptN k p.2) t g
/-- What is left to keep. -/
def remK : Int → Pcs → Int
  | k, [] => k
  | k, p :: t => remK (k - keptN k p.2) t
theorem crash_gD : ∀ (u : Pcs) (S : Sgs) (k : Int) (g : Int), gD (crash k S u) g = (gD S g).take ((gD S g).length - cutC k u g)
  | [], S, k, g => by
    show gD S g = _
    unfold cutC
    rw [Nat.sub_zero, List.take_length]
  | p :: t, S, k, g => by
    show gD (crash (k - keptN k p.2) (cut1 k S p) t) g = _
    rw [crash_gD t]
    have e : gD (cut1 k S p) g = (gD S g).take ((gD S g).length - (if p.1 = g then p.2 - keptN k p.2 else 0)) := by
      unfold cut1
      rw [gD_put]
      by_cases h : g = p.1
      · subst h
        rw [if_pos rfl, if_pos rfl]
      · rw [if_neg h, if_neg (fun e => h e.symm), Nat.sub_zero, List.take_length]
    rw [e, List.take_take, List.length_take]
    congr 1
    rw [cutC]
    omega
theorem cutC_app : ∀ (u : Pcs) (k : Int) (n : Int) (z : Nat) (g : Int), cutC k (u ++ [(n, z)]) g = cutC k u g + (if n = g then z - keptN (remK k u) z else 0)
  | [], k, n, z, g => by
    show (if n = g then z - keptN k z else 0) + 0 = 0 + _
    rw [Nat.zero_add]
    rfl
  | p :: t, k, n, z, g => by
    rw [List.cons_append, cutC, cutC_app t, cutC, remK]
    omega
theorem keptN_np {k : Int} (h : k ≤ 0) (z : Nat) : keptN k z = 0 := by unfold keptN; omega
theorem remK_np : ∀ (u : Pcs) {k : Int}, k ≤ 0 → remK k u ≤ 0
  | [], k, h => h
  | p :: t, k, h => by
    rw [remK, keptN_np h]
    exact remK_np t (by omega)
theorem kept_or : ∀ (u : Pcs) (k : Int), (∀ g, cutC k u g = 0) ∨ remK k u ≤ 0
  | [], k => Or.inl fun _ => rfl
  | p :: t, k => by
    by_cases h : (p.2 : Int) ≤ k
    · have hk : keptN k p.2 = p.2 := by unfold keptN; omega
      rcases kept_or t (k - keptN k p.2) with h1 | h1
      · refine Or.inl fun g => ?_
        rw [cutC, h1, hk]
        split <;> omega
      · exact Or.inr h1
    · refine Or.inr ?_
      rw [remK]
      exact remK_np t (by have := keptN_int k p.2; omega)
/-- A crash behind an append: the append is lost, or nothing else is. -/
theorem crash_app (S : Sgs) (u : Pcs) (n : Int) (b : List Int) (k : Int) :
    (∀ g, gD (crash k (pS S n (gD S n ++ b)) (u ++ [(n, b.length)])) g = gD (crash k S u) g) ∨ (∀ g, ∃ t, gD (crash k (pS S n (gD S n ++ b)) (u ++ [(n, b.length)])) g = gD S g ++ t) := by
  rcases kept_or u k with h | h
  · refine Or.inr fun g => ?_
    rw [crash_gD, cutC_app, h, gD_put, Nat.zero_add]
    by_cases e : g = n
    · subst e
      rw [if_pos rfl, if_pos rfl, List.length_append]
      refine ⟨b.take (keptN (remK k u) b.length), ?_⟩
      have hk := keptN_le (remK k u) b.length
      rw [show (gD S g).length + b.length - (b.length - keptN (remK k u) b.length) = (gD S g).length + keptN (remK k u) b.length by omega, List.take_length_add_append]
    · rw [if_neg e, if_neg (fun e2 => e e2.symm), Nat.sub_zero, List.take_length]
      exact ⟨[], (List.append_nil _).symm⟩
  · refine Or.inl fun g => ?_
    rw [crash_gD, crash_gD, cutC_app, gD_put, keptN_np h]
    by_cases e : g = n
    · subst e
      rw [if_pos rfl, if_pos rfl, List.length_append, Nat.sub_zero, show (gD S g).length + b.length - (cutC k u g + b.length) = (gD S g).length - cutC k u g by omega, List.take_append_of_le_length (by omega)]
    · rw [if_neg e, if_neg (fun e2 => e e2.symm), Nat.add_zero]
def InS (S : Sgs) (r : Rc) : Prop := ∃ n, r ∈ scanL (gD S n)
theorem in_log {S : Sgs} (hs : SS S) {r : Rc} : r ∈ logS S ↔ InS S r := by
  unfold logS
  rw [List.mem_flatMap]
  constructor
  · rintro ⟨p, hp, hr⟩
    exact ⟨p.1, by rw [gD_self hs hp]; exact hr⟩
  · rintro ⟨n, hr⟩
    by_cases hn : n ∈ S.map Prod.fst
    · obtain ⟨p, hp, rfl⟩ := List.mem_map.1 hn
      exact ⟨p, hp, by rw [gD_self hs hp] at hr; exact hr⟩
    · rw [gD_off hn] at hr
      cases hr
def Dur (S : Sgs) (u : Pcs) (r : Rc) : Prop := ∀ k, InS (crash k S u) r
theorem dur_none {S : Sgs} {r : Rc} (h : InS S r) : Dur S [] r := fun _ => h
theorem crash_in {S : Sgs} (hb : BytS S) {u : Pcs} {k : Int} {r : Rc} (h : InS (crash k S u) r) : InS S r := by
  obtain ⟨n, hr⟩ := h
  rw [crash_gD] at hr
  obtain ⟨t, ht⟩ := scan_take (hb n) ((gD S n).length - cutC k u n)
  exact ⟨n, by rw [ht]; exact List.mem_append.2 (Or.inl hr)⟩
theorem dur_in {S : Sgs} (hb : BytS S) {u : Pcs} {r : Rc} (h : Dur S u r) : InS S r := crash_in hb (h 0)
theorem dur_app {S : Sgs} (hb : BytS S) {u : Pcs} {r : Rc} (h : Dur S u r) (n : Int) {b : List Int} (hbb : Byts b) : Dur (pS S n (gD S n ++ b)) (u ++ [(n, b.length)]) r := fun k => by
  rcases crash_app S u n b k with h1 | h1
  · obtain ⟨m, hm⟩ := h k
    exact ⟨m, by rw [h1]; exact hm⟩
  · obtain ⟨m, hm⟩ := dur_in hb h
    obtain ⟨t, ht⟩ := h1 m
    have hby := byt_crash (u := u ++ [(n, b.length)]) k (byt_log (n := n) hb ((hb n).append hbb)) m
    rw [ht] at hby
    obtain ⟨t2, ht2⟩ := scan_take hby (gD S m).length
    rw [List.take_left' rfl] at ht2
    exact ⟨m, by rw [ht, ht2]; exact List.mem_append.2 (Or.inl hm)⟩
theorem dur_tail {r : Rc} : ∀ (F S : Sgs) (u : Pcs), SS (S ++ F) → BytS S → (∀ p ∈ F, Byts p.2) → Dur S u r → Dur (S ++ F) (u ++ F.map fun p => (p.1, p.2.length)) r
  | [], S, u, _, _, _, h => by rw [List.append_nil, List.map_nil, List.append_nil]; exact h
  | (n, b) :: t, S, u, hs, hb, hF, h => by
    have hlast : ∀ p ∈ S, p.1 < n := fun p hp => (List.pairwise_append.1 hs).2.2 p hp (n, b) List.mem_cons_self
    have e0 : gD S n = [] := by unfold gD; rw [gS_none hlast]; rfl
    have e1 : pS S n (gD S n ++ b) = S ++ [(n, b)] := by rw [e0, List.nil_append]; exact pS_last _ hlast
    have h1 := dur_app hb h n (hF _ List.mem_cons_self)
    rw [e1] at h1
    have hb1 : BytS (S ++ [(n, b)]) := by rw [← e1]; exact byt_log hb ((hb n).append (hF _ List.mem_cons_self))
    have h2 := dur_tail t (S ++ [(n, b)]) (u ++ [(n, b.length)]) (by rw [List.append_assoc]; exact hs) hb1 (fun p hp => hF p (List.mem_cons_of_mem _ hp)) h1
    rw [List.append_assoc, List.append_assoc] at h2
    exact h2
end Go.Proofs.YteinblpkcpjpnaaGreatDoor
/- Package spill, told by lists: what is sure lasts, and nothing is there that never was put; by any call, on a disk that fails. No program here. -/
namespace Go.Proofs.YteinblpkcpjpnaaGreatDoor
open Go Go.RowKit
set_option linter.unusedVariables false
set_option linter.unusedSimpArgs false
set_option maxRecDepth 10000

structure JL (g : Lg) (ever sure : List Rc) : Prop where
  ss : SS g.D.S
  byt : BytS g.D.S
  ids : ∀ r ∈ logS g.D.S, r.kind = 1 ∨ r.kind = 2 → r.id ≤ g.x.top
  ev : ∀ r ∈ logS g.D.S, r.kind = 1 → r ∈ ever
  sur : ∀ r ∈ sure, r.kind = 1 ∧ (gA g.x.puts r.id).isSome = true ∧ (∀ q ∈ logS g.D.S, q.kind = 1 ∨ q.kind = 2 → q.id = r.id → q = r) ∧ Dur g.D.S g.D.un r
  rd : ∀ i p, gA g.x.puts i = some p → ∃ r, AtP g.D.S p r ∧ r.kind = 1 ∧ r.id = i ∧ r ∈ logS g.D.S
  top0 : 0 ≤ g.x.top
section
variable {g : Lg} {ever sure : List Rc}
theorem JL.reads (h : JL g ever sure) : Reads g := fun i p hp => by
  obtain ⟨r, h1, h2, h3, _⟩ := h.rd i p hp
  exact ⟨r, h1, h2, h3⟩
theorem JL.lin (h : JL g ever sure) {i : Int} {r : Rc} (hl : loadL g i = some r) : r ∈ logS g.D.S ∧ r.kind = 1 ∧ r.id = i := by
  obtain ⟨k1, k2, _, _, k5⟩ := h.reads.load hl
  obtain ⟨p, hp⟩ := Option.isSome_iff_exists.1 k5
  obtain ⟨q, h1, _, _, h4⟩ := h.rd i p hp
  have e : loadL g i = some q := by
    unfold loadL atI
    rw [hp]
    exact h1.rd
  rw [hl] at e
  injection e with e
  rw [e]
  rw [e] at k1 k2
  exact ⟨h4, k1, k2⟩
theorem JL.hle (h : JL g ever sure) : ∀ i, (gA g.x.puts i).isSome = true → i ≤ g.x.top := fun i hi => by
  obtain ⟨p, hp⟩ := Option.isSome_iff_exists.1 hi
  obtain ⟨q, _, h2, h3, h4⟩ := h.rd i p hp
  rw [← h3]
  exact h.ids q h4 (Or.inl h2)
theorem JL.inlog (h : JL g ever sure) {r : Rc} (hr : r ∈ sure) : r ∈ logS g.D.S := (in_log h.ss).2 (dur_in h.byt (h.sur r hr).2.2.2)
theorem JL.sload (h : JL g ever sure) {r : Rc} (hr : r ∈ sure) : loadL g r.id = some r := by
  obtain ⟨s1, s2, s3, _⟩ := h.sur r hr
  obtain ⟨q, hq⟩ := h.reads.some s2
  obtain ⟨q1, q2, q3⟩ := h.lin hq
  rw [hq, s3 q q1 (Or.inl q2) q3]
/-- What is the same on the disk and has the same places. -/
theorem JL.cong (h : JL g ever sure) {D : Ds} {x : Ix} {n : Int} (hS : D.S = g.D.S) (hu : D.un = g.D.un ∨ D.un = []) (hp : ∀ i, gA x.puts i = gA g.x.puts i) (ht : g.x.top ≤ x.top) : JL ⟨D, n, x⟩ ever sure := by
  refine ⟨by show SS D.S; rw [hS]; exact h.ss, by show BytS D.S; rw [hS]; exact h.byt, fun r hr hk => ?_, fun r hr hk => ?_, fun r hr => ?_, fun i p hip => ?_, Int.le_trans h.top0 ht⟩
  · have hr : r ∈ logS D.S := hr
    rw [hS] at hr
    exact Int.le_trans (h.ids r hr hk) ht
  · have hr : r ∈ logS D.S := hr
    rw [hS] at hr
    exact h.ev r hr hk
  · obtain ⟨s1, s2, s3, s4⟩ := h.sur r hr
    refine ⟨s1, by show (gA x.puts r.id).isSome = true; rw [hp]; exact s2, by show ∀ q ∈ logS D.S, _; rw [hS]; exact s3, ?_⟩
    show Dur D.S D.un r
    rw [hS]
    rcases hu with hu | hu
    · rw [hu]; exact s4
    · rw [hu]; exact dur_none (dur_in h.byt s4)
  · have hip : gA x.puts i = some p := hip
    rw [hp] at hip
    show ∃ r, AtP D.S p r ∧ r.kind = 1 ∧ r.id = i ∧ r ∈ logS D.S
    rw [hS]
    exact h.rd i p hip
theorem JL.wide (h : JL g ever sure) {ever' sure' : List Rc} (he : ∀ r ∈ ever, r ∈ ever') (hs : ∀ r ∈ sure', r ∈ sure) : JL g ever' sure' :=
  ⟨h.ss, h.byt, h.ids, fun r hr hk => he r (h.ev r hr hk), fun r hr => h.sur r (hs r hr), h.rd, h.top0⟩
/-- A record is appended. -/
theorem JL.app (h : JL g ever sure) {r : Rc} {P : Pl} (hc : RoomC g.D g.n (encR r).length P) (h1 : soundR r) (h2 : FitR r) {D : Ds} {x : Ix} {n : Int}
    (hS : D.S = pS g.D.S P.seg (gD g.D.S P.seg ++ encR r)) (hu : D.un = g.D.un ++ [(P.seg, (encR r).length)] ∨ D.un = []) (hp : ∀ i, gA x.puts i = gA g.x.puts i) (ht : g.x.top ≤ x.top)
    (hid : r.kind = 1 ∨ r.kind = 2 → r.id ≤ x.top) (hne : r.kind = 1 ∨ r.kind = 2 → ∀ q ∈ sure, q.id ≠ r.id) (hev : r.kind = 1 → r ∈ ever) :
    JL ⟨D, n, x⟩ ever sure ∧ logS D.S = logS g.D.S ++ [r] ∧ AtP D.S P r := by
  obtain ⟨l1, l2⟩ := room_log h.ss h.byt h1 h2 hc
  rw [← hS] at l1 l2
  have hbb : BytS D.S := by rw [hS]; exact byt_log h.byt ((h.byt _).append (encR_byts h1))
  refine ⟨⟨by show SS D.S; rw [hS]; exact SS_put h.ss _ _, hbb, fun q hq hk => ?_, fun q hq hk => ?_, fun q hq => ?_, fun i p hip => ?_, Int.le_trans h.top0 ht⟩, l1, l2⟩
  · have hq : q ∈ logS D.S := hq
    rw [l1] at hq
    rcases List.mem_append.1 hq with hq | hq
    · exact Int.le_trans (h.ids q hq hk) ht
    · rw [List.mem_singleton] at hq; subst hq; exact hid hk
  · have hq : q ∈ logS D.S := hq
    rw [l1] at hq
    rcases List.mem_append.1 hq with hq | hq
    · exact h.ev q hq hk
    · rw [List.mem_singleton] at hq; subst hq; exact hev hk
  · obtain ⟨s1, s2, s3, s4⟩ := h.sur q hq
    refine ⟨s1, by show (gA x.puts q.id).isSome = true; rw [hp]; exact s2, fun z hz hk e => ?_, ?_⟩
    · have hz : z ∈ logS D.S := hz
      rw [l1] at hz
      rcases List.mem_append.1 hz with hz | hz
      · exact s3 z hz hk e
      · rw [List.mem_singleton] at hz; subst hz; exact absurd e.symm (hne hk q hq)
    · show Dur D.S D.un q
      have s5 := dur_app h.byt s4 P.seg (encR_byts h1)
      rw [← hS] at s5
      rcases hu with hu | hu
      · rw [hu]; exact s5
      · rw [hu]; exact dur_none (dur_in hbb s5)
  · have hip : gA x.puts i = some p := hip
    rw [hp] at hip
    obtain ⟨q, q1, q2, q3, q4⟩ := h.rd i p hip
    refine ⟨q, ?_, q2, q3, ?_⟩
    · show AtP D.S p q
      rw [hS]
      exact q1.put _ _
    · show q ∈ logS D.S
      rw [l1]
      exact List.mem_append.2 (Or.inl q4)
/-- A record is written, or is not. -/
theorem JL.write (h : JL g ever sure) {r : Rc} {P : Pl} (hP : roomL g.D g.n (encR r).length = (P, true)) (h1 : soundR r) (h2 : FitR r) {x : Ix} (n : Int) (hp : ∀ i, gA x.puts i = gA g.x.puts i) (ht : g.x.top ≤ x.top)
    (hid : r.kind = 1 ∨ r.kind = 2 → r.id ≤ x.top) (hne : r.kind = 1 ∨ r.kind = 2 → ∀ q ∈ sure, q.id ≠ r.id) (hev : r.kind = 1 → r ∈ ever) :
    JL ⟨(writeD g.D P.seg (encR r)).1, n, x⟩ ever sure ∧ ((writeD g.D P.seg (encR r)).2 = 0 → (writeD g.D P.seg (encR r)).1.un = [] ∧ logS (writeD g.D P.seg (encR r)).1.S = logS g.D.S ++ [r] ∧ AtP (writeD g.D P.seg (encR r)).1.S P r) := by
  have hc := room_cases h.ss hP
  rcases write_cases g.D P.seg (encR r) with ⟨w1, w2, w3⟩ | ⟨w1, w2, w3⟩ | ⟨w1, w2, w3⟩
  · exact ⟨h.cong w2 (Or.inl w3) hp ht, fun e => absurd e w1⟩
  · have ha := h.app hc h1 h2 (n := n) w2 (Or.inl w3) hp ht hid hne hev
    exact ⟨ha.1, fun e => absurd e w1⟩
  · have ha := h.app hc h1 h2 (n := n) w2 (Or.inr w3) hp ht hid hne hev
    exact ⟨ha.1, fun _ => ⟨w3, ha.2.1, ha.2.2⟩⟩
/-- A request is there, written and synced. -/
theorem JL.added (h : JL g ever sure) {r : Rc} {P : Pl} (hu : g.D.un = []) (hr : r ∈ logS g.D.S) (hk : r.kind = 1) (ha : AtP g.D.S P r) (hq : ∀ q ∈ logS g.D.S, q.kind = 1 ∨ q.kind = 2 → q.id = r.id → q = r) : JL ⟨g.D, g.n, { g.x with puts := pA g.x.puts r.id P }⟩ ever (sure ++ [r]) := by
  refine ⟨h.ss, h.byt, h.ids, h.ev, fun q hqs => ?_, fun i p hip => ?_, h.top0⟩
  · rcases List.mem_append.1 hqs with hqs | hqs
    · obtain ⟨s1, s2, s3, s4⟩ := h.sur q hqs
      refine ⟨s1, ?_, s3, s4⟩
      show (gA (pA g.x.puts r.id P) q.id).isSome = true
      rw [gA_put]
      split
      · rfl
      · exact s2
    · rw [List.mem_singleton] at hqs
      subst hqs
      refine ⟨hk, ?_, hq, ?_⟩
      · show (gA (pA g.x.puts q.id P) q.id).isSome = true
        rw [gA_put, if_pos rfl]
        rfl
      · show Dur g.D.S g.D.un q
        rw [hu]
        exact dur_none ((in_log h.ss).1 hr)
  · have hip : gA (pA g.x.puts r.id P) i = some p := hip
    rw [gA_put] at hip
    split at hip
    · rename_i e
      injection hip with hip
      subst hip
      exact ⟨r, ha, hk, e.symm, hr⟩
    · exact h.rd i p hip
/-- A request is taken off the index. -/
theorem JL.taken (h : JL g ever sure) (id : Int) {sure' : List Rc} (hs : ∀ r ∈ sure', r ∈ sure ∧ r.id ≠ id) : JL ⟨g.D, g.n, { g.x with puts := dA g.x.puts id }⟩ ever sure' := by
  refine ⟨h.ss, h.byt, h.ids, h.ev, fun q hq => ?_, fun i p hip => ?_, h.top0⟩
  · obtain ⟨s1, s2, s3, s4⟩ := h.sur q (hs q hq).1
    refine ⟨s1, ?_, s3, s4⟩
    show (gA (dA g.x.puts id) q.id).isSome = true
    rw [gA_del, if_neg (hs q hq).2]
    exact s2
  · have hip : gA (dA g.x.puts id) i = some p := hip
    rw [gA_del] at hip
    split at hip
    · cases hip
    · exact h.rd i p hip
/-- The segments behind a Compact: some of the old ones, and new ones. -/
theorem JL.half (h : JL g ever sure) {D : Ds} {F : Sgs} {n : Int} (hS : D.S = g.D.S ++ F) (hss : SS (g.D.S ++ F)) (hF : ∀ p ∈ F, Byts p.2) (hsub : ∀ r ∈ logS F, r ∈ stR g) (hu : D.un = g.D.un ++ F.map fun p => (p.1, p.2.length)) : JL ⟨D, n, g.x⟩ ever sure := by
  have hb : BytS (g.D.S ++ F) := byt_of fun p hp => by
    rcases List.mem_append.1 hp with hp | hp
    · have := h.byt p.1
      rw [gD_self h.ss hp] at this
      exact this
    · exact hF p hp
  have hl : logS D.S = logS g.D.S ++ logS F := by rw [hS, log_app]
  refine ⟨by show SS D.S; rw [hS]; exact hss, by show BytS D.S; rw [hS]; exact hb, fun r hr hk => ?_, fun r hr hk => ?_, fun r hr => ?_, fun i p hip => ?_, h.top0⟩
  · have hr : r ∈ logS D.S := hr
    rw [hl] at hr
    rcases List.mem_append.1 hr with hr | hr
    · exact h.ids r hr hk
    · exact st_id h.reads h.hle (hsub r hr) hk
  · have hr : r ∈ logS D.S := hr
    rw [hl] at hr
    rcases List.mem_append.1 hr with hr | hr
    · exact h.ev r hr hk
    · exact h.ev r (h.lin (st_one h.reads (hsub r hr) hk)).1 hk
  · obtain ⟨s1, s2, s3, s4⟩ := h.sur r hr
    refine ⟨s1, s2, fun q hq hk e => ?_, ?_⟩
    · have hq : q ∈ logS D.S := hq
      rw [hl] at hq
      rcases List.mem_append.1 hq with hq | hq
      · exact s3 q hq hk e
      · rcases hk with hk | hk
        · have h9 := h.lin (st_one h.reads (hsub q hq) hk)
          exact s3 q h9.1 (Or.inl hk) e
        · have h9 := (st_two h.reads (hsub q hq) hk).1
          rw [e] at h9
          rw [h9] at s2
          cases s2
    · show Dur D.S D.un r
      rw [hS, hu]
      exact dur_tail F g.D.S g.D.un hss h.byt hF s4
  · obtain ⟨q, q1, q2, q3, q4⟩ := h.rd i p hip
    refine ⟨q, ?_, q2, q3, ?_⟩
    · show AtP D.S p q
      rw [hS]
      exact q1.to (gD_left hss q1.key)
    · show q ∈ logS D.S
      rw [hl]
      exact List.mem_append.2 (Or.inl q4)
theorem JL.cgo (h : JL g ever sure) (ho : IxOk g.x) (hun : ∀ p ∈ g.D.un, p.1 ∈ g.D.S.map Prod.fst) : JL (compactGo g).1 ever sure ∧ (compactGo g).1.x.top = g.x.top := by
  have hR := h.reads
  have hgood := st_good hR ho
  obtain ⟨css, hp, hperm, _⟩ := pack_css hR ho
  rw [cgo_eq]
  by_cases hbig : g.n < ((packL g).length : Int)
  · have hrw : rewriteL g = (g.D, [], 5) := by unfold rewriteL; rw [if_pos hbig]
    rw [hrw, if_neg (by show ¬ (5 : Int) = 0; decide)]
    exact ⟨h, rfl⟩
  · obtain ⟨F, f1, f2, f3, f4, f5, f6, f7⟩ := rewL_gen (packL g) g.D (segsL g.D) h.ss rfl
    obtain ⟨⟨D2, all, e2⟩, hY⟩ : ∃ Y, rewL g.D (segsL g.D) (packL g) = Y := ⟨_, rfl⟩
    rw [hY] at f2 f4 f5 f6 f7
    dsimp only at f2 f4 f5 f6 f7
    have hrw : rewriteL g = (D2, F.map Prod.fst, e2) := by
      unfold rewriteL
      rw [if_neg hbig, hY]
      dsimp only
      rw [f4, List.drop_left' rfl]
    rw [hrw]
    dsimp only
    have hs2 : SS D2.S := by rw [f2]; exact f3
    have hbytF : ∀ p ∈ F, Byts p.2 := fun p hp2 => (packL_ok h.byt ho _ (f1.subset (List.mem_map_of_mem hp2))).1
    have hsubF : ∀ r ∈ logS F, r ∈ stR g := fun r hr => by
      unfold logS at hr
      obtain ⟨p, hp2, hrp⟩ := List.mem_flatMap.1 hr
      have h1 : p.2 ∈ packL g := f1.subset (List.mem_map_of_mem hp2)
      rw [hp] at h1
      obtain ⟨y, hy, hye⟩ := List.mem_map.1 h1
      rw [← hye, (scan_flat fun r hr => hgood r (hperm.mem_iff.1 (List.mem_flatten.2 ⟨y, hy, hr⟩))).1] at hrp
      exact hperm.mem_iff.1 (List.mem_flatten.2 ⟨y, hy, hrp⟩)
    by_cases hz0 : e2 = 0
    · rw [if_pos hz0]
      obtain ⟨f8, f9⟩ := f6 hz0
      have hF := log_flat (F := F) (css := css) (by rw [f8, hp]) (fun r hr => hgood r (hperm.mem_iff.1 hr))
      have hmem : ∀ q, q ∈ logS F ↔ q ∈ stR g := fun q => by rw [hF]; exact hperm.mem_iff
      obtain ⟨A1, A2, d1, d2, d3, d4, d5, d6⟩ := drops_gen g.D.S [] F D2 (by rw [f2]; rfl) hs2
      have d2 : (dropsD D2 (g.D.S.map Prod.fst)).1.S = A2 ++ F := d2
      rw [f9] at d4
      have d4 : (dropsD D2 (g.D.S.map Prod.fst)).1.un = [] := d4
      have hs3 : SS (A2 ++ F) := by
        rw [d1, List.append_assoc] at f3
        exact (List.pairwise_append.1 f3).2.1
      have hb3 : BytS (A2 ++ F) := byt_of fun p hp2 => by
        rcases List.mem_append.1 hp2 with hp2 | hp2
        · have hps : p ∈ g.D.S := by rw [d1]; exact List.mem_append.2 (Or.inr hp2)
          have := h.byt p.1
          rw [gD_self h.ss hps] at this
          exact this
        · exact hbytF p hp2
      have hrepl : replL D2.S (F.map Prod.fst) = replL F (F.map Prod.fst) := replL_congr fun s hs => by rw [f2]; exact gD_right f3 hs
      have hag := open_agr (ss_right f3) (byt_of hbytF)
      have ht3 := st_tells hR ho h.hle hmem
      have hold : ∀ r ∈ logS A2, r ∈ logS g.D.S := fun r hr => by rw [d1, log_app]; exact List.mem_append.2 (Or.inr hr)
      have htop : (replL D2.S (F.map Prod.fst)).top = g.x.top := by rw [hrepl, hag.top, ht3.2.2]
      refine ⟨⟨?_, ?_, fun r hr hk => ?_, fun r hr hk => ?_, fun r hr => ?_, fun i p hip => ?_, by dsimp only; rw [htop]; exact h.top0⟩, htop⟩
      all_goals rw [segs_eq] at *
      · dsimp only; rw [d2]; exact hs3
      · dsimp only; rw [d2]; exact hb3
      · dsimp only at hr ⊢
        rw [d2, log_app] at hr
        rw [htop]
        rcases List.mem_append.1 hr with hr | hr
        · exact h.ids r (hold r hr) hk
        · exact st_id hR h.hle (hsubF r hr) hk
      · dsimp only at hr
        rw [d2, log_app] at hr
        rcases List.mem_append.1 hr with hr | hr
        · exact h.ev r (hold r hr) hk
        · exact h.ev r (h.lin (st_one hR (hsubF r hr) hk)).1 hk
      · obtain ⟨s1, s2, s3, s4⟩ := h.sur r hr
        dsimp only
        have hrF : r ∈ logS F := (hmem r).2 ((st_mem hR).2 (Or.inl ⟨s1, h.sload hr⟩))
        refine ⟨s1, ?_, fun q hq hk e => ?_, ?_⟩
        · rw [hrepl, agr_of hag, ht3.1, h.sload hr]; rfl
        · rw [d2, log_app] at hq
          rcases List.mem_append.1 hq with hq | hq
          · exact s3 q (hold q hq) hk e
          · rcases hk with hk | hk
            · exact s3 q (h.lin (st_one hR (hsubF q hq) hk)).1 (Or.inl hk) e
            · have h9 := (st_two hR (hsubF q hq) hk).1
              rw [e] at h9
              rw [h9] at s2
              cases s2
        · rw [d4, d2]
          exact dur_none ((in_log hs3).1 (by rw [log_app]; exact List.mem_append.2 (Or.inr hrF)))
      · dsimp only at hip ⊢
        rw [hrepl] at hip
        obtain ⟨q, q1, q2⟩ := hag.puts i p hip
        obtain ⟨m1, m2, m3⟩ := lstP_mem q1
        rw [d2]
        exact ⟨q, q2.to (gD_right hs3 q2.key), m2, m3, by rw [log_app]; exact List.mem_append.2 (Or.inr m1)⟩
    · rw [if_neg hz0]
      have f7 := f7 hz0
      obtain ⟨F1, F2, d1, d2, d3, d4, d5, d6⟩ := drops_gen F g.D.S [] D2 (by rw [f2, List.append_nil]) hs2
      rw [List.append_nil] at d2
      have hsF : SS (F1 ++ F2) := by rw [← d1]; exact ss_right f3
      have hs3 : SS (g.D.S ++ F2) := by
        have f3' := f3
        rw [d1, ← List.append_assoc] at f3'
        unfold SS at f3' ⊢
        rw [List.append_assoc] at f3'
        obtain ⟨g1, g2, g3⟩ := List.pairwise_append.1 f3'
        exact List.pairwise_append.2 ⟨g1, (List.pairwise_append.1 g2).2.1, fun a ha b hb => g3 a ha b (List.mem_append.2 (Or.inr hb))⟩
      have hu1 : g.D.un.filter (fun q => decide (q.1 ∉ F1.map Prod.fst)) = g.D.un := List.filter_eq_self.2 fun q hq => decide_eq_true fun e => by
        obtain ⟨a, ha, ha2⟩ := List.mem_map.1 (hun q hq)
        obtain ⟨b, hb, hb2⟩ := List.mem_map.1 e
        have := (List.pairwise_append.1 f3).2.2 a ha b (by rw [d1]; exact List.mem_append.2 (Or.inl hb))
        omega
      have d4 : (dropsD D2 (F.map Prod.fst)).1.un = g.D.un ++ F2.map fun p => (p.1, p.2.length) := by
        rw [d4, f7, List.filter_append, hu1, d1, left_pieces hsF]
      exact ⟨h.half d2 hs3 (fun p hp2 => hbytF p (by rw [d1]; exact List.mem_append.2 (Or.inr hp2))) (fun r hr => hsubF r (by rw [d1, log_app]; exact List.mem_append.2 (Or.inr hr))) d4, rfl⟩
theorem log_drop {S : Sgs} {s : Int} : ∀ r ∈ logS (dS S s), r ∈ logS S := fun r hr => by
  unfold logS at hr ⊢
  obtain ⟨p, hp, hrp⟩ := List.mem_flatMap.1 hr
  exact List.mem_flatMap.2 ⟨p, (List.mem_filter.1 hp).1, hrp⟩
/-- A segment goes without which the state is the same. -/
theorem JL.pruned (h : JL g ever sure) {s : Int} {all : Ix} (hh : holdsL g (replL g.D.S ((segsL g.D).filter fun k => decide (k ≠ s))) all = true) {D : Ds} (hS : D.S = dS g.D.S s) (hu : D.un = []) (n : Int) :
    JL ⟨D, n, followX g.x (replL g.D.S ((segsL g.D).filter fun k => decide (k ≠ s)))⟩ ever sure := by
  obtain ⟨rest, hr0⟩ : ∃ rest, replL g.D.S ((segsL g.D).filter fun k => decide (k ≠ s)) = rest := ⟨_, rfl⟩
  have hag := (repl_agr h.byt (l := (segsL g.D).filter fun k => decide (k ≠ s))).1
  rw [hr0] at hag hh ⊢
  have hss : SS (dS g.D.S s) := SS_drop h.ss s
  have key : ∀ i p, gA rest.puts i = some p → ∃ q, AtP (dS g.D.S s) p q ∧ q.kind = 1 ∧ q.id = i ∧ q ∈ logS (dS g.D.S s) := fun i p hip => by
    obtain ⟨q, q1, q2, q3⟩ := hag i p hip
    obtain ⟨m1, m2, m3⟩ := lstP_mem q1
    have hps : p.seg ≠ s := of_decide_eq_true (List.mem_filter.1 q3).2
    refine ⟨q, q2.to (by rw [gD_drop, if_neg hps]), m2, m3, (in_log hss).2 ?_⟩
    obtain ⟨m, hm, hq⟩ := List.mem_flatMap.1 m1
    have hms : m ≠ s := of_decide_eq_true (List.mem_filter.1 hm).2
    exact ⟨m, by rw [gD_drop, if_neg hms]; exact hq⟩
  have hall : ∀ i, (gA g.x.puts i).isSome = true → (gA rest.puts i).isSome = true := fun i hi => by
    unfold holdsL at hh
    rw [Bool.and_eq_true] at hh
    have := List.all_eq_true.1 hh.1 i (srtI_mem.2 (gA_keys.2 hi))
    rw [Bool.and_eq_true] at this
    exact this.1
  have hput : ∀ i, gA (followX g.x rest).puts i = if (gA g.x.puts i).isSome = true then some (atI rest i) else none := fun i => by
    rw [follow_eq]
    show gA (fpG rest g.x.puts (srtI (g.x.puts.map Prod.fst))) i = _
    rw [fpG_get]
    by_cases hi : (gA g.x.puts i).isSome = true
    · rw [if_pos (srtI_mem.2 (gA_keys.2 hi)), if_pos hi]
    · rw [if_neg (fun e => hi (gA_keys.1 (srtI_mem.1 e))), if_neg hi]
      cases hg : gA g.x.puts i with
      | none => rfl
      | some p => rw [hg] at hi; exact absurd rfl hi
  refine ⟨by show SS D.S; rw [hS]; exact hss, by show BytS D.S; rw [hS]; intro k; rw [gD_drop]; split; exact Byts.nil; exact h.byt k, fun r hr hk => ?_, fun r hr hk => ?_, fun r hr => ?_, fun i p hip => ?_, h.top0⟩
  · have hr : r ∈ logS D.S := hr
    rw [hS] at hr
    exact h.ids r (log_drop r hr) hk
  · have hr : r ∈ logS D.S := hr
    rw [hS] at hr
    exact h.ev r (log_drop r hr) hk
  · obtain ⟨s1, s2, s3, s4⟩ := h.sur r hr
    obtain ⟨p, hp⟩ := Option.isSome_iff_exists.1 (hall _ s2)
    obtain ⟨q, q1, q2, q3, q4⟩ := key _ p hp
    have hqr := s3 q (log_drop q q4) (Or.inl q2) q3
    subst hqr
    refine ⟨s1, by show (gA (followX g.x rest).puts q.id).isSome = true; rw [hput, if_pos s2]; rfl, fun z hz hk e => ?_, ?_⟩
    · have hz : z ∈ logS D.S := hz
      rw [hS] at hz
      exact s3 z (log_drop z hz) hk e
    · show Dur D.S D.un q
      rw [hS, hu]
      exact dur_none ((in_log hss).1 q4)
  · have hip : gA (followX g.x rest).puts i = some p := hip
    rw [hput] at hip
    split at hip
    · rename_i hi
      injection hip with hip
      obtain ⟨p2, hp2⟩ := Option.isSome_iff_exists.1 (hall i hi)
      have e : atI rest i = p2 := by unfold atI; rw [hp2]; rfl
      rw [← hip, e]
      obtain ⟨q, q1, q2, q3, q4⟩ := key i p2 hp2
      exact ⟨q, by show AtP D.S p2 q; rw [hS]; exact q1, q2, q3, by show q ∈ logS D.S; rw [hS]; exact q4⟩
    · cases hip
end
theorem JL.pgo {ever sure : List Rc} : ∀ (l : List Int) {g : Lg} (all : Ix), JL g ever sure → g.D.un = [] → IxOk g.x → (∀ n, (gD g.D.S n).length ≤ 2048) → (∀ s ∈ segsL g.D, okI s) → JL (pruneGo l g all).1 ever sure ∧ (pruneGo l g all).1.D.un = [] ∧ IxOk (pruneGo l g all).1.x ∧ (pruneGo l g all).1.x.top = g.x.top
  | [], g, all, h, hu, ho, _, _ => ⟨h, hu, ho, rfl⟩
  | s :: t, g, all, h, hu, ho, hl, hk => by
    unfold Go.Proofs.YteinblpkcpjpnaaGreatDoor.pruneGo
    by_cases hh : holdsL g (replL g.D.S ((segsL g.D).filter fun k => decide (k ≠ s))) all = true
    · rw [if_pos hh]
      by_cases hg : (gS g.D.S s).isSome = true
      · by_cases hw : wfB g.D.beh g.D.fal = true
        · have e : dropD g.D s = (g.D.tick, 7) := by unfold dropD; rw [if_pos hg, if_pos hw]
          have e2 : dropsD g.D [s] = (g.D.tick, 7) := by unfold dropsD; rw [e, if_neg (by show ¬ (7 : Int) = 0; decide)]
          rw [e2, if_neg (by show ¬ (7 : Int) = 0; decide)]
          exact ⟨h.cong rfl (Or.inl rfl) (fun _ => rfl) (Int.le_refl _), hu, ho, rfl⟩
        · have e : dropD g.D s = (⟨dS g.D.S s, keepP s g.D.un, g.D.most, wfH g.D.beh, wfF g.D.beh g.D.fal⟩, 0) := by unfold dropD; rw [if_pos hg, if_neg hw]
          have e2 : dropsD g.D [s] = (⟨dS g.D.S s, keepP s g.D.un, g.D.most, wfH g.D.beh, wfF g.D.beh g.D.fal⟩, 0) := by unfold dropsD; rw [e, if_pos rfl]; rfl
          rw [e2, if_pos rfl]
          have hun : keepP s g.D.un = [] := by rw [hu]; rfl
          have hrest := replL_ok h.byt hl (l := (segsL g.D).filter fun k => decide (k ≠ s)) (fun x hx => hk x (List.mem_filter.1 hx).1)
          have h2 := h.pruned hh (D := ⟨dS g.D.S s, keepP s g.D.un, g.D.most, wfH g.D.beh, wfF g.D.beh g.D.fal⟩) rfl hun g.n
          have h3 := JL.pgo t (replL g.D.S ((segsL g.D).filter fun k => decide (k ≠ s))) h2 hun (follow_ok ho hrest.1) (fun n => by
            show (gD (dS g.D.S s) n).length ≤ 2048
            rw [gD_drop]
            split
            · exact Nat.zero_le _
            · exact hl n) (fun x hx => by
            have hx : x ∈ (dS g.D.S s).map Prod.fst := hx
            obtain ⟨p, hp, rfl⟩ := List.mem_map.1 hx
            exact hk _ (List.mem_map_of_mem (List.mem_filter.1 hp).1))
          exact ⟨h3.1, h3.2.1, h3.2.2.1, h3.2.2.2.trans rfl⟩
      · have e : dropD g.D s = (g.D, 4) := by unfold dropD; rw [if_neg hg]
        have e2 : dropsD g.D [s] = (g.D, 4) := by unfold dropsD; rw [e, if_neg (by show ¬ (4 : Int) = 0; decide)]
        rw [e2, if_neg (by show ¬ (4 : Int) = 0; decide)]
        exact ⟨h, hu, ho, rfl⟩
    · rw [if_neg hh]
      exact JL.pgo t all h hu ho hl hk
section
variable {g : Lg} {ever sure : List Rc}
/-- What is asked of the log in memory. -/
structure Fit (g : Lg) : Prop where
  ix : IxOk g.x
  un : ∀ p ∈ g.D.un, p.1 ∈ g.D.S.map Prod.fst
  len : ∀ n, (gD g.D.S n).length ≤ 2048
  key : ∀ s ∈ segsL g.D, okI s
theorem JL.compact (h : JL g ever sure) (hf : Fit g) : JL (compactL g).1 ever sure ∧ (compactL g).1.x.top = g.x.top := by
  rw [compact_eq]
  split
  · by_cases hz : (syncD g.D).2 = 0
    · have hp : pruneL g = pruneGo (segsL (syncD g.D).1) ⟨(syncD g.D).1, g.n, g.x⟩ (replL (syncD g.D).1.S (segsL (syncD g.D).1)) := by unfold pruneL; rw [if_pos hz]
      have h1 : JL ⟨(syncD g.D).1, g.n, g.x⟩ ever sure := h.cong (sync_S _) (Or.inr ((sync_un _).1 hz)) (fun _ => rfl) (Int.le_refl _)
      have h2 := JL.pgo (segsL (syncD g.D).1) (replL (syncD g.D).1.S (segsL (syncD g.D).1)) h1 ((sync_un _).1 hz) hf.ix (fun n => by show (gD (syncD g.D).1.S n).length ≤ _; rw [sync_S]; exact hf.len n) (fun s hs => hf.key s (by rw [segs_eq] at hs ⊢; dsimp only at hs; rw [sync_S] at hs; exact hs))
      rw [← hp] at h2
      split
      · have h3 := h2.1.cgo h2.2.2.1 (fun p hp2 => by rw [h2.2.1] at hp2; cases hp2)
        exact ⟨h3.1, h3.2.trans h2.2.2.2⟩
      · exact ⟨h2.1, h2.2.2.2⟩
    · have hp : pruneL g = (⟨(syncD g.D).1, g.n, g.x⟩, (syncD g.D).2) := by unfold pruneL; rw [if_neg hz]
      rw [hp, if_neg hz]
      exact ⟨h.cong (sync_S _) (Or.inl ((sync_un _).2.1 hz)) (fun _ => rfl) (Int.le_refl _), rfl⟩
  · exact h.cgo hf.ix hf.un
/-- Of Done and Wait: a record whose effect the state has already. -/
theorem JL.note (h : JL g ever sure) (hf : Fit g) {r : Rc} (h2 : FitR r) (hk : r.kind ≠ 1) (hid : r.kind = 2 → r.id ≤ g.x.top) (hne : r.kind = 2 → ∀ q ∈ sure, q.id ≠ r.id) : JL (noteL g r).1 ever sure ∧ (noteL g r).1.x.top = g.x.top := by
  by_cases hs : soundR r
  · obtain ⟨⟨P, ok⟩, hP⟩ : ∃ Q, roomL g.D g.n (encR r).length = Q := ⟨_, rfl⟩
    cases ok with
    | false =>
      rw [note_full hs (by rw [hP])]
      exact h.compact hf
    | true =>
      rw [note_yes hs (by rw [hP]), hP]
      dsimp only
      exact ⟨(h.write hP hs h2 g.n (x := g.x) (fun _ => rfl) (Int.le_refl _) (fun e => hid (e.resolve_left hk)) (fun e => hne (e.resolve_left hk)) (fun e => absurd e hk)).1, rfl⟩
  · rw [note_no hs]
    exact ⟨h, rfl⟩
theorem JL.done (h : JL g ever sure) (hf : Fit g) {id : Int} (hid : id < 9223372036854775808) {sure' : List Rc} (hs : ∀ r ∈ sure', r ∈ sure ∧ r.id ≠ id) : JL (doneL g id).1 ever sure' := by
  cases hg : (gA g.x.puts id).isSome with
  | false =>
    rw [done_no hg]
    exact h.wide (fun r hr => hr) (fun r hr => (hs r hr).1)
  | true =>
    rw [done_yes hg]
    have h1 := h.taken id hs
    exact (h1.note ⟨hf.ix.del id, hf.un, hf.len, hf.key⟩ (r := ⟨2, id, ⟨#[]⟩, ⟨#[]⟩, 0, 0⟩) ⟨hid, by show (0 : Int) < _; decide⟩ (by show ¬ (2 : Int) = 1; decide) (fun _ => h.hle id hg) (fun _ r hr => (hs r hr).2)).1
theorem pause_puts (x : Ix) (s : ByteArray) (t : Int) (p : Pl) : (pauseI x s t p).puts = x.puts ∧ (pauseI x s t p).top = x.top := by
  unfold pauseI
  split
  · exact ⟨rfl, rfl⟩
  · exact ⟨rfl, rfl⟩
theorem JL.waits (h : JL g ever sure) {ws : List (ByteArray × Wt)} : JL ⟨g.D, g.n, { g.x with waits := ws }⟩ ever sure := h.cong rfl (Or.inl rfl) (fun _ => rfl) (Int.le_refl _)
theorem JL.wait (h : JL g ever sure) (hf : Fit g) {s : ByteArray} {t : Int} (ht : t < 9223372036854775808) : JL (waitL g s t).1 ever sure := by
  by_cases hs : soundR (waitRc s t)
  · have h1 : JL ⟨g.D, g.n, pauseI g.x s t nowh⟩ ever sure := h.cong rfl (Or.inl rfl) (fun i => by rw [(pause_puts g.x s t nowh).1]) (by rw [(pause_puts g.x s t nowh).2]; exact Int.le_refl _)
    have hsz : s.size ≤ 256 := hs.2.2.2.2.2.2.1
    have h2 := (h1.note ⟨hf.ix.pause plOk_now (by omega) hsz, hf.un, hf.len, hf.key⟩ (r := waitRc s t) ⟨by show (0 : Int) < _; decide, ht⟩ (by show ¬ (3 : Int) = 1; decide) (fun e => absurd e (by show ¬ (3 : Int) = 2; decide)) (fun e => absurd e (by show ¬ (3 : Int) = 2; decide))).1
    unfold waitL
    rw [if_pos hs]
    split
    · exact JL.waits h2
    · exact h2
  · rw [wait_no hs]
    exact h
end
end Go.Proofs.YteinblpkcpjpnaaGreatDoor
/- Package spill, told by lists: what is sure lasts: Put, Open, a crash; what Pending tells. No program here. -/
namespace Go.Proofs.YteinblpkcpjpnaaGreatDoor
open Go Go.RowKit
set_option linter.unusedVariables false
set_option linter.unusedSimpArgs false
set_option maxRecDepth 10000

section
variable {g : Lg} {ever sure : List Rc}
theorem JL.putAt_ (h : JL g ever sure) {r : Rc} {P : Pl} (hP : roomL g.D g.n (encR r).length = (P, true)) (h1 : soundR r) (h2 : FitR r) (hk : r.kind = 1) (hid : r.id = g.x.top + 1) (hev : r ∈ ever) :
    JL (putAt (topped g r.id) r P).1 ever sure ∧ ((putAt (topped g r.id) r P).2 = 0 → JL (putAt (topped g r.id) r P).1 ever (sure ++ [r])) := by
  have hw := h.write hP h1 h2 (x := (topped g r.id).x) g.n (fun _ => rfl) (by show g.x.top ≤ max g.x.top r.id; omega) (fun _ => by show r.id ≤ max g.x.top r.id; omega) (fun _ q hq => by
    have := h.ids q (h.inlog hq) (Or.inl (h.sur q hq).1)
    omega) (fun _ => hev)
  unfold putAt
  have eD : (topped g r.id).D = g.D := rfl
  rw [eD]
  by_cases hz : (writeD g.D P.seg (encR r)).2 = 0
  · rw [if_pos hz]
    obtain ⟨w1, w2, w3⟩ := hw.2 hz
    have ha := hw.1.added (g := ⟨(writeD g.D P.seg (encR r)).1, g.n, (topped g r.id).x⟩) (r := r) (P := P) w1 (by show r ∈ logS (writeD g.D P.seg (encR r)).1.S; rw [w2]; exact List.mem_append.2 (Or.inr (List.mem_singleton.2 rfl))) hk w3 (fun q hq hkq e => by
      have hq : q ∈ logS (writeD g.D P.seg (encR r)).1.S := hq
      rw [w2] at hq
      rcases List.mem_append.1 hq with hq | hq
      · have := h.ids q hq hkq
        omega
      · exact List.mem_singleton.1 hq)
    exact ⟨ha.wide (fun r hr => hr) (fun r hr => List.mem_append.2 (Or.inl hr)), fun _ => ha⟩
  · rw [if_neg hz]
    exact ⟨hw.1, fun e => absurd e hz⟩
theorem JL.topped_ (h : JL g ever sure) (id : Int) : JL (topped g id) ever sure := h.cong (g := g) rfl (Or.inl rfl) (fun _ => rfl) (by show g.x.top ≤ max g.x.top id; omega)
theorem JL.put (h : JL g ever sure) (hf : Fit g) {r : Rc} (h2 : FitR r) (hk : r.kind = 1) (hid : r.id = g.x.top + 1) :
    JL (putL g r).1 (ever ++ [r]) sure ∧ ((putL g r).2 = 0 → JL (putL g r).1 (ever ++ [r]) (sure ++ [r])) := by
  have hw : JL g (ever ++ [r]) sure := h.wide (fun q hq => List.mem_append.2 (Or.inl hq)) (fun q hq => hq)
  have hr : r ∈ ever ++ [r] := List.mem_append.2 (Or.inr (List.mem_singleton.2 rfl))
  by_cases hs : soundR r
  · obtain ⟨⟨P, ok⟩, hP⟩ : ∃ Q, roomL g.D g.n (encR r).length = Q := ⟨_, rfl⟩
    cases ok with
    | true =>
      rw [put_yes hs hP]
      unfold putTail
      rw [if_pos rfl, if_pos rfl]
      exact hw.putAt_ hP hs h2 hk hid hr
    | false =>
      rw [put_full hs (by rw [hP])]
      obtain ⟨c1, c2⟩ := hw.compact hf
      obtain ⟨⟨g1, e1⟩, hg1⟩ : ∃ Y, compactL g = Y := ⟨_, rfl⟩
      rw [hg1] at c1 c2 ⊢
      dsimp only at c1 c2 ⊢
      obtain ⟨⟨P1, ok1⟩, hP1⟩ : ∃ Q, roomL g1.D g1.n (encR r).length = Q := ⟨_, rfl⟩
      rw [hP1]
      dsimp only
      unfold putTail
      by_cases hz : e1 = 0
      · rw [if_pos hz]
        cases ok1 with
        | true =>
          rw [if_pos rfl]
          exact c1.putAt_ hP1 hs h2 hk (by rw [c2]; exact hid) hr
        | false =>
          rw [if_neg (by decide)]
          exact ⟨c1.topped_ _, fun e => absurd e (by show ¬ (5 : Int) = 0; decide)⟩
      · rw [if_neg hz]
        exact ⟨c1.topped_ _, fun e => absurd e hz⟩
  · rw [put_no hs]
    exact ⟨hw, fun e => absurd e (by show ¬ (2 : Int) = 0; decide)⟩
/-- A disk is opened. -/
theorem JL.fresh {D : Ds} (hs : SS D.S) (hb : BytS D.S) (hev : ∀ r ∈ logS D.S, r.kind = 1 → r ∈ ever) (hsu : ∀ r ∈ sure, r.kind = 1 ∧ (∀ q ∈ logS D.S, q.kind = 1 ∨ q.kind = 2 → q.id = r.id → q = r) ∧ Dur D.S D.un r) (n : Int) : JL (openL D n) ever sure := by
  have ha : Agr D.S (openL D n).x := open_agr hs hb
  refine ⟨hs, hb, fun r hr hk => ?_, hev, fun r hr => ?_, fun i p hip => ?_, ?_⟩
  · rw [ha.top]
    exact mxT_ge hr hk
  · obtain ⟨s1, s2, s3⟩ := hsu r hr
    have hin : r ∈ logS D.S := (in_log hs).2 (dur_in hb s3)
    refine ⟨s1, ?_, s2, s3⟩
    rw [agr_of ha, lst_only (r := r) (fun q hq hk => s2 q hq (Or.inl hk.1) hk.2) (fun q hq hk => ?_) hin ⟨s1, rfl⟩]
    · rfl
    · have := s2 q hq (Or.inr hk.1) hk.2
      rw [this, s1] at hk
      exact absurd hk.1 (by decide)
  · obtain ⟨r, h1, h2⟩ := ha.puts i p hip
    obtain ⟨m1, m2, m3⟩ := lstP_mem h1
    exact ⟨r, h2, m2, m3, m1⟩
  · rw [ha.top]
    exact mxT_nn _
theorem JL.open_ (h : JL g ever sure) (n : Int) : JL (openL g.D n) ever sure := JL.fresh h.ss h.byt h.ev (fun r hr => ⟨(h.sur r hr).1, (h.sur r hr).2.2.1, (h.sur r hr).2.2.2⟩) n
theorem ss_crash : ∀ {u : Pcs} {S : Sgs} (k : Int), SS S → SS (crash k S u)
  | [], S, k, h => h
  | p :: t, S, k, h => ss_crash (u := t) _ (SS_cut h)
theorem JL.crash_ (h : JL g ever sure) (k n : Int) : JL (openL (crashD g.D k) n) ever sure := by
  have hs : SS (crashD g.D k).S := ss_crash k h.ss
  have hb : BytS (crashD g.D k).S := byt_crash k h.byt
  have hsub : ∀ r ∈ logS (crashD g.D k).S, r ∈ logS g.D.S := fun r hr => (in_log h.ss).2 (crash_in h.byt ((in_log hs).1 hr))
  exact JL.fresh hs hb (fun r hr hk => h.ev r (hsub r hr) hk) (fun r hr => ⟨(h.sur r hr).1, fun q hq => (h.sur r hr).2.2.1 q (hsub q hq), dur_none ((h.sur r hr).2.2.2 k)⟩) n
theorem JL.pend (h : JL g ever sure) (nd : (g.x.puts.map Prod.fst).Nodup) : (∀ r ∈ sure, r ∈ pendL g) ∧ (∀ r ∈ pendL g, r ∈ ever) ∧ (pendL g).Pairwise fun a b => a.id < b.id := by
  refine ⟨fun r hr => ?_, fun r hr => ?_, ?_⟩
  · exact List.mem_filterMap.2 ⟨r.id, srtI_mem.2 (gA_keys.2 (h.sur r hr).2.1), h.sload hr⟩
  · obtain ⟨id, _, hl⟩ := List.mem_filterMap.1 hr
    obtain ⟨h1, h2, _⟩ := h.lin hl
    exact h.ev r h1 h2
  · unfold pendL
    rw [List.pairwise_filterMap]
    have h1 : (srtI (g.x.puts.map Prod.fst)).Pairwise fun x y => decide (x ≤ y) = true := by
      unfold srtI
      refine List.pairwise_mergeSort (fun a b c h3 h4 => ?_) (fun a b => ?_) _
      · have := of_decide_eq_true h3
        have := of_decide_eq_true h4
        exact decide_eq_true (by omega)
      · by_cases h : a ≤ b
        · simp [h]
        · have : b ≤ a := by omega
          simp [this]
    have h2 : (srtI (g.x.puts.map Prod.fst)).Nodup := by
      unfold srtI
      exact (List.mergeSort_perm _ _).nodup_iff.2 nd
    refine (h1.and h2).imp ?_
    rintro a b ⟨h3, h4⟩ x hx y hy
    have e1 := (h.lin hx).2.2
    have e2 := (h.lin hy).2.2
    have := of_decide_eq_true h3
    omega
end
theorem JL.new (most n : Int) : JL (openL ⟨[], [], most, 0, 0⟩ n) [] [] := JL.fresh (D := ⟨[], [], most, 0, 0⟩) List.Pairwise.nil (fun _ => Byts.nil) (fun r hr => by cases hr) (fun r hr => by cases hr) n
end Go.Proofs.YteinblpkcpjpnaaGreatDoor
