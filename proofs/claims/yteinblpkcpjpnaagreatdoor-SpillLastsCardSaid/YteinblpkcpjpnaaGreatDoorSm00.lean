/- Part of a chain: SpCpe, SpCpf. -/
import Derived.Test.YteinblpkcpjpnaaGreatDoorSn00
/- Package spill, told by lists: Compact where the disk fails, and a crash behind it. No program here. -/
namespace Go.Proofs.YteinblpkcpjpnaaGreatDoor
open Go Go.RowKit
set_option linter.unusedVariables false
set_option linter.unusedSimpArgs false
set_option maxRecDepth 10000

theorem wf_zero (b : Int) : wfB b 0 = false ∧ wfF b 0 = 0 := by
  unfold wfB wfF
  refine ⟨by simp, ?_⟩
  split
  · rfl
  · rfl
theorem follow_nn {D : Ds} {l : List Int} (hl : segsL D = l) (hn : ∀ p ∈ D.S, 0 ≤ p.1) : 0 ≤ (followL l).1 := by
  unfold followL
  cases hgl : l.getLast? with
  | none => exact Int.le_refl 0
  | some v =>
    have hv := List.mem_of_getLast? hgl
    rw [← hl] at hv
    obtain ⟨p, hp, rfl⟩ := List.mem_map.1 hv
    have := hn p hp
    dsimp only
    split
    · exact Int.le_refl 0
    · show 0 ≤ _ + (1 : Int); omega
theorem rewL_err : ∀ (cs : List (List Int)) (D : Ds) (l : List Int) (B : Int), SS D.S → segsL D = l → (∀ c ∈ cs, c.length ≤ 2048) → (D.S.length : Int) + (cs.length : Int) ≤ D.most → (∀ p ∈ D.S, 0 ≤ p.1 ∧ p.1 ≤ B) → -1 ≤ B → B + (cs.length : Int) < 9223372036854775807 →
    ((rewL D l cs).2.2 = 0 ∨ (rewL D l cs).2.2 = 7) ∧ (D.fal = 0 → (rewL D l cs).2.2 = 0 ∧ (rewL D l cs).1.fal = 0)
  | [], D, l, B, hs, hl, _, _, hn, _, _ => by
    unfold rewL syncD
    refine ⟨?_, fun hf => ?_⟩
    · split
      · exact Or.inr rfl
      · exact Or.inl rfl
    · rw [hf, (wf_zero _).1, if_neg (by decide)]
      exact ⟨rfl, (wf_zero _).2⟩
  | c :: t, D, l, B, hs, hl, hc, hm, hn, hB, hB2 => by
    rw [List.length_cons] at hm hB2
    have hfo := follow_ok2 (D := D) (B := B) (by omega) (fun p hp => (hn p hp).2) hB
    rw [hl] at hfo
    have hlast := follow_last hs hl hfo.1
    have hg := gS_none hlast
    have e0 : gD D.S (followL l).1 = [] := by unfold gD; rw [hg]; rfl
    have hc1 := hc c List.mem_cons_self
    have hap : apF D.S D.most (followL l).1 c.length = false := by
      unfold apF
      rw [e0, decide_eq_false (by omega), Bool.and_false, Bool.false_or]
      exact decide_eq_false (by show ¬ (2048 < ((0 : Nat) : Int) + _); omega)
    have eS : pS D.S (followL l).1 (gD D.S (followL l).1 ++ c) = D.S ++ [((followL l).1, c)] := by rw [e0, List.nil_append]; exact pS_last _ hlast
    have h0 : 0 ≤ (followL l).1 := follow_nn hl fun p hp => (hn p hp).1
    unfold rewL
    rw [if_pos hfo.1]
    cases hw : wfB D.beh D.fal with
    | true =>
      have e1 : appD D (followL l).1 c = (D.tick, 7) := by unfold appD; rw [hap, hw, if_neg (by decide), if_pos rfl]
      rw [e1, if_neg (by show ¬ (7 : Int) = 0; decide)]
      refine ⟨Or.inr rfl, fun hf => ?_⟩
      rw [hf, (wf_zero _).1] at hw
      cases hw
    | false =>
      have e1 : appD D (followL l).1 c = (⟨pS D.S (followL l).1 (gD D.S (followL l).1 ++ c), D.un ++ [((followL l).1, c.length)], D.most, wfH D.beh, wfF D.beh D.fal⟩, 0) := by
        unfold appD
        rw [hap, hw, if_neg (by decide), if_neg (by decide)]
      rw [e1, if_pos rfl]
      dsimp only
      have ih := rewL_err t ⟨pS D.S (followL l).1 (gD D.S (followL l).1 ++ c), D.un ++ [((followL l).1, c.length)], D.most, wfH D.beh, wfF D.beh D.fal⟩ (l ++ [(followL l).1]) (B + 1) (SS_put hs _ _) (by rw [segs_eq]; dsimp only; rw [eS, List.map_append, ← segs_eq, hl]; rfl) (fun x hx => hc x (List.mem_cons_of_mem _ hx)) (by dsimp only; rw [eS, List.length_append]; simp only [List.length_cons, List.length_nil]; omega) (fun p hp => by
        dsimp only at hp
        rw [eS] at hp
        rcases List.mem_append.1 hp with hp | hp
        · have := hn p hp; omega
        · rw [List.mem_singleton] at hp; rw [hp]; have := hfo.2; dsimp only; omega) (by omega) (by omega)
      exact ⟨ih.1, fun hf => ih.2 (by dsimp only; rw [hf]; exact (wf_zero _).2)⟩
theorem drops_fal : ∀ (A B F : Sgs) (D : Ds), D.S = B ++ A ++ F → SS D.S → D.fal = 0 → (dropsD D (A.map Prod.fst)).2 = 0
  | [], B, F, D, _, _, _ => rfl
  | (k, c) :: A, B, F, D, hD, hs, hf => by
    have hg : (gS D.S k).isSome = true := gS_keys.1 (by rw [hD]; simp)
    have hs0 := hs
    rw [hD] at hs
    rw [List.map_cons]
    unfold dropsD
    have e : dropD D k = (⟨dS D.S k, keepP k D.un, D.most, wfH D.beh, 0⟩, 0) := by
      unfold dropD
      rw [if_pos hg, hf, (wf_zero _).1, (wf_zero _).2, if_neg (by decide)]
    rw [e, if_pos rfl]
    have e2 : dS D.S k = B ++ A ++ F := by rw [hD]; exact dS_head hs
    exact drops_fal A B F ⟨dS D.S k, keepP k D.un, D.most, wfH D.beh, 0⟩ e2 (by show SS (dS D.S k); exact SS_drop hs0 k) rfl
theorem pS_mid : ∀ {A F : Sgs} {n : Int} {b : List Int} (b' : List Int), SS (A ++ (n, b) :: F) → pS (A ++ (n, b) :: F) n b' = A ++ (n, b') :: F
  | [], F, n, b, b', _ => by
    show pS ((n, b) :: F) n b' = _
    unfold pS
    rw [if_neg (by omega), if_pos rfl]
    rfl
  | (m, c) :: A, F, n, b, b', h => by
    obtain ⟨h1, h2⟩ := List.pairwise_cons.1 h
    have h3 : m < n := h1 (n, b) (by simp)
    show pS ((m, c) :: (A ++ (n, b) :: F)) n b' = (m, c) :: (A ++ (n, b') :: F)
    unfold pS
    rw [if_neg (by omega), if_neg (by omega), pS_mid b' h2]
theorem ss_keys {S S' : Sgs} (h : SS S) (e : S'.map Prod.fst = S.map Prod.fst) : SS S' := by
  unfold SS at *
  have h1 : (S.map Prod.fst).Pairwise (· < ·) := by rw [List.pairwise_map]; exact h
  rw [← e, List.pairwise_map] at h1
  exact h1
/-- What a crash leaves of segments that are not synced. -/
theorem crash_tail : ∀ (F A : Sgs) (k : Int), SS (A ++ F) → ∃ F' : Sgs, crash k (A ++ F) (F.map fun p => (p.1, p.2.length)) = A ++ F' ∧ F'.map Prod.fst = F.map Prod.fst ∧ ∀ p ∈ F', ∃ q ∈ F, ∃ m, p.2 = q.2.take m
  | [], A, k, _ => ⟨[], rfl, rfl, fun p hp => (by cases hp)⟩
  | (n, b) :: F, A, k, h => by
    have hg : gD (A ++ (n, b) :: F) n = b := gD_self h (p := (n, b)) (by simp)
    obtain ⟨m, hm⟩ : ∃ m, b.length - (b.length - keptN k b.length) = m := ⟨_, rfl⟩
    have e : cut1 k (A ++ (n, b) :: F) (n, b.length) = A ++ (n, b.take m) :: F := by
      unfold cut1
      dsimp only
      rw [hg, hm]
      exact pS_mid _ h
    have e2 : A ++ (n, b.take m) :: F = (A ++ [(n, b.take m)]) ++ F := by rw [List.append_assoc]; rfl
    have hs2 : SS ((A ++ [(n, b.take m)]) ++ F) := by
      rw [← e2]
      exact ss_keys h (by rw [List.map_append, List.map_append]; rfl)
    obtain ⟨F', f1, f2, f3⟩ := crash_tail F (A ++ [(n, b.take m)]) (k - keptN k b.length) hs2
    refine ⟨(n, b.take m) :: F', ?_, by rw [List.map_cons, List.map_cons, f2], fun p hp => ?_⟩
    · rw [List.map_cons]
      show crash (k - keptN k b.length) (cut1 k (A ++ (n, b) :: F) (n, b.length)) (F.map fun p => (p.1, p.2.length)) = _
      rw [e, e2, f1, List.append_assoc]
      rfl
    · rcases List.mem_cons.1 hp with rfl | hp
      · exact ⟨(n, b), List.mem_cons_self, m, rfl⟩
      · obtain ⟨q, hq, m', hm'⟩ := f3 p hp
        exact ⟨q, List.mem_cons_of_mem _ hq, m', hm'⟩
theorem left_pieces {F1 F2 : Sgs} (h : SS (F1 ++ F2)) : ((F1 ++ F2).map fun p => (p.1, p.2.length)).filter (fun q => decide (q.1 ∉ F1.map Prod.fst)) = F2.map fun p => (p.1, p.2.length) := by
  rw [List.map_append, List.filter_append]
  have a1 : (F1.map fun p => (p.1, p.2.length)).filter (fun q => decide (q.1 ∉ F1.map Prod.fst)) = [] := List.filter_eq_nil_iff.2 fun q hq => by
    obtain ⟨p, hp, rfl⟩ := List.mem_map.1 hq
    rw [decide_eq_false (fun e => e (List.mem_map_of_mem hp))]
    decide
  have a2 : (F2.map fun p => (p.1, p.2.length)).filter (fun q => decide (q.1 ∉ F1.map Prod.fst)) = F2.map fun p => (p.1, p.2.length) := List.filter_eq_self.2 fun q hq => by
    obtain ⟨p, hp, rfl⟩ := List.mem_map.1 hq
    refine decide_eq_true fun e => ?_
    obtain ⟨r, hr, he⟩ := List.mem_map.1 e
    have := (List.pairwise_append.1 h).2.2 r hr p hp
    dsimp only at he
    omega
  rw [a1, a2, List.nil_append]
/-! What the members of what tells the state say. -/
theorem st_one {g : Lg} (h : Reads g) {q : Rc} (hq : q ∈ stR g) (hk : q.kind = 1) : loadL g q.id = some q := by
  rcases (st_mem h).1 hq with ⟨_, h2⟩ | ⟨s, _, rfl⟩ | ⟨rfl, _⟩
  · exact h2
  · exact absurd hk (by show ¬ (3 : Int) = 1; decide)
  · exact absurd hk (by show ¬ (2 : Int) = 1; decide)
theorem st_two {g : Lg} (h : Reads g) {q : Rc} (hq : q ∈ stR g) (hk : q.kind = 2) : gA g.x.puts q.id = none ∧ q.id = g.x.top := by
  rcases (st_mem h).1 hq with ⟨h1, h2⟩ | ⟨s, _, rfl⟩ | ⟨rfl, h2, _⟩
  · rw [h1] at hk; exact absurd hk (by decide)
  · exact absurd hk (by show ¬ (3 : Int) = 2; decide)
  · exact ⟨h2, rfl⟩
theorem st_three {g : Lg} (h : Reads g) {q : Rc} (hq : q ∈ stR g) (hk : q.kind = 3) : q.till = tillI g.x q.host := by
  rcases (st_mem h).1 hq with ⟨h1, h2⟩ | ⟨s, _, rfl⟩ | ⟨rfl, _⟩
  · rw [h1] at hk; exact absurd hk (by decide)
  · rfl
  · exact absurd hk (by show ¬ (2 : Int) = 3; decide)
theorem st_id {g : Lg} (h : Reads g) (hle : ∀ i, (gA g.x.puts i).isSome = true → i ≤ g.x.top) {q : Rc} (hq : q ∈ stR g) (hk : q.kind = 1 ∨ q.kind = 2) : q.id ≤ g.x.top := by
  rcases hk with hk | hk
  · exact hle _ (h.load (st_one h hq hk)).2.2.2.2
  · exact Int.le_of_eq (st_two h hq hk).2
def Tells (L : List Rc) (g : Lg) : Prop := (∀ i, lstP i L = loadL g i) ∧ (∀ s, mxW s L = tillI g.x s) ∧ mxT L = g.x.top
theorem no_load {g : Lg} (h : Reads g) {i : Int} (hl : loadL g i = none) {q : Rc} (hq : q ∈ stR g) : ¬ (q.kind = 1 ∧ q.id = i) := by
  rintro ⟨h1, h2⟩
  have := st_one h hq h1
  rw [h2, hl] at this
  cases this
theorem fold_none {i : Int} {L : List Rc} (h : ∀ q ∈ L, ¬ (q.kind = 1 ∧ q.id = i)) : L.foldl (stP i) none = none := lst_none h
/-- Some of them more change nothing. -/
theorem st_more {g : Lg} (h : Reads g) (hle : ∀ i, (gA g.x.puts i).isSome = true → i ≤ g.x.top) {L0 L : List Rc} (h0 : Tells L0 g) (hL : ∀ q ∈ L, q ∈ stR g) : Tells (L0 ++ L) g := by
  refine ⟨fun i => ?_, fun s => ?_, ?_⟩
  · rw [lstP_app, h0.1]
    cases hl : loadL g i with
    | none => exact fold_none fun q hq => no_load h hl (hL q hq)
    | some r =>
      refine lst_keep (fun q hq hk => ?_) (fun q hq hk => ?_) (Or.inl rfl)
      · have := st_one h (hL q hq) hk.1
        rw [hk.2, hl] at this
        exact (Option.some.inj this).symm
      · have h1 := (st_two h (hL q hq) hk.1).1
        have h2 := (h.load hl).2.2.2.2
        rw [hk.2] at h1
        rw [h1] at h2
        cases h2
  · rw [mxW_app, h0.2.1]
    exact max_only (Int.le_refl _) (fun q hq hk => by
      have := st_three h (hL q hq) hk.1
      rw [hk.2] at this
      omega) (Or.inl rfl)
  · rw [mxT_app, h0.2.2]
    exact top_only (Int.le_refl _) (fun q hq hk => st_id h hle (hL q hq) hk) (Or.inl rfl)
theorem max_nn (s : ByteArray) : ∀ (L : List Rc) (m : Int), m ≤ L.foldl (stW s) m
  | [], m => Int.le_refl m
  | a :: t, m => by
    rw [List.foldl_cons]
    have h1 := max_nn s t (stW s m a)
    have h2 : m ≤ stW s m a := by unfold stW; split <;> omega
    exact Int.le_trans h2 h1
/-- All of them, behind what holds no more. -/
theorem st_full {g : Lg} (h : Reads g) (ho : IxOk g.x) (hle : ∀ i, (gA g.x.puts i).isSome = true → i ≤ g.x.top) {L0 L : List Rc} (f1 : ∀ i, loadL g i = none → lstP i L0 = none) (f2 : ∀ s, mxW s L0 ≤ tillI g.x s) (f3 : mxT L0 ≤ g.x.top) (hL : ∀ q, q ∈ L ↔ q ∈ stR g) : Tells (L0 ++ L) g := by
  refine ⟨fun i => ?_, fun s => ?_, ?_⟩
  · rw [lstP_app]
    cases hl : loadL g i with
    | none =>
      rw [f1 i hl]
      exact fold_none fun q hq => no_load h hl ((hL q).1 hq)
    | some r =>
      obtain ⟨k1, k2, _, _, k5⟩ := h.load hl
      refine lst_keep (fun q hq hk => ?_) (fun q hq hk => ?_) (Or.inr ⟨r, (hL r).2 ((st_mem h).2 (Or.inl ⟨k1, by rw [k2]; exact hl⟩)), k1, k2⟩)
      · have := st_one h ((hL q).1 hq) hk.1
        rw [hk.2, hl] at this
        exact (Option.some.inj this).symm
      · have h1 := (st_two h ((hL q).1 hq) hk.1).1
        rw [hk.2] at h1
        rw [h1] at k5
        cases k5
  · rw [mxW_app]
    refine max_only (f2 s) (fun q hq hk => by
      have := st_three h ((hL q).1 hq) hk.1
      rw [hk.2] at this
      omega) ?_
    by_cases hs : s ∈ g.x.waits.map Prod.fst
    · exact Or.inr ⟨waitRc s (waitI g.x s).till, (hL _).2 ((st_mem h).2 (Or.inr (Or.inl ⟨s, hs, rfl⟩))), rfl, rfl, rfl⟩
    · refine Or.inl ?_
      have h0 : tillI g.x s = 0 := by
        rw [gA_keys] at hs
        unfold tillI
        cases hg : gA g.x.waits s with
        | none => rfl
        | some v => rw [hg] at hs; exact absurd rfl hs
      have h1 := f2 s
      have h2 : 0 ≤ mxW s L0 := max_nn s L0 0
      omega
  · rw [mxT_app]
    refine top_only f3 (fun q hq hk => st_id h hle ((hL q).1 hq) hk) ?_
    cases hg : gA g.x.puts g.x.top with
    | none =>
      by_cases h0 : 0 < g.x.top
      · exact Or.inr ⟨_, (hL _).2 ((st_mem h).2 (Or.inr (Or.inr ⟨rfl, hg, h0⟩))), Or.inr rfl, rfl⟩
      · have := ho.top0
        have := mxT_nn L0
        exact Or.inl (by omega)
    | some p =>
      obtain ⟨r, hr⟩ := h.some (i := g.x.top) (by rw [hg]; rfl)
      obtain ⟨k1, k2, _⟩ := h.load hr
      exact Or.inr ⟨r, (hL r).2 ((st_mem h).2 (Or.inl ⟨k1, by rw [k2]; exact hr⟩)), Or.inl k1, k2⟩
/-- The later part of a list of records. -/
theorem lst_part (i : Int) : ∀ (L : List Rc) (o : Option Rc), L.foldl (stP i) none = L.foldl (stP i) o ∨ L.foldl (stP i) none = none
  | [], o => Or.inr rfl
  | a :: t, o => by
    rw [List.foldl_cons, List.foldl_cons]
    by_cases h1 : a.kind = 1 ∧ a.id = i
    · have e : ∀ o, stP i o a = some a := fun o => by unfold stP; rw [if_pos h1]
      rw [e, e]
      exact Or.inl rfl
    · by_cases h2 : a.kind = 2 ∧ a.id = i
      · have e : ∀ o, stP i o a = none := fun o => by unfold stP; rw [if_neg h1, if_pos h2]
        rw [e, e]
        exact Or.inl rfl
      · have e : ∀ o, stP i o a = o := fun o => by unfold stP; rw [if_neg h1, if_neg h2]
        rw [e, e]
        exact lst_part i t o
theorem max_mono (s : ByteArray) : ∀ (L : List Rc) {m m' : Int}, m ≤ m' → L.foldl (stW s) m ≤ L.foldl (stW s) m'
  | [], _, _, h => h
  | a :: t, m, m', h => by
    rw [List.foldl_cons, List.foldl_cons]
    refine max_mono s t ?_
    unfold stW
    split <;> omega
theorem top_mono2 : ∀ (L : List Rc) {m m' : Int}, m ≤ m' → L.foldl stT m ≤ L.foldl stT m'
  | [], _, _, h => h
  | a :: t, m, m', h => by
    rw [List.foldl_cons, List.foldl_cons]
    refine top_mono2 t ?_
    unfold stT
    split <;> omega
/-- Two logs that answer alike. -/
structure Same (g g' : Lg) : Prop where
  load : ∀ i, loadL g' i = loadL g i
  some_ : ∀ i, (gA g'.x.puts i).isSome = (gA g.x.puts i).isSome
  till : ∀ s, tillI g'.x s = tillI g.x s
  top : g'.x.top = g.x.top
theorem same_open {g : Lg} (h : Reads g) {D : Ds} (hs : SS D.S) (hb : BytS D.S) (ht : Tells (logS D.S) g) (n : Int) : Same g (openL D n) := by
  have ha : Agr (openL D n).D.S (openL D n).x := open_agr hs hb
  refine ⟨fun i => by rw [ha.load]; exact ht.1 i, fun i => ?_, fun s => by rw [ha.waits]; exact ht.2.1 s, by rw [ha.top]; exact ht.2.2⟩
  rw [agr_of ha]
  have e : lstP i (logS (openL D n).D.S) = loadL g i := ht.1 i
  rw [e]
  cases hl : loadL g i with
  | none =>
    cases hg : (gA g.x.puts i).isSome with
    | false => rfl
    | true =>
      obtain ⟨r, hr⟩ := h.some hg
      rw [hl] at hr
      cases hr
  | some r => exact (h.load hl).2.2.2.2.symm
end Go.Proofs.YteinblpkcpjpnaaGreatDoor
/- Package spill, told by lists: whatever Compact comes to, also behind a crash, the log answers as it did. No program here. -/
namespace Go.Proofs.YteinblpkcpjpnaaGreatDoor
open Go Go.RowKit
set_option linter.unusedVariables false
set_option linter.unusedSimpArgs false
set_option maxRecDepth 10000

theorem CLx.wait {Z c : Nat} {g : Lg} (h : CLx Z c g) (hc : c ≤ 1000000) (hn : (g.D.S.length : Int) < g.n) {s : ByteArray} {t : Int} (ht0 : 0 ≤ t) (ht : t < 9223372036854775808) (hs : s.size ≤ 256) (hz : 26 + s.size ≤ Z) (hz2 : Z ≤ 1100) :
    ∃ g', waitL g s t = (g', 0) ∧ CLx Z (c + 1) g' ∧ logS g'.D.S = logS g.D.S ++ [waitRc s t] ∧ g'.n = g.n := by
  have h1 : soundR (waitRc s t) := ⟨by show (1 : Int) ≤ 3; decide, by show (3 : Int) ≤ 3; decide, by show (0 : Int) ≤ 0; decide, ht0, by show (0 : Int) ≤ 0; decide, by show (0 : Int) ≤ 7; decide, hs, by show (0 : Nat) ≤ _; omega⟩
  have h2 : FitR (waitRc s t) := ⟨by show (0 : Int) < _; decide, ht⟩
  have hlen : (encR (waitRc s t)).length = 26 + s.size := by
    unfold encR
    rw [recB_length, contR_length]
    show 6 + (20 + (s.size + 0)) = _
    omega
  obtain ⟨P, D', hP, hnw, hw, hl, hx⟩ := h.base.write hc hn h1 h2 (by omega) hz2
  have hnote : waitNote g s t = (⟨D', g.n, pauseI g.x s t nowh⟩, P, 0) := note_ok (g := ⟨g.D, g.n, pauseI g.x s t nowh⟩) h1 hP hw
  obtain ⟨q, hq⟩ : ∃ q, newsI g.x s t = q := ⟨_, rfl⟩
  have hwl := wait_yes h1 hq hnote
  have ap : applyI g.x (waitRc s t) P = pauseI g.x s t P := by
    unfold applyI
    rw [if_neg (by show ¬ (3 : Int) = 1; decide), if_neg (by show ¬ (3 : Int) = 2; decide), if_pos (by show (3 : Int) = 3; rfl)]
    rfl
  rw [ap] at hx
  have hlg : (logS D'.S).length ≤ c + 1 := by
    rw [hl, List.length_append]
    have := h.lgc
    simp only [List.length_cons, List.length_nil]
    omega
  have hsz : ∀ r ∈ logS D'.S, (encR r).length ≤ Z := fun r hr => by
    rw [hl] at hr
    rcases List.mem_append.1 hr with hr | hr
    · exact h.szl r hr
    · rw [List.mem_singleton] at hr; rw [hr, hlen]; exact hz
  have hcnt := h.cnt
  cases q with
  | false =>
    rw [if_neg (by rintro ⟨e, _⟩; cases e)] at hwl
    have e1 : pauseI g.x s t nowh = g.x := by unfold pauseI; rw [hq, if_neg (by decide)]
    have e2 : pauseI g.x s t P = g.x := by unfold pauseI; rw [hq, if_neg (by decide)]
    rw [e1] at hwl
    refine ⟨_, hwl, ⟨hx _ ?_, by show g.x.puts.length + g.x.waits.length ≤ _; omega, hlg, hsz, h.szw⟩, hl, rfl⟩
    rw [e2]
    exact ⟨fun _ => rfl, fun _ => rfl, rfl⟩
  | true =>
    rw [if_pos ⟨rfl, hnw⟩] at hwl
    have e1 : pauseI g.x s t nowh = { g.x with waits := pA g.x.waits s ⟨t, nowh⟩ } := by unfold pauseI; rw [hq, if_pos rfl]
    have e2 : pauseI g.x s t P = { g.x with waits := pA g.x.waits s ⟨t, P⟩ } := by unfold pauseI; rw [hq, if_pos rfl]
    rw [e1] at hwl
    refine ⟨_, hwl, ⟨hx _ ?_, ?_, hlg, hsz, ?_⟩, hl, rfl⟩
    · rw [e2]
      refine ⟨fun _ => rfl, fun h' => ?_, rfl⟩
      show ((gA (pA (pA g.x.waits s ⟨t, nowh⟩) s ⟨t, P⟩) h').getD wt0).till = ((gA (pA g.x.waits s ⟨t, P⟩) h').getD wt0).till
      rw [gA_put, gA_put, gA_put]
      split
      · rfl
      · rfl
    · show g.x.puts.length + (pA (pA g.x.waits s ⟨t, nowh⟩) s ⟨t, P⟩).length ≤ _
      have e3 : (gA (pA g.x.waits s ⟨t, nowh⟩) s).isSome = true := by rw [gA_put, if_pos rfl]; rfl
      rw [len_pA, if_pos e3, len_pA]
      split <;> omega
    · intro h' hh
      have hh : h' ∈ (pA (pA g.x.waits s ⟨t, nowh⟩) s ⟨t, P⟩).map Prod.fst := hh
      rcases (pA_keys _ _ _ _).1 hh with e | hh
      · rw [e]; exact hz
      · rcases (pA_keys _ _ _ _).1 hh with e | hh
        · rw [e]; exact hz
        · exact h.szw h' hh
theorem crash_un {D : Ds} (hu : D.un = []) (k : Int) : crashD D k = ⟨D.S, [], D.most, 0, 0⟩ := by
  unfold crashD
  rw [hu]
  rfl
theorem log_sub {F F' : Sgs} (hb : ∀ p ∈ F, Byts p.2) (h : ∀ p ∈ F', ∃ q ∈ F, ∃ m, p.2 = q.2.take m) : ∀ r ∈ logS F', r ∈ logS F := fun r hr => by
  unfold logS at hr ⊢
  obtain ⟨p, hp, hrp⟩ := List.mem_flatMap.1 hr
  obtain ⟨q, hq, m, hm⟩ := h p hp
  rw [hm] at hrp
  obtain ⟨t, ht⟩ := scan_take (hb q hq) m
  refine List.mem_flatMap.2 ⟨q, hq, ?_⟩
  rw [ht]
  exact List.mem_append.2 (Or.inl hrp)
theorem gD_left {A F : Sgs} (h : SS (A ++ F)) {s : Int} (hs : s ∈ A.map Prod.fst) : gD (A ++ F) s = gD A s := by
  obtain ⟨p, hp, rfl⟩ := List.mem_map.1 hs
  rw [gD_self h (List.mem_append.2 (Or.inl hp)), gD_self (List.pairwise_append.1 h).1 hp]
theorem gD_off {S : Sgs} {s : Int} (hs : s ∉ S.map Prod.fst) : gD S s = [] := by
  unfold gD
  cases hg : gS S s with
  | none => rfl
  | some b => exact absurd (gS_keys.2 (by rw [hg]; rfl)) hs
/-- A place that holds a record lies in a segment. -/
theorem AtP.key {S : Sgs} {p : Pl} {r : Rc} (h : AtP S p r) : p.seg ∈ S.map Prod.fst := by
  obtain ⟨u, v, h1, _⟩ := h
  refine Classical.byContradiction fun hn => ?_
  rw [gD_off hn] at h1
  have h2 := congrArg List.length h1
  rw [List.length_append, List.length_append] at h2
  have := encR_ge r
  simp only [List.length_nil] at h2
  omega
theorem same_at {g : Lg} (h : Reads g) {D : Ds} (hp : ∀ i p, gA g.x.puts i = some p → ∀ r, AtP g.D.S p r → AtP D.S p r) : Same g ⟨D, g.n, g.x⟩ := by
  refine ⟨fun i => ?_, fun _ => rfl, fun _ => rfl, rfl⟩
  show (if (gA g.x.puts i).isSome = true then rdL D.S (atI g.x i) else none) = (if (gA g.x.puts i).isSome = true then rdL g.D.S (atI g.x i) else none)
  cases hg : gA g.x.puts i with
  | none => rfl
  | some p =>
    obtain ⟨r, h1, _⟩ := h i p hg
    have e : atI g.x i = p := by unfold atI; rw [hg]; rfl
    rw [e, h1.rd, (hp i p hg r h1).rd]
theorem pend_ext {g g' : Lg} (hs : Same g g') (h1 : (g.x.puts.map Prod.fst).Nodup) (h2 : (g'.x.puts.map Prod.fst).Nodup) : pendL g' = pendL g := by
  have hk : srtI (g'.x.puts.map Prod.fst) = srtI (g.x.puts.map Prod.fst) := by
    have hp : (g'.x.puts.map Prod.fst).Perm (g.x.puts.map Prod.fst) := (List.perm_ext_iff_of_nodup h2 h1).2 fun a => by rw [gA_keys, gA_keys, hs.some_]
    unfold srtI
    refine List.Perm.eq_of_pairwise (le := fun x y => decide (x ≤ y) = true) (fun a b _ _ h3 h4 => ?_) (List.pairwise_mergeSort (fun a b c h3 h4 => ?_) (fun a b => ?_) _) (List.pairwise_mergeSort (fun a b c h3 h4 => ?_) (fun a b => ?_) _) ((List.mergeSort_perm _ _).trans (hp.trans (List.mergeSort_perm _ _).symm))
    · have := of_decide_eq_true h3
      have := of_decide_eq_true h4
      omega
    · have := of_decide_eq_true h3
      have := of_decide_eq_true h4
      exact decide_eq_true (by omega)
    · by_cases h : a ≤ b
      · simp [h]
      · have : b ≤ a := by omega
        simp [this]
    · have := of_decide_eq_true h3
      have := of_decide_eq_true h4
      exact decide_eq_true (by omega)
    · by_cases h : a ≤ b
      · simp [h]
      · have : b ≤ a := by omega
        simp [this]
  unfold pendL
  rw [hk]
  have e : loadL g' = loadL g := by funext i; exact hs.load i
  rw [e]
theorem CLx.compact_fail {Z c : Nat} {g : Lg} (h : CLx Z c g) (ho : IxOk g.x) (hc : c ≤ 1000000) (hz : 26 ≤ Z) (hz2 : Z ≤ 1000) (hn : (g.D.S.length : Int) ≤ g.n) (hn2 : ∀ k : Nat, (k - 1) * (2048 - Z) ≤ (c + 1) * Z → (k : Int) ≤ g.n ∧ k ≤ 10) (hm : g.n + g.n ≤ g.D.most) (x y : Int) {X : Lg × Int} (hX : compactL ⟨faultD g.D x y, g.n, g.x⟩ = X) :
    (X.2 = 0 ∨ X.2 = 7) ∧ (y = 0 → X.2 = 0) ∧ Same g X.1 ∧ ∀ k n, Same g (openL (crashD X.1.D k) n) := by
  have hR := h.base.agr.reads
  have hst := h.st hz
  have hgood := st_good hR ho
  obtain ⟨css, hp, hperm, hok⟩ := pack_css hR ho
  have hpk := hok Z hst.1 (by omega)
  have hsum : (css.map fun c => (flatR c).length).sum ≤ (c + 1) * Z := by
    rw [sum_flat]
    refine Nat.le_trans (flat_len_le (Z := Z) fun r hr => hst.1 r (hperm.mem_iff.1 hr)) ?_
    rw [hperm.length_eq]
    exact Nat.mul_le_mul_right Z hst.2
  have hlen : (css.length : Int) ≤ g.n ∧ css.length ≤ 10 := hn2 css.length (full_few hpk.2 hsum)
  have hpl : (packL g).length = css.length := by rw [hp, List.length_map]
  have hc2 : ∀ x ∈ packL g, x.length ≤ 2048 := fun x hx => by
    rw [hp] at hx
    obtain ⟨y, hy, rfl⟩ := List.mem_map.1 hx
    exact hpk.1 y hy
  have hle : ∀ i, (gA g.x.puts i).isSome = true → i ≤ g.x.top := fun i hi => by
    rw [agr_of h.base.agr] at hi
    obtain ⟨r, hr⟩ := Option.isSome_iff_exists.1 hi
    obtain ⟨m1, m2, m3⟩ := lstP_mem hr
    rw [h.base.agr.top, ← m3]
    exact mxT_ge m1 (Or.inl m2)
  have htell : Tells (logS g.D.S) g := ⟨fun i => (h.base.agr.load i).symm, fun s => (h.base.agr.waits s).symm, h.base.agr.top.symm⟩
  obtain ⟨D0, hD0⟩ : ∃ D0, faultD g.D x y = D0 := ⟨_, rfl⟩
  have dS0 : D0.S = g.D.S := by rw [← hD0]; rfl
  have dU : D0.un = [] := by rw [← hD0]; exact h.base.disk.un
  have dM : D0.most = g.D.most := by rw [← hD0]; rfl
  have dF : D0.fal = y := by rw [← hD0]; rfl
  rw [hD0] at hX
  have hs0 : SS D0.S := by rw [dS0]; exact h.base.disk.ss
  have hpk0 : packL ⟨D0, g.n, g.x⟩ = packL g := by rw [← hD0]; rfl
  have he := rewL_err (packL g) D0 (segsL D0) (20 * (c : Int)) hs0 rfl hc2 (by rw [hpl, dS0, dM]; omega) (fun p hp => h.base.disk.num p (by rw [← dS0]; exact hp)) (by omega) (by rw [hpl]; omega)
  obtain ⟨F, f1, f2, f3, f4, f5, f6, f7⟩ := rewL_gen (packL g) D0 (segsL D0) hs0 rfl
  obtain ⟨⟨D2, all, e2⟩, hrw⟩ : ∃ Y, rewL D0 (segsL D0) (packL g) = Y := ⟨_, rfl⟩
  rw [hrw] at he f2 f4 f5 f6 f7
  dsimp only at he f2 f4 f5 f6 f7
  have hrwL : rewriteL ⟨D0, g.n, g.x⟩ = (D2, F.map Prod.fst, e2) := by
    unfold rewriteL
    rw [hpk0]
    dsimp only
    rw [if_neg (by rw [hpl]; omega), hrw]
    dsimp only
    rw [f4, List.drop_left' rfl]
  rw [dS0] at f2 f3
  have hs2 : SS D2.S := by rw [f2]; exact f3
  have hbytF : ∀ p ∈ F, Byts p.2 := fun p hp2 => (packL_ok h.base.disk.byt ho _ (f1.subset (List.mem_map_of_mem hp2))).1
  have hbytS : ∀ p ∈ g.D.S, Byts p.2 := fun p hp2 => by
    have := h.base.disk.byt p.1
    rw [gD_self h.base.disk.ss hp2] at this
    exact this
  have hsubF : ∀ r ∈ logS F, r ∈ stR g := fun r hr => by
    unfold logS at hr
    obtain ⟨p, hp2, hrp⟩ := List.mem_flatMap.1 hr
    have h1 : p.2 ∈ packL g := f1.subset (List.mem_map_of_mem hp2)
    rw [hp] at h1
    obtain ⟨y, hy, hye⟩ := List.mem_map.1 h1
    rw [← hye, (scan_flat fun r hr => hgood r (hperm.mem_iff.1 (List.mem_flatten.2 ⟨y, hy, hr⟩))).1] at hrp
    exact hperm.mem_iff.1 (List.mem_flatten.2 ⟨y, hy, hrp⟩)
  have hcomp : X = if e2 = 0 then (⟨(dropsD D2 (segsL D0)).1, g.n, replL D2.S (F.map Prod.fst)⟩, (dropsD D2 (segsL D0)).2) else (⟨(dropsD D2 (F.map Prod.fst)).1, g.n, g.x⟩, e2) := by
    rw [← hX, compact_eq, if_neg (by dsimp only; rw [dS0]; omega), cgo_eq, hrwL]
  by_cases hz0 : e2 = 0
  · rw [if_pos hz0] at hcomp
    obtain ⟨f8, f9⟩ := f6 hz0
    have hF := log_flat (F := F) (css := css) (by rw [f8, hp]) (fun r hr => hgood r (hperm.mem_iff.1 hr))
    have hmem : ∀ q, q ∈ logS F ↔ q ∈ stR g := fun q => by rw [hF]; exact hperm.mem_iff
    obtain ⟨A1, A2, d1, d2, d3, d4, d5, d6⟩ := drops_gen g.D.S [] F D2 (by rw [f2]; rfl) hs2
    have hsg : segsL D0 = g.D.S.map Prod.fst := by rw [segs_eq, dS0]
    rw [hsg] at hcomp
    have d2 : (dropsD D2 (g.D.S.map Prod.fst)).1.S = A2 ++ F := d2
    rw [f9] at d4
    have d4 : (dropsD D2 (g.D.S.map Prod.fst)).1.un = [] := d4
    have hs3 : SS (A2 ++ F) := by
      rw [d1, List.append_assoc] at f3
      exact (List.pairwise_append.1 f3).2.1
    have hb3 : BytS (A2 ++ F) := byt_of fun p hp2 => by
      rcases List.mem_append.1 hp2 with hp2 | hp2
      · exact hbytS p (by rw [d1]; exact List.mem_append.2 (Or.inr hp2))
      · exact hbytF p hp2
    have hrepl : replL D2.S (F.map Prod.fst) = replL F (F.map Prod.fst) := replL_congr fun s hs => by rw [f2]; exact gD_right f3 hs
    have hag := open_agr (ss_right f3) (byt_of hbytF)
    have hl0 : logS g.D.S = logS A1 ++ logS A2 := by rw [d1, log_app]
    have ht2 : Tells (logS A2 ++ logS F) g := by
      refine st_full hR ho hle (fun i hi => ?_) (fun s => ?_) ?_ hmem
      · have h1 := htell.1 i
        rw [hl0, lstP_app, hi] at h1
        rcases lst_part i (logS A2) (lstP i (logS A1)) with e | e
        · exact e.trans h1
        · exact e
      · rw [← htell.2.1 s, hl0, mxW_app]
        exact max_mono s (logS A2) (max_nn s (logS A1) 0)
      · rw [← htell.2.2, hl0, mxT_app]
        exact top_mono2 (logS A2) (mxT_nn (logS A1))
    have ht3 := st_tells hR ho hle hmem
    rw [hcomp]
    dsimp only
    refine ⟨d6, fun hy => drops_fal g.D.S [] F D2 (by rw [f2]; rfl) hs2 (he.2 (by rw [dF]; exact hy)).2, ?_, fun k n => ?_⟩
    · refine ⟨fun i => ?_, fun i => ?_, fun s => ?_, ?_⟩
      · rw [hrepl]
        show (if (gA (replL F (F.map Prod.fst)).puts i).isSome = true then rdL (dropsD D2 (g.D.S.map Prod.fst)).1.S (atI (replL F (F.map Prod.fst)) i) else none) = loadL g i
        rw [d2, ← ht3.1 i]
        cases hg : gA (replL F (F.map Prod.fst)).puts i with
        | none => rw [hag.none i hg]; rfl
        | some p =>
          obtain ⟨r, h1, h2⟩ := hag.puts i p hg
          have e : atI (replL F (F.map Prod.fst)) i = p := by unfold atI; rw [hg]; rfl
          rw [e, h1]
          exact (h2.to (gD_right hs3 h2.key)).rd
      · rw [hrepl]
        show (gA (replL F (F.map Prod.fst)).puts i).isSome = _
        rw [agr_of hag, ht3.1 i]
        cases hl : loadL g i with
        | none =>
          cases hg : (gA g.x.puts i).isSome with
          | false => rfl
          | true =>
            obtain ⟨r, hr⟩ := hR.some hg
            rw [hl] at hr
            cases hr
        | some r => exact (hR.load hl).2.2.2.2.symm
      · rw [hrepl]
        show tillI (replL F (F.map Prod.fst)) s = _
        rw [hag.waits, ht3.2.1]
      · rw [hrepl]
        show (replL F (F.map Prod.fst)).top = _
        rw [hag.top, ht3.2.2]
    · rw [crash_un d4]
      refine same_open hR (D := ⟨_, _, _, _, _⟩) ?_ ?_ ?_ n
      · dsimp only; rw [d2]; exact hs3
      · dsimp only; rw [d2]; exact hb3
      · dsimp only; rw [d2, log_app]; exact ht2
  · rw [if_neg hz0] at hcomp
    have f7 := f7 hz0
    rw [dU, List.nil_append] at f7
    obtain ⟨F1, F2, d1, d2, d3, d4, d5, d6⟩ := drops_gen F g.D.S [] D2 (by rw [f2, List.append_nil]) hs2
    rw [List.append_nil] at d2
    have hsF : SS (F1 ++ F2) := by rw [← d1]; exact ss_right f3
    rw [f7] at d4
    have d4 : (dropsD D2 (F.map Prod.fst)).1.un = F2.map fun p => (p.1, p.2.length) := by
      rw [d4, d1]
      exact left_pieces hsF
    have hs3 : SS (g.D.S ++ F2) := by
      rw [d1, ← List.append_assoc] at f3
      unfold SS at f3 ⊢
      rw [List.append_assoc] at f3
      obtain ⟨g1, g2, g3⟩ := List.pairwise_append.1 f3
      exact List.pairwise_append.2 ⟨g1, (List.pairwise_append.1 g2).2.1, fun a ha b hb => g3 a ha b (List.mem_append.2 (Or.inr hb))⟩
    have hb3 : BytS (g.D.S ++ F2) := byt_of fun p hp2 => by
      rcases List.mem_append.1 hp2 with hp2 | hp2
      · exact hbytS p hp2
      · exact hbytF p (by rw [d1]; exact List.mem_append.2 (Or.inr hp2))
    rw [hcomp]
    dsimp only
    refine ⟨he.1, fun hy => (he.2 (by rw [dF]; exact hy)).1, ?_, fun k n => ?_⟩
    · refine same_at hR fun i p hg r hr => ?_
      rw [d2]
      exact hr.to (gD_left hs3 hr.key)
    · obtain ⟨F', c1, c2, c3⟩ := crash_tail F2 g.D.S k hs3
      have hcr : (crashD (dropsD D2 (F.map Prod.fst)).1 k).S = g.D.S ++ F' := by
        unfold crashD
        rw [d2, d4]
        exact c1
      have hsub : ∀ r ∈ logS F', r ∈ stR g := fun r hr => hsubF r (by
        rw [d1, log_app]
        exact List.mem_append.2 (Or.inr (log_sub (fun p hp2 => hbytF p (by rw [d1]; exact List.mem_append.2 (Or.inr hp2))) c3 r hr)))
      refine same_open hR ?_ ?_ ?_ n
      · rw [hcr]
        exact ss_keys hs3 (by rw [List.map_append, List.map_append, c2])
      · rw [hcr, ← c1]
        exact byt_crash k hb3
      · rw [hcr, log_app]
        exact st_more hR hle htell hsub
end Go.Proofs.YteinblpkcpjpnaaGreatDoor
