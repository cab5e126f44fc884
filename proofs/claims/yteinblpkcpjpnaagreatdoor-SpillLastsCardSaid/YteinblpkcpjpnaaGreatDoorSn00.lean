/- Part of a chain: SpCpt, SpCpc, SpCpd, SpMst. -/
import Derived.Test.YteinblpkcpjpnaaGreatDoorSc36
/- Package spill, told by lists: what Compact writes: the records that tell the state, in any order, in new segments. No program here. -/
namespace Go.Proofs.YteinblpkcpjpnaaGreatDoor
open Go Go.RowKit
set_option linter.unusedVariables false
set_option linter.unusedSimpArgs false
set_option maxRecDepth 10000

def topR (x : Ix) : List Rc := if (!(gA x.puts x.top).isSome && decide (0 < x.top)) = true then [⟨2, x.top, ⟨#[]⟩, ⟨#[]⟩, 0, 0⟩] else []
/-- The records that tell the state. -/
def stR (g : Lg) : List Rc := (srtI (g.x.puts.map Prod.fst)).filterMap (loadL g) ++ (srtS (g.x.waits.map Prod.fst)).map (fun h => waitRc h (waitI g.x h).till) ++ topR g.x
theorem wait_sound {x : Ix} (ho : IxOk x) {s : ByteArray} (hs : s ∈ srtS (x.waits.map Prod.fst)) : soundR (waitRc s (waitI x s).till) ∧ FitR (waitRc s (waitI x s).till) := by
  rw [srtS_mem] at hs
  obtain ⟨v, hv⟩ := Option.isSome_iff_exists.1 (gA_keys.1 hs)
  obtain ⟨_, h0, h1, h2⟩ := ho.waits s v hv
  have hw : waitI x s = v := by unfold waitI; rw [hv]; rfl
  rw [hw]
  exact ⟨⟨by show (1 : Int) ≤ 3; decide, by show (3 : Int) ≤ 3; decide, by show (0 : Int) ≤ 0; decide, h0, by show (0 : Int) ≤ 0; decide, by show (0 : Int) ≤ 7; decide, h2, by show (0 : Nat) ≤ 768; decide⟩, by show (0 : Int) < _; decide, by show v.till < _; omega⟩
theorem top_sound {x : Ix} (ho : IxOk x) : soundR ⟨2, x.top, ⟨#[]⟩, ⟨#[]⟩, 0, 0⟩ ∧ FitR ⟨2, x.top, ⟨#[]⟩, ⟨#[]⟩, 0, 0⟩ :=
  ⟨⟨by show (1 : Int) ≤ 2; decide, by show (2 : Int) ≤ 3; decide, ho.top0, by show (0 : Int) ≤ 0; decide, by show (0 : Int) ≤ 0; decide, by show (0 : Int) ≤ 7; decide, by show (0 : Nat) ≤ 256; decide, by show (0 : Nat) ≤ 768; decide⟩, by show x.top < _; have := ho.top1; omega, by show (0 : Int) < _; decide⟩
/-- Each place of the state holds a Put of its number. -/
def Reads (g : Lg) : Prop := ∀ i p, gA g.x.puts i = some p → ∃ r, AtP g.D.S p r ∧ r.kind = 1 ∧ r.id = i
theorem Agr.reads {g : Lg} (h : Agr g.D.S g.x) : Reads g := fun i p hp => by
  obtain ⟨r, h1, h2⟩ := h.puts i p hp
  exact ⟨r, h2, (lstP_mem h1).2⟩
theorem Reads.load {g : Lg} (h : Reads g) {i : Int} {r : Rc} (hr : loadL g i = some r) : r.kind = 1 ∧ r.id = i ∧ soundR r ∧ FitR r ∧ (gA g.x.puts i).isSome = true := by
  unfold loadL atI at hr
  cases hg : gA g.x.puts i with
  | none => rw [hg] at hr; cases hr
  | some p =>
    obtain ⟨q, h1, h2, h3⟩ := h i p hg
    rw [hg] at hr
    have h4 : rdL g.D.S p = some r := hr
    rw [h1.rd] at h4
    injection h4 with h4
    subst h4
    obtain ⟨u, v, _, _, _, s1, s2⟩ := h1
    exact ⟨h2, h3, s1, s2, rfl⟩
theorem Reads.some {g : Lg} (h : Reads g) {i : Int} (hg : (gA g.x.puts i).isSome = true) : ∃ r, loadL g i = some r := by
  obtain ⟨p, hp⟩ := Option.isSome_iff_exists.1 hg
  obtain ⟨q, h1, h2, h3⟩ := h i p hp
  refine ⟨q, ?_⟩
  unfold loadL atI
  rw [hp]
  exact h1.rd
theorem recs_st {g : Lg} (h : Reads g) (ho : IxOk g.x) : (recsL g).map Prod.snd = (stR g).map encR := by
  unfold recsL stR recT topR
  rw [List.map_append, List.map_append, List.map_append, List.map_append]
  congr 1
  · congr 1
    · rw [List.map_filterMap, List.map_filterMap]
      congr 1
      funext id
      unfold recP
      cases hl : loadL g id with
      | none => rfl
      | some r =>
        obtain ⟨h1, _, h3, _⟩ := h.load hl
        have e : (⟨1, r.id, r.host, r.path, r.prio, r.till⟩ : Rc) = r := by
          cases r
          dsimp only at h1
          subst h1
          rfl
        show some (encO ⟨1, r.id, r.host, r.path, r.prio, r.till⟩) = some (encR r)
        rw [e, encO_sound h3]
    · rw [List.map_map, List.map_map]
      refine List.map_congr_left fun s hs => ?_
      show encO ⟨3, 0, s, ⟨#[]⟩, 0, (waitI g.x s).till⟩ = encR (waitRc s (waitI g.x s).till)
      exact encO_sound (wait_sound ho hs).1
  · split
    · rw [List.map_singleton, List.map_singleton]
      show [encO _] = _
      rw [encO_sound (top_sound ho).1]
    · rfl
theorem st_good {g : Lg} (h : Reads g) (ho : IxOk g.x) : GoodL (stR g) := fun r hr => by
  unfold stR at hr
  rcases List.mem_append.1 hr with hr | hr
  · rcases List.mem_append.1 hr with hr | hr
    · obtain ⟨id, _, hl⟩ := List.mem_filterMap.1 hr
      obtain ⟨_, _, h3, h4, _⟩ := h.load hl
      exact ⟨h3, h4⟩
    · obtain ⟨s, hs, rfl⟩ := List.mem_map.1 hr
      exact wait_sound ho hs
  · unfold topR at hr
    split at hr
    · rw [List.mem_singleton] at hr
      rw [hr]
      exact top_sound ho
    · cases hr
/-! Packing. -/
def packS (css : List (List Rc)) (r : Rc) : List (List Rc) := match css.findIdx? (fun c => decide ((flatR c).length + (encR r).length ≤ 2048)) with
  | none => css ++ [[r]]
  | some i => css.set i (css.getD i [] ++ [r])
theorem pack_map (css : List (List Rc)) (r : Rc) : packStep (css.map flatR) (encR r) = (packS css r).map flatR := by
  unfold packStep packS
  rw [List.findIdx?_map]
  show (match css.findIdx? (fun c => decide ((flatR c).length + (encR r).length ≤ 2048)) with
    | none => _
    | some i => _) = _
  cases hi : css.findIdx? (fun c => decide ((flatR c).length + (encR r).length ≤ 2048)) with
  | none =>
    dsimp only
    rw [List.map_append, List.map_singleton, flatR_one]
  | some i =>
    dsimp only
    rw [List.map_set, flatR_app, flatR_one]
    congr 1
    rw [List.getD_eq_getElem?_getD, List.getD_eq_getElem?_getD, List.getElem?_map]
    congr 1
    cases css[i]? <;> rfl
theorem perm_set : ∀ {css : List (List Rc)} {i : Nat} (r : Rc), i < css.length → (css.set i (css.getD i [] ++ [r])).flatten.Perm (css.flatten ++ [r])
  | [], i, r, h => absurd h (Nat.not_lt_zero i)
  | c :: t, 0, r, _ => by
    show ((c ++ [r]) ++ t.flatten).Perm ((c ++ t.flatten) ++ [r])
    rw [List.append_assoc, List.append_assoc]
    exact (List.perm_append_comm (l₁ := [r]) (l₂ := t.flatten)).append_left c
  | c :: t, i + 1, r, h => by
    show (c ++ (t.set i (t.getD i [] ++ [r])).flatten).Perm ((c ++ t.flatten) ++ [r])
    rw [List.append_assoc]
    exact (perm_set (css := t) r (by simpa using h)).append_left c
theorem pack_perm (css : List (List Rc)) (r : Rc) : (packS css r).flatten.Perm (css.flatten ++ [r]) := by
  unfold packS
  cases hi : css.findIdx? (fun c => decide ((flatR c).length + (encR r).length ≤ 2048)) with
  | none =>
    dsimp only
    rw [List.flatten_append]
    simp
  | some i =>
    obtain ⟨hlt, _⟩ := List.findIdx?_eq_some_iff_getElem.1 hi
    exact perm_set r hlt
theorem fold_pack : ∀ (rs : List Rc) (css : List (List Rc)), (rs.map encR).foldl packStep (css.map flatR) = (rs.foldl packS css).map flatR ∧ (rs.foldl packS css).flatten.Perm (css.flatten ++ rs)
  | [], css => ⟨rfl, by simp⟩
  | r :: t, css => by
    obtain ⟨h1, h2⟩ := fold_pack t (packS css r)
    refine ⟨by rw [List.map_cons, List.foldl_cons, List.foldl_cons, pack_map, h1], ?_⟩
    rw [List.foldl_cons]
    refine h2.trans ?_
    have := (pack_perm css r).append_right t
    rw [List.append_assoc] at this
    exact this
theorem perm_back {α β : Type} (f : α → β) : ∀ {l2 : List α} {l1 : List β}, l1.Perm (l2.map f) → ∃ l : List α, l.Perm l2 ∧ l1 = l.map f
  | [], l1, h => ⟨[], List.Perm.refl _, by rw [List.map_nil] at h; rw [h.eq_nil]; rfl⟩
  | a :: t, l1, h => by
    have hm : f a ∈ l1 := h.mem_iff.2 (by simp)
    obtain ⟨u, v, rfl⟩ := List.append_of_mem hm
    have h2 : (u ++ v).Perm (t.map f) := by
      have h3 : (f a :: (u ++ v)).Perm (f a :: t.map f) := (List.perm_middle.symm).trans h
      exact (List.perm_cons _).1 h3
    obtain ⟨l, hl, he⟩ := perm_back f h2
    obtain ⟨u', v', rfl, rfl, rfl⟩ := List.map_eq_append_iff.1 he.symm
    exact ⟨u' ++ a :: v', List.perm_middle.trans (hl.cons a), by rw [List.map_append, List.map_cons]⟩
/-- What is so of all chunks, the last aside, and of each. -/
def PackOk (Z : Nat) (css : List (List Rc)) : Prop := (∀ c ∈ css, (flatR c).length ≤ 2048) ∧ ∀ c ∈ css.dropLast, 2048 ≤ (flatR c).length + Z
theorem flat_len_snoc (c : List Rc) (r : Rc) : (flatR (c ++ [r])).length = (flatR c).length + (encR r).length := by rw [flatR_app, List.length_append, flatR_one]
theorem mem_set_dropLast {α : Type} : ∀ {l : List α} {i : Nat} {y x : α}, x ∈ (l.set i y).dropLast → x ∈ l.dropLast ∨ (x = y ∧ i + 1 < l.length)
  | [], _, _, _, h => by cases h
  | [a], 0, y, x, h => by cases h
  | [a], i + 1, y, x, h => by cases h
  | a :: b :: t, 0, y, x, h => by
    show x ∈ (a :: b :: t).dropLast ∨ _
    have h : x ∈ (y :: b :: t).dropLast := h
    rw [List.dropLast_cons_cons] at h ⊢
    rcases List.mem_cons.1 h with h | h
    · exact Or.inr ⟨h, by simp⟩
    · exact Or.inl (List.mem_cons_of_mem _ h)
  | a :: b :: t, i + 1, y, x, h => by
    have h : x ∈ (a :: (b :: t).set i y).dropLast := h
    have hne : (b :: t).set i y ≠ [] := by intro e; have := congrArg List.length e; rw [List.length_set] at this; simp at this
    obtain ⟨c, s, hcs⟩ := List.exists_cons_of_ne_nil hne
    rw [hcs, List.dropLast_cons_cons, ← hcs] at h
    rw [List.dropLast_cons_cons]
    rcases List.mem_cons.1 h with h | h
    · exact Or.inl (h ▸ List.mem_cons_self)
    · rcases mem_set_dropLast (l := b :: t) h with h | ⟨h1, h2⟩
      · exact Or.inl (List.mem_cons_of_mem _ h)
      · exact Or.inr ⟨h1, by simp at h2 ⊢; omega⟩
theorem dropLast_mem {α : Type} {l : List α} {i : Nat} (h : i + 1 < l.length) : l[i]'(by omega) ∈ l.dropLast := by
  rw [List.mem_iff_getElem]
  exact ⟨i, by rw [List.length_dropLast]; omega, by rw [List.getElem_dropLast]⟩
theorem packOk_step {Z : Nat} {css : List (List Rc)} {r : Rc} (h : PackOk Z css) (hr : (encR r).length ≤ Z) (hz : Z ≤ 2048) : PackOk Z (packS css r) := by
  unfold packS
  cases hi : css.findIdx? (fun c => decide ((flatR c).length + (encR r).length ≤ 2048)) with
  | none =>
    rw [List.findIdx?_eq_none_iff] at hi
    refine ⟨fun c hc => ?_, fun c hc => ?_⟩
    · rcases List.mem_append.1 hc with hc | hc
      · exact h.1 c hc
      · rw [List.mem_singleton] at hc; rw [hc, flatR_one]; omega
    · have hc : c ∈ (css ++ [[r]]).dropLast := hc
      rw [List.dropLast_concat] at hc
      have := of_decide_eq_false (hi c hc)
      omega
  | some i =>
    obtain ⟨hlt, hp, _⟩ := List.findIdx?_eq_some_iff_getElem.1 hi
    have hle := of_decide_eq_true hp
    have hg : css.getD i [] = css[i] := by rw [List.getD_eq_getElem?_getD, List.getElem?_eq_getElem hlt]; rfl
    dsimp only
    rw [hg]
    refine ⟨fun c hc => ?_, fun c hc => ?_⟩
    · rcases List.mem_or_eq_of_mem_set hc with hc | hc
      · exact h.1 c hc
      · rw [hc, flat_len_snoc]; exact hle
    · rcases mem_set_dropLast hc with hc | ⟨hc, h2⟩
      · exact h.2 c hc
      · rw [hc, flat_len_snoc]
        have := h.2 _ (dropLast_mem h2)
        omega
theorem packOk_fold {Z : Nat} (hz : Z ≤ 2048) : ∀ {rs : List Rc} {css : List (List Rc)}, PackOk Z css → (∀ r ∈ rs, (encR r).length ≤ Z) → PackOk Z (rs.foldl packS css)
  | [], css, h, _ => h
  | r :: t, css, h, hr => packOk_fold hz (rs := t) (packOk_step h (hr r List.mem_cons_self) hz) fun q hq => hr q (List.mem_cons_of_mem _ hq)
theorem enc_len {r : Rc} (h : soundR r) : (encR r).length ≤ 1050 := by have := encO_len r; rw [encO_sound h] at this; exact this
/-- What the chunks hold. -/
theorem pack_css {g : Lg} (h : Reads g) (ho : IxOk g.x) : ∃ css : List (List Rc), packL g = css.map flatR ∧ css.flatten.Perm (stR g) ∧ ∀ Z, (∀ r ∈ stR g, (encR r).length ≤ Z) → Z ≤ 2048 → PackOk Z css := by
  have h1 : ((sortedL g).map Prod.snd).Perm ((stR g).map encR) := by
    rw [← recs_st h ho]
    exact (sortedL_perm g).map _
  obtain ⟨rs, hp, he⟩ := perm_back encR h1
  obtain ⟨h2, h3⟩ := fold_pack rs []
  refine ⟨rs.foldl packS [], ?_, ?_, fun Z hZ hz => packOk_fold hz ⟨fun c hc => (by cases hc), fun c hc => (by cases hc)⟩ fun r hr => hZ r (hp.mem_iff.1 hr)⟩
  · unfold packL
    rw [he]
    exact h2
  · rw [List.flatten_nil, List.nil_append] at h3
    exact h3.trans hp
/-! What a list of records says, from its members alone. -/
theorem lst_none {i : Int} {L : List Rc} (h : ∀ q ∈ L, ¬ (q.kind = 1 ∧ q.id = i)) : lstP i L = none := by
  cases hl : lstP i L with
  | none => rfl
  | some r =>
    obtain ⟨h1, h2⟩ := lstP_mem hl
    exact absurd h2 (h r h1)
theorem lst_keep {i : Int} {r : Rc} : ∀ {L : List Rc} {o : Option Rc}, (∀ q ∈ L, q.kind = 1 ∧ q.id = i → q = r) → (∀ q ∈ L, ¬ (q.kind = 2 ∧ q.id = i)) → (o = some r ∨ ∃ q ∈ L, q.kind = 1 ∧ q.id = i) → L.foldl (stP i) o = some r
  | [], o, _, _, h => by
    rcases h with h | ⟨q, hq, _⟩
    · exact h
    · cases hq
  | a :: t, o, h1, h2, h3 => by
    rw [List.foldl_cons]
    refine lst_keep (L := t) (fun q hq => h1 q (List.mem_cons_of_mem _ hq)) (fun q hq => h2 q (List.mem_cons_of_mem _ hq)) ?_
    unfold stP
    by_cases ha : a.kind = 1 ∧ a.id = i
    · rw [if_pos ha]
      exact Or.inl (by rw [h1 a List.mem_cons_self ha])
    · rw [if_neg ha, if_neg (h2 a List.mem_cons_self)]
      rcases h3 with h3 | ⟨q, hq, hk⟩
      · exact Or.inl h3
      · rcases List.mem_cons.1 hq with rfl | hq
        · exact absurd hk ha
        · exact Or.inr ⟨q, hq, hk⟩
theorem lst_only {i : Int} {r : Rc} {L : List Rc} (h1 : ∀ q ∈ L, q.kind = 1 ∧ q.id = i → q = r) (h2 : ∀ q ∈ L, ¬ (q.kind = 2 ∧ q.id = i)) (h3 : r ∈ L) (hk : r.kind = 1 ∧ r.id = i) : lstP i L = some r :=
  lst_keep h1 h2 (Or.inr ⟨r, h3, hk⟩)
theorem max_only {h : ByteArray} {t : Int} : ∀ {L : List Rc} {m : Int}, m ≤ t → (∀ q ∈ L, q.kind = 3 ∧ q.host = h → q.till ≤ t) → (m = t ∨ ∃ q ∈ L, q.kind = 3 ∧ q.host = h ∧ q.till = t) → L.foldl (stW h) m = t
  | [], m, _, _, h3 => by
    rcases h3 with h3 | ⟨q, hq, _⟩
    · exact h3
    · cases hq
  | a :: l, m, h0, h1, h3 => by
    rw [List.foldl_cons]
    have ha := h1 a List.mem_cons_self
    refine max_only (L := l) ?_ (fun q hq => h1 q (List.mem_cons_of_mem _ hq)) ?_
    · unfold stW
      split
      · rename_i e; have := ha e; omega
      · exact h0
    · unfold stW
      rcases h3 with h3 | ⟨q, hq, k1, k2, k3⟩
      · split
        · rename_i e; have := ha e; exact Or.inl (by omega)
        · exact Or.inl h3
      · rcases List.mem_cons.1 hq with rfl | hq
        · rw [if_pos ⟨k1, k2⟩]
          exact Or.inl (by omega)
        · exact Or.inr ⟨q, hq, k1, k2, k3⟩
theorem mxW_only {h : ByteArray} {t : Int} {L : List Rc} (h0 : 0 ≤ t) (h1 : ∀ q ∈ L, q.kind = 3 ∧ q.host = h → q.till ≤ t) (h3 : 0 = t ∨ ∃ q ∈ L, q.kind = 3 ∧ q.host = h ∧ q.till = t) : mxW h L = t := max_only h0 h1 h3
theorem top_only {t : Int} : ∀ {L : List Rc} {m : Int}, m ≤ t → (∀ q ∈ L, q.kind = 1 ∨ q.kind = 2 → q.id ≤ t) → (m = t ∨ ∃ q ∈ L, (q.kind = 1 ∨ q.kind = 2) ∧ q.id = t) → L.foldl stT m = t
  | [], m, _, _, h3 => by
    rcases h3 with h3 | ⟨q, hq, _⟩
    · exact h3
    · cases hq
  | a :: l, m, h0, h1, h3 => by
    rw [List.foldl_cons]
    have ha := h1 a List.mem_cons_self
    refine top_only (L := l) ?_ (fun q hq => h1 q (List.mem_cons_of_mem _ hq)) ?_
    · unfold stT
      split
      · rename_i e; have := ha e; omega
      · exact h0
    · unfold stT
      rcases h3 with h3 | ⟨q, hq, k1, k2⟩
      · split
        · rename_i e; have := ha e; exact Or.inl (by omega)
        · exact Or.inl h3
      · rcases List.mem_cons.1 hq with rfl | hq
        · rw [if_pos k1]
          exact Or.inl (by omega)
        · exact Or.inr ⟨q, hq, k1, k2⟩
theorem mxT_only {t : Int} {L : List Rc} (h0 : 0 ≤ t) (h1 : ∀ q ∈ L, q.kind = 1 ∨ q.kind = 2 → q.id ≤ t) (h3 : 0 = t ∨ ∃ q ∈ L, (q.kind = 1 ∨ q.kind = 2) ∧ q.id = t) : mxT L = t := top_only h0 h1 h3
/-! The members of what tells the state. -/
theorem st_mem {g : Lg} (h : Reads g) {q : Rc} : q ∈ stR g ↔ (q.kind = 1 ∧ loadL g q.id = some q) ∨ (∃ s ∈ g.x.waits.map Prod.fst, q = waitRc s (waitI g.x s).till) ∨ (q = ⟨2, g.x.top, ⟨#[]⟩, ⟨#[]⟩, 0, 0⟩ ∧ gA g.x.puts g.x.top = none ∧ 0 < g.x.top) := by
  unfold stR
  rw [List.mem_append, List.mem_append, or_assoc]
  refine or_congr ?_ (or_congr ?_ ?_)
  · rw [List.mem_filterMap]
    constructor
    · rintro ⟨id, hid, hl⟩
      obtain ⟨h1, h2, _⟩ := h.load hl
      exact ⟨h1, by rw [h2]; exact hl⟩
    · rintro ⟨h1, h2⟩
      refine ⟨q.id, srtI_mem.2 (gA_keys.2 (h.load h2).2.2.2.2), h2⟩
  · rw [List.mem_map]
    constructor
    · rintro ⟨s, hs, rfl⟩
      exact ⟨s, srtS_mem.1 hs, rfl⟩
    · rintro ⟨s, hs, rfl⟩
      exact ⟨s, srtS_mem.2 hs, rfl⟩
  · unfold topR
    cases hg : gA g.x.puts g.x.top with
    | none =>
      by_cases h0 : 0 < g.x.top
      · rw [decide_eq_true h0]
        simp [h0]
      · rw [decide_eq_false h0]
        simp [h0]
    | some p => simp
theorem till_eq (x : Ix) (s : ByteArray) : tillI x s = (waitI x s).till := rfl
/-- Any order of them tells the state. -/
theorem st_tells {g : Lg} (h : Reads g) (ho : IxOk g.x) (hle : ∀ i, (gA g.x.puts i).isSome = true → i ≤ g.x.top) {L : List Rc} (hL : ∀ q, q ∈ L ↔ q ∈ stR g) : (∀ i, lstP i L = loadL g i) ∧ (∀ s, mxW s L = tillI g.x s) ∧ mxT L = g.x.top := by
  refine ⟨fun i => ?_, fun s => ?_, ?_⟩
  · cases hl : loadL g i with
    | none =>
      refine lst_none fun q hq hk => ?_
      rcases (st_mem h).1 ((hL q).1 hq) with ⟨h1, h2⟩ | ⟨s, _, rfl⟩ | ⟨rfl, _⟩
      · rw [hk.2, hl] at h2; cases h2
      · exact absurd hk.1 (by show ¬ (3 : Int) = 1; decide)
      · exact absurd hk.1 (by show ¬ (2 : Int) = 1; decide)
    | some r =>
      obtain ⟨k1, k2, _, _, k5⟩ := h.load hl
      refine lst_only (fun q hq hk => ?_) (fun q hq hk => ?_) ((hL r).2 ((st_mem h).2 (Or.inl ⟨k1, by rw [k2]; exact hl⟩))) ⟨k1, k2⟩
      · rcases (st_mem h).1 ((hL q).1 hq) with ⟨h1, h2⟩ | ⟨s, _, rfl⟩ | ⟨rfl, _⟩
        · rw [hk.2, hl] at h2; exact (Option.some.inj h2).symm
        · exact absurd hk.1 (by show ¬ (3 : Int) = 1; decide)
        · exact absurd hk.1 (by show ¬ (2 : Int) = 1; decide)
      · rcases (st_mem h).1 ((hL q).1 hq) with ⟨h1, h2⟩ | ⟨s, _, rfl⟩ | ⟨rfl, h2, _⟩
        · rw [h1] at hk; exact absurd hk.1 (by decide)
        · exact absurd hk.1 (by show ¬ (3 : Int) = 2; decide)
        · have e : g.x.top = i := hk.2
          rw [e] at h2
          rw [h2] at k5
          cases k5
  · refine mxW_only (ho.till0 s) (fun q hq hk => ?_) ?_
    · rcases (st_mem h).1 ((hL q).1 hq) with ⟨h1, h2⟩ | ⟨s', _, rfl⟩ | ⟨rfl, _⟩
      · rw [h1] at hk; exact absurd hk.1 (by decide)
      · have e : s' = s := hk.2
        subst e
        exact Int.le_refl _
      · exact absurd hk.1 (by show ¬ (2 : Int) = 3; decide)
    · by_cases hs : s ∈ g.x.waits.map Prod.fst
      · exact Or.inr ⟨waitRc s (waitI g.x s).till, (hL _).2 ((st_mem h).2 (Or.inr (Or.inl ⟨s, hs, rfl⟩))), rfl, rfl, rfl⟩
      · refine Or.inl ?_
        rw [gA_keys] at hs
        unfold tillI
        cases hg : gA g.x.waits s with
        | none => rfl
        | some v => rw [hg] at hs; exact absurd rfl hs
  · refine mxT_only ho.top0 (fun q hq hk => ?_) ?_
    · rcases (st_mem h).1 ((hL q).1 hq) with ⟨h1, h2⟩ | ⟨s', _, rfl⟩ | ⟨rfl, _⟩
      · exact hle _ (h.load h2).2.2.2.2
      · exact absurd hk (by show ¬ ((3 : Int) = 1 ∨ (3 : Int) = 2); decide)
      · exact Int.le_refl _
    · cases hg : gA g.x.puts g.x.top with
      | none =>
        by_cases h0 : 0 < g.x.top
        · exact Or.inr ⟨_, (hL _).2 ((st_mem h).2 (Or.inr (Or.inr ⟨rfl, hg, h0⟩))), Or.inr rfl, rfl⟩
        · have := ho.top0
          exact Or.inl (by omega)
      | some p =>
        obtain ⟨r, hr⟩ := h.some (i := g.x.top) (by rw [hg]; rfl)
        obtain ⟨k1, k2, _⟩ := h.load hr
        exact Or.inr ⟨r, (hL _).2 ((st_mem h).2 (Or.inl ⟨k1, by rw [k2]; exact hr⟩)), Or.inl k1, k2⟩
end Go.Proofs.YteinblpkcpjpnaaGreatDoor
/- Package spill, told by lists: new segments are written, old ones dropped; Compact on a disk that does not fail. No program here. -/
namespace Go.Proofs.YteinblpkcpjpnaaGreatDoor
open Go Go.RowKit
set_option linter.unusedVariables false
set_option linter.unusedSimpArgs false
set_option maxRecDepth 10000

theorem segs_eq (D : Ds) : segsL D = D.S.map Prod.fst := rfl
theorem app_un (D : Ds) (n : Int) (b : List Int) : ((appD D n b).2 = 0 → (appD D n b).1.un = D.un ++ [(n, b.length)]) ∧ ((appD D n b).2 ≠ 0 → (appD D n b).1.un = D.un) ∧ (appD D n b).1.most = D.most := by
  unfold appD
  split
  · exact ⟨fun e => (by cases e), fun _ => rfl, rfl⟩
  · split
    · exact ⟨fun e => (by cases e), fun _ => rfl, rfl⟩
    · exact ⟨fun _ => rfl, fun e => absurd rfl e, rfl⟩
theorem sync_un (D : Ds) : ((syncD D).2 = 0 → (syncD D).1.un = []) ∧ ((syncD D).2 ≠ 0 → (syncD D).1.un = D.un) ∧ (syncD D).1.most = D.most := by
  unfold syncD
  split
  · exact ⟨fun e => (by cases e), fun _ => rfl, rfl⟩
  · exact ⟨fun _ => rfl, fun e => absurd rfl e, rfl⟩
/-- The new segments: how far they came. -/
theorem rewL_gen : ∀ (cs : List (List Int)) (D : Ds) (l : List Int), SS D.S → segsL D = l →
    ∃ F : Sgs, F.map Prod.snd <+: cs ∧ (rewL D l cs).1.S = D.S ++ F ∧ SS (D.S ++ F) ∧ (rewL D l cs).2.1 = l ++ F.map Prod.fst ∧ (rewL D l cs).1.most = D.most ∧
      ((rewL D l cs).2.2 = 0 → F.map Prod.snd = cs ∧ (rewL D l cs).1.un = []) ∧ ((rewL D l cs).2.2 ≠ 0 → (rewL D l cs).1.un = D.un ++ F.map fun p => (p.1, p.2.length))
  | [], D, l, hs, hl => by
    refine ⟨[], List.prefix_refl _, ?_, ?_, ?_, ?_, fun e => ⟨rfl, ?_⟩, fun e => ?_⟩
    · rw [List.append_nil]; exact sync_S D
    · rw [List.append_nil]; exact hs
    · rw [List.map_nil, List.append_nil]; rfl
    · exact (sync_un D).2.2
    · exact (sync_un D).1 e
    · rw [List.map_nil, List.append_nil]; exact (sync_un D).2.1 e
  | c :: t, D, l, hs, hl => by
    unfold rewL
    by_cases h1 : (followL l).2 = true
    · rw [if_pos h1]
      have hf := follow_last hs hl h1
      have e0 : gD D.S (followL l).1 = [] := by unfold gD; rw [gS_none hf]; rfl
      by_cases h2 : (appD D (followL l).1 c).2 = 0
      · rw [if_pos h2]
        have hS : (appD D (followL l).1 c).1.S = D.S ++ [((followL l).1, c)] := by
          rw [(app_S D _ c).1 h2, e0, List.nil_append]
          exact pS_last _ hf
        have hs2 : SS (appD D (followL l).1 c).1.S := by rw [(app_S D _ c).1 h2]; exact SS_put hs _ _
        obtain ⟨F, g1, g2, g3, g4, g5, g6, g7⟩ := rewL_gen t (appD D (followL l).1 c).1 (l ++ [(followL l).1]) hs2 (by rw [segs_eq, hS, List.map_append, ← segs_eq, hl]; rfl)
        rw [hS] at g2 g3
        refine ⟨((followL l).1, c) :: F, ?_, ?_, ?_, ?_, ?_, ?_, ?_⟩
        · rw [List.map_cons]; exact (List.prefix_cons_inj c).2 g1
        · rw [g2, List.append_assoc]; rfl
        · rw [List.append_assoc] at g3; exact g3
        · rw [g4, List.append_assoc]; rfl
        · rw [g5]; exact (app_un D _ c).2.2
        · intro e
          obtain ⟨a, b⟩ := g6 e
          exact ⟨by rw [List.map_cons, a], b⟩
        · intro e
          rw [g7 e, (app_un D _ c).1 h2, List.append_assoc]
          rfl
      · rw [if_neg h2]
        refine ⟨[], List.nil_prefix, ?_, ?_, ?_, ?_, fun e => absurd e h2, fun _ => ?_⟩
        · rw [List.append_nil]; exact (app_S D _ c).2 h2
        · rw [List.append_nil]; exact hs
        · rw [List.map_nil, List.append_nil]
        · exact (app_un D _ c).2.2
        · rw [List.map_nil, List.append_nil]; exact (app_un D _ c).2.1 h2
    · rw [if_neg h1]
      refine ⟨[], List.nil_prefix, ?_, ?_, ?_, rfl, fun e => (by cases e), fun _ => ?_⟩
      · rw [List.append_nil]
      · rw [List.append_nil]; exact hs
      · rw [List.map_nil, List.append_nil]
      · rw [List.map_nil, List.append_nil]
theorem dS_head {k : Int} {c : List Int} {A F B : Sgs} (h : SS (B ++ (k, c) :: A ++ F)) : dS (B ++ (k, c) :: A ++ F) k = B ++ A ++ F := by
  unfold SS at h
  unfold dS
  rw [List.append_assoc] at h
  obtain ⟨_, h2, h3⟩ := List.pairwise_append.1 h
  obtain ⟨h4, _⟩ := List.pairwise_cons.1 h2
  have a1 : B.filter (fun p => decide (p.1 ≠ k)) = B := List.filter_eq_self.2 fun p hp => decide_eq_true (by
    have := h3 p hp (k, c) List.mem_cons_self
    show p.1 ≠ k
    dsimp only at this
    omega)
  have a2 : (A ++ F).filter (fun p => decide (p.1 ≠ k)) = A ++ F := List.filter_eq_self.2 fun p hp => decide_eq_true (by
    have := h4 p hp
    show p.1 ≠ k
    dsimp only at this
    omega)
  rw [List.append_assoc, List.filter_append, a1, List.cons_append, List.filter_cons, if_neg (by simp), a2, List.append_assoc]
theorem ss_less {B A F : Sgs} {p : Int × List Int} (h : SS (B ++ p :: A ++ F)) : SS (B ++ A ++ F) := by
  unfold SS at *
  rw [List.append_assoc] at *
  obtain ⟨h1, h2, h3⟩ := List.pairwise_append.1 h
  exact List.pairwise_append.2 ⟨h1, (List.pairwise_cons.1 h2).2, fun a ha b hb => h3 a ha b (List.mem_cons_of_mem _ hb)⟩
/-- Old segments go, up to the first that cannot. -/
theorem drops_gen : ∀ (A : Sgs) (B F : Sgs) (D : Ds), D.S = B ++ A ++ F → SS D.S → ∃ A1 A2, A = A1 ++ A2 ∧ (dropsD D (A.map Prod.fst)).1.S = B ++ A2 ++ F ∧ (dropsD D (A.map Prod.fst)).1.most = D.most ∧
    (dropsD D (A.map Prod.fst)).1.un = D.un.filter (fun q => decide (q.1 ∉ A1.map Prod.fst)) ∧ ((dropsD D (A.map Prod.fst)).2 = 0 → A2 = []) ∧ ((dropsD D (A.map Prod.fst)).2 = 0 ∨ (dropsD D (A.map Prod.fst)).2 = 7)
  | [], B, F, D, hD, hs => ⟨[], [], rfl, by show D.S = _; rw [hD], rfl, by
      rw [List.map_nil]
      show D.un = _
      rw [List.filter_eq_self.2]
      intro q _
      simp, fun _ => rfl, Or.inl rfl⟩
  | (k, c) :: A, B, F, D, hD, hs => by
    have hg : (gS D.S k).isSome = true := gS_keys.1 (by rw [hD]; simp)
    have hs0 := hs
    rw [hD] at hs
    have e1 : (k, c) :: A = [] ++ (k, c) :: A := rfl
    rw [List.map_cons]
    unfold dropsD
    by_cases hf : wfB D.beh D.fal = true
    · have e : dropD D k = (D.tick, 7) := by unfold dropD; rw [if_pos hg, if_pos hf]
      rw [e, if_neg (by show ¬ (7 : Int) = 0; decide)]
      refine ⟨[], (k, c) :: A, rfl, hD, rfl, ?_, fun e => (by cases e), Or.inr rfl⟩
      rw [List.filter_eq_self.2]
      · rfl
      · intro q _
        simp
    · have e : dropD D k = (⟨dS D.S k, keepP k D.un, D.most, wfH D.beh, wfF D.beh D.fal⟩, 0) := by unfold dropD; rw [if_pos hg, if_neg hf]
      rw [e, if_pos rfl]
      have e2 : dS D.S k = B ++ A ++ F := by rw [hD]; exact dS_head hs
      obtain ⟨A1, A2, g1, g2, g3, g4, g5, g6⟩ := drops_gen A B F ⟨dS D.S k, keepP k D.un, D.most, wfH D.beh, wfF D.beh D.fal⟩ e2 (by show SS (dS D.S k); exact SS_drop hs0 k)
      refine ⟨(k, c) :: A1, A2, by rw [g1]; rfl, g2, g3, ?_, g5, g6⟩
      rw [g4]
      show (keepP k D.un).filter _ = _
      unfold keepP
      rw [List.filter_filter]
      congr 1
      funext q
      rw [List.map_cons]
      by_cases h1 : q.1 = k
      · simp [pcB, h1]
      · simp [pcB, h1]
/-! On a disk that does not fail. -/
theorem rewL_zero : ∀ (cs : List (List Int)) (D : Ds) (l : List Int) (B : Int), D.beh = 0 → D.fal = 0 → SS D.S → segsL D = l → (∀ c ∈ cs, c.length ≤ 2048) → (D.S.length : Int) + (cs.length : Int) ≤ D.most → (∀ p ∈ D.S, 0 ≤ p.1 ∧ p.1 ≤ B) → -1 ≤ B → B + (cs.length : Int) < 9223372036854775807 →
    (rewL D l cs).2.2 = 0 ∧ (rewL D l cs).1.beh = 0 ∧ (rewL D l cs).1.fal = 0 ∧ ∀ p ∈ (rewL D l cs).1.S, 0 ≤ p.1 ∧ p.1 ≤ B + (cs.length : Int)
  | [], D, l, B, hb, hf, hs, hl, _, _, hn, _, _ => by
    have e : syncD D = (⟨D.S, [], D.most, 0, 0⟩, 0) := by
      unfold syncD
      rw [hb, hf, calm_no.1, calm_no.2.1, calm_no.2.2, if_neg (by decide)]
    unfold rewL
    rw [e]
    exact ⟨rfl, rfl, rfl, fun p hp => by have := hn p hp; rw [List.length_nil]; omega⟩
  | c :: t, D, l, B, hb, hf, hs, hl, hc, hm, hn, hB, hB2 => by
    rw [List.length_cons] at hm hB2
    have hfo := follow_ok2 (D := D) (B := B) (by omega) (fun p hp => (hn p hp).2) hB
    rw [hl] at hfo
    have hlast := follow_last hs hl hfo.1
    have hg := gS_none hlast
    have e0 : gD D.S (followL l).1 = [] := by unfold gD; rw [hg]; rfl
    have hc1 := hc c List.mem_cons_self
    have hap : apF D.S D.most (followL l).1 c.length = false := by
      unfold apF
      rw [e0, decide_eq_false (by omega), Bool.and_false, Bool.false_or]
      exact decide_eq_false (by show ¬ (2048 < ((0 : Nat) : Int) + _); omega)
    have e1 : appD D (followL l).1 c = (⟨pS D.S (followL l).1 (gD D.S (followL l).1 ++ c), D.un ++ [((followL l).1, c.length)], D.most, 0, 0⟩, 0) := by
      unfold appD
      rw [hap, hb, hf, calm_no.1, calm_no.2.1, calm_no.2.2, if_neg (by decide), if_neg (by decide)]
    have eS : pS D.S (followL l).1 (gD D.S (followL l).1 ++ c) = D.S ++ [((followL l).1, c)] := by rw [e0, List.nil_append]; exact pS_last _ hlast
    unfold rewL
    rw [if_pos hfo.1, e1, if_pos rfl]
    dsimp only
    have h0 : 0 ≤ (followL l).1 := by
      unfold followL
      cases hgl : l.getLast? with
      | none => exact Int.le_refl 0
      | some v =>
        have hv := List.mem_of_getLast? hgl
        rw [← hl] at hv
        obtain ⟨p, hp, rfl⟩ := List.mem_map.1 hv
        have := hn p hp
        dsimp only
        split
        · exact Int.le_refl 0
        · show 0 ≤ _ + (1 : Int); omega
    have ih := rewL_zero t ⟨pS D.S (followL l).1 (gD D.S (followL l).1 ++ c), D.un ++ [((followL l).1, c.length)], D.most, 0, 0⟩ (l ++ [(followL l).1]) (B + 1) rfl rfl (SS_put hs _ _) (by rw [segs_eq]; dsimp only; rw [eS, List.map_append, ← segs_eq, hl]; rfl) (fun x hx => hc x (List.mem_cons_of_mem _ hx)) (by dsimp only; rw [eS, List.length_append]; simp only [List.length_cons, List.length_nil]; omega) (fun p hp => by
      dsimp only at hp
      rw [eS] at hp
      rcases List.mem_append.1 hp with hp | hp
      · have := hn p hp; omega
      · rw [List.mem_singleton] at hp; rw [hp]; have := hfo.2; dsimp only; omega) (by omega) (by omega)
    refine ⟨ih.1, ih.2.1, ih.2.2.1, fun p hp => ?_⟩
    have := ih.2.2.2 p hp
    rw [List.length_cons]
    omega
theorem drops_zero : ∀ (A B F : Sgs) (D : Ds), D.S = B ++ A ++ F → SS D.S → D.beh = 0 → D.fal = 0 → (dropsD D (A.map Prod.fst)).2 = 0 ∧ (dropsD D (A.map Prod.fst)).1.beh = 0 ∧ (dropsD D (A.map Prod.fst)).1.fal = 0
  | [], B, F, D, _, _, hb, hf => ⟨rfl, hb, hf⟩
  | (k, c) :: A, B, F, D, hD, hs, hb, hf => by
    have hg : (gS D.S k).isSome = true := gS_keys.1 (by rw [hD]; simp)
    have hs0 := hs
    rw [hD] at hs
    rw [List.map_cons]
    unfold dropsD
    have e : dropD D k = (⟨dS D.S k, keepP k D.un, D.most, 0, 0⟩, 0) := by
      unfold dropD
      rw [if_pos hg, hb, hf, calm_no.1, calm_no.2.1, calm_no.2.2, if_neg (by decide)]
    rw [e, if_pos rfl]
    have e2 : dS D.S k = B ++ A ++ F := by rw [hD]; exact dS_head hs
    exact drops_zero A B F ⟨dS D.S k, keepP k D.un, D.most, 0, 0⟩ e2 (by show SS (dS D.S k); exact SS_drop hs0 k) rfl rfl
/-- A calm log with what is known of its size. -/
structure CLx (Z c : Nat) (g : Lg) : Prop where
  base : CLog Z c g
  cnt : g.x.puts.length + g.x.waits.length ≤ c
  lgc : (logS g.D.S).length ≤ c
  szl : ∀ r ∈ logS g.D.S, (encR r).length ≤ Z
  szw : ∀ h ∈ g.x.waits.map Prod.fst, 26 + h.size ≤ Z
theorem CLx.put {Z c : Nat} {g : Lg} (h : CLx Z c g) (hc : c ≤ 1000000) (hn : (g.D.S.length : Int) < g.n) {r : Rc} (hk : r.kind = 1) (h1 : soundR r) (h2 : FitR r) (hz : (encR r).length ≤ Z) (hz2 : Z ≤ 1100) :
    ∃ g', putL g r = (g', 0) ∧ CLx Z (c + 1) g' ∧ logS g'.D.S = logS g.D.S ++ [r] ∧ g'.n = g.n := by
  obtain ⟨P, D', hP, _, hw, hl, hx⟩ := h.base.write hc hn h1 h2 hz hz2
  refine ⟨⟨D', g.n, { (topped g r.id).x with puts := pA (topped g r.id).x.puts r.id P }⟩, ?_, ⟨hx _ ?_, ?_, ?_, ?_, h.szw⟩, hl, rfl⟩
  · rw [put_yes h1 hP]
    unfold putTail
    rw [if_pos rfl, if_pos rfl]
    unfold putAt
    have e : (topped g r.id).D = g.D := rfl
    rw [e, hw, if_pos rfl]
    rfl
  · unfold applyI
    rw [if_pos hk]
    exact ⟨fun _ => rfl, fun _ => rfl, rfl⟩
  · show (pA g.x.puts r.id P).length + g.x.waits.length ≤ _
    have := h.cnt
    rw [len_pA]
    split <;> omega
  · show (logS D'.S).length ≤ _
    rw [hl, List.length_append]
    have := h.lgc
    simp only [List.length_cons, List.length_nil]
    omega
  · intro q hq
    have hq : q ∈ logS D'.S := hq
    rw [hl] at hq
    rcases List.mem_append.1 hq with hq | hq
    · exact h.szl q hq
    · rw [List.mem_singleton] at hq; rw [hq]; exact hz
theorem CLx.done {Z c : Nat} {g : Lg} (h : CLx Z c g) (hc : c ≤ 1000000) (hn : (g.D.S.length : Int) < g.n) {id : Int} {q : Rc} (hq : lstP id (logS g.D.S) = some q) (hid : id < 9223372036854775808) (hid0 : 0 ≤ id) (hz : 26 ≤ Z) (hz2 : Z ≤ 1100) :
    ∃ g', doneL g id = (g', 0) ∧ CLx Z (c + 1) g' ∧ logS g'.D.S = logS g.D.S ++ [⟨2, id, ⟨#[]⟩, ⟨#[]⟩, 0, 0⟩] ∧ g'.n = g.n := by
  have hs : soundR ⟨2, id, ⟨#[]⟩, ⟨#[]⟩, 0, 0⟩ := ⟨by show (1 : Int) ≤ 2; decide, by show (2 : Int) ≤ 3; decide, hid0, by show (0 : Int) ≤ 0; decide, by show (0 : Int) ≤ 0; decide, by show (0 : Int) ≤ 7; decide, by show (0 : Nat) ≤ 256; decide, by show (0 : Nat) ≤ 768; decide⟩
  have hlen : (encR ⟨2, id, ⟨#[]⟩, ⟨#[]⟩, 0, 0⟩).length = 26 := by unfold encR; rw [recB_length, contR_length]; rfl
  obtain ⟨P, D', hP, _, hw, hl, hx⟩ := h.base.write hc hn hs ⟨hid, by show (0 : Int) < 9223372036854775808; decide⟩ (by omega) hz2
  have hsome : (gA g.x.puts id).isSome = true := by
    cases hg : gA g.x.puts id with
    | none => rw [h.base.agr.none id hg] at hq; cases hq
    | some p => rfl
  refine ⟨⟨D', g.n, { g.x with puts := dA g.x.puts id }⟩, ?_, ⟨hx _ ?_, ?_, ?_, ?_, h.szw⟩, hl, rfl⟩
  · rw [done_yes hsome, note_ok (g := ⟨g.D, g.n, { g.x with puts := dA g.x.puts id }⟩) hs hP hw]
  · have htop : id ≤ g.x.top := by
      obtain ⟨m1, m2, m3⟩ := lstP_mem hq
      rw [h.base.agr.top, ← m3]
      exact mxT_ge m1 (Or.inl m2)
    unfold applyI
    rw [if_neg (by show ¬ (2 : Int) = 1; decide), if_pos rfl]
    exact ⟨fun _ => rfl, fun _ => rfl, by show g.x.top = max g.x.top id; omega⟩
  · show (dA g.x.puts id).length + g.x.waits.length ≤ _
    have := h.cnt
    have := len_dA g.x.puts id
    omega
  · show (logS D'.S).length ≤ _
    rw [hl, List.length_append]
    have := h.lgc
    simp only [List.length_cons, List.length_nil]
    omega
  · intro q hq
    have hq : q ∈ logS D'.S := hq
    rw [hl] at hq
    rcases List.mem_append.1 hq with hq | hq
    · exact h.szl q hq
    · rw [List.mem_singleton] at hq; rw [hq, hlen]; exact hz
theorem fold_cnt : ∀ (I : List (Rc × Pl)) (x : Ix), (I.foldl apI x).puts.length + (I.foldl apI x).waits.length ≤ x.puts.length + x.waits.length + I.length
  | [], x => Nat.le_refl _
  | q :: I, x => by
    have h1 := fold_cnt I (apI x q)
    have h2 : (apI x q).puts.length + (apI x q).waits.length ≤ x.puts.length + x.waits.length + 1 := by
      show (applyI x q.1 q.2).puts.length + (applyI x q.1 q.2).waits.length ≤ _
      unfold applyI
      split
      · show (pA x.puts _ _).length + x.waits.length ≤ _
        rw [len_pA]; split <;> omega
      · split
        · show (dA x.puts _).length + x.waits.length ≤ _
          have := len_dA x.puts q.1.id
          omega
        · split
          · unfold pauseI
            split
            · show x.puts.length + (pA x.waits _ _).length ≤ _
              rw [len_pA]; split <;> omega
            · omega
          · omega
    rw [List.foldl_cons, List.length_cons]
    omega
theorem fold_wk : ∀ (I : List (Rc × Pl)) (x : Ix) (h : ByteArray), h ∈ (I.foldl apI x).waits.map Prod.fst → h ∈ x.waits.map Prod.fst ∨ ∃ q ∈ I, q.1.host = h
  | [], x, h, hh => Or.inl hh
  | q :: I, x, h, hh => by
    rcases fold_wk I (apI x q) h hh with h1 | ⟨p, hp, he⟩
    · have h1 : h ∈ (applyI x q.1 q.2).waits.map Prod.fst := h1
      unfold applyI at h1
      split at h1
      · exact Or.inl h1
      · split at h1
        · exact Or.inl h1
        · split at h1
          · unfold pauseI at h1
            split at h1
            · rcases (pA_keys _ _ _ _).1 h1 with e | e
              · exact Or.inr ⟨q, List.mem_cons_self, e.symm⟩
              · exact Or.inl e
            · exact Or.inl h1
          · exact Or.inl h1
    · exact Or.inr ⟨p, List.mem_cons_of_mem _ hp, he⟩
theorem repl_cnt {S : Sgs} (hs : SS S) {Z : Nat} (hz : ∀ r ∈ logS S, (encR r).length ≤ Z) : (replL S (S.map Prod.fst)).puts.length + (replL S (S.map Prod.fst)).waits.length ≤ (logS S).length ∧ ∀ h ∈ (replL S (S.map Prod.fst)).waits.map Prod.fst, 26 + h.size ≤ Z := by
  have e := itms_fst S (S.map Prod.fst)
  rw [log_segs hs] at e
  refine ⟨?_, fun h hh => ?_⟩
  · rw [replL_itms, ← e, List.length_map]
    have := fold_cnt (itms S (S.map Prod.fst)) ix0
    have e1 : ix0.puts.length = 0 := rfl
    have e2 : ix0.waits.length = 0 := rfl
    omega
  · rw [replL_itms] at hh
    rcases fold_wk _ _ _ hh with h1 | ⟨q, hq, rfl⟩
    · cases h1
    · have h2 : q.1 ∈ logS S := by rw [← e]; exact List.mem_map_of_mem hq
      have h3 := hz _ h2
      unfold encR at h3
      rw [recB_length, contR_length] at h3
      omega
theorem CLx.open_ {Z c : Nat} {g : Lg} (h : CLx Z c g) : CLx Z c (openL g.D g.n) := by
  have h1 := repl_cnt h.base.disk.ss h.szl
  exact ⟨h.base.open_, Nat.le_trans h1.1 h.lgc, h.lgc, h.szl, h1.2⟩
theorem CLx.new (Z : Nat) (most n : Int) (hn : n ≤ most) : CLx Z 0 (openL ⟨[], [], most, 0, 0⟩ n) :=
  ⟨CLog.new Z most n hn, Nat.le_refl _, Nat.le_refl _, fun r hr => (by cases hr), fun h hh => (by cases hh)⟩
/-- How long the records are that tell the state, and how many. -/
theorem CLx.st {Z c : Nat} {g : Lg} (h : CLx Z c g) (hz : 26 ≤ Z) : (∀ r ∈ stR g, (encR r).length ≤ Z) ∧ (stR g).length ≤ c + 1 := by
  refine ⟨fun r hr => ?_, ?_⟩
  · rcases (st_mem h.base.agr.reads).1 hr with ⟨h1, h2⟩ | ⟨s, hs, rfl⟩ | ⟨rfl, _⟩
    · rw [h.base.agr.load] at h2
      exact h.szl r (lstP_mem h2).1
    · have := h.szw s hs
      unfold encR
      rw [recB_length, contR_length]
      show 6 + (20 + (s.size + 0)) ≤ Z
      omega
    · unfold encR
      rw [recB_length, contR_length]
      exact hz
  · unfold stR
    rw [List.length_append, List.length_append, List.length_map, srtS_len, List.length_map]
    have h1 : ((srtI (g.x.puts.map Prod.fst)).filterMap (loadL g)).length ≤ g.x.puts.length := by
      refine Nat.le_trans (List.length_filterMap_le _ _) ?_
      rw [srtI_len, List.length_map]
      exact Nat.le_refl _
    have h2 : (topR g.x).length ≤ 1 := by
      unfold topR
      split
      · exact Nat.le_refl _
      · exact Nat.zero_le _
    have := h.cnt
    omega
theorem sum_flat : ∀ (css : List (List Rc)), (css.map fun c => (flatR c).length).sum = (flatR css.flatten).length
  | [] => rfl
  | c :: t => by rw [List.map_cons, List.sum_cons, sum_flat t, List.flatten_cons, flatR_app, List.length_append]
theorem flat_len_le {Z : Nat} : ∀ {rs : List Rc}, (∀ r ∈ rs, (encR r).length ≤ Z) → (flatR rs).length ≤ rs.length * Z
  | [], _ => by simp [flatR]
  | r :: t, h => by
    rw [flatR_cons, List.length_append, List.length_cons, Nat.succ_mul]
    have h1 := h r List.mem_cons_self
    have h2 := flat_len_le (rs := t) fun q hq => h q (List.mem_cons_of_mem _ hq)
    omega
theorem full_few {α : Type} {f : α → Nat} {Z N : Nat} {l : List α} (h : ∀ a ∈ l.dropLast, 2048 ≤ f a + Z) (hN : (l.map f).sum ≤ N) : (l.length - 1) * (2048 - Z) ≤ N := by
  have h1 : ∀ {t : List α}, (∀ a ∈ t, 2048 ≤ f a + Z) → t.length * (2048 - Z) ≤ (t.map f).sum := by
    intro t
    induction t with
    | nil => intro _; simp
    | cons a t ih =>
      intro h
      rw [List.length_cons, List.map_cons, List.sum_cons, Nat.succ_mul]
      have h1 := h a List.mem_cons_self
      have h2 := ih fun q hq => h q (List.mem_cons_of_mem _ hq)
      omega
  have h2 := h1 h
  rw [List.length_dropLast] at h2
  refine Nat.le_trans h2 (Nat.le_trans ?_ hN)
  cases l with
  | nil => simp
  | cons a t =>
    have hne : a :: t ≠ [] := List.cons_ne_nil _ _
    conv => rhs; rw [← List.dropLast_concat_getLast hne]
    rw [List.map_append, List.sum_append]
    omega
end Go.Proofs.YteinblpkcpjpnaaGreatDoor
/- Package spill, told by lists: Compact on a disk that does not fail. No program here. -/
namespace Go.Proofs.YteinblpkcpjpnaaGreatDoor
open Go Go.RowKit
set_option linter.unusedVariables false
set_option linter.unusedSimpArgs false
set_option maxRecDepth 10000

theorem log_flat : ∀ {F : Sgs} {css : List (List Rc)}, F.map Prod.snd = css.map flatR → GoodL css.flatten → logS F = css.flatten
  | [], [], _, _ => rfl
  | [], c :: t, h, _ => by cases h
  | p :: F, [], h, _ => by cases h
  | p :: F, c :: t, h, hg => by
    rw [List.map_cons, List.map_cons] at h
    injection h with h1 h2
    rw [List.flatten_cons] at hg
    have h3 := log_flat h2 fun r hr => hg r (List.mem_append.2 (Or.inr hr))
    show scanL p.2 ++ logS F = _
    rw [h3, h1, (scan_flat fun r hr => hg r (List.mem_append.2 (Or.inl hr))).1, List.flatten_cons]
theorem ss_right {A F : Sgs} (h : SS (A ++ F)) : SS F := (List.pairwise_append.1 h).2.1
theorem gD_right {A F : Sgs} (h : SS (A ++ F)) {s : Int} (hs : s ∈ F.map Prod.fst) : gD (A ++ F) s = gD F s := by
  obtain ⟨p, hp, rfl⟩ := List.mem_map.1 hs
  rw [gD_self h (List.mem_append.2 (Or.inr hp)), gD_self (ss_right h) hp]
theorem replL_congr {S S' : Sgs} {l : List Int} (h : ∀ s ∈ l, gD S s = gD S' s) : replL S l = replL S' l := by
  unfold replL
  generalize ix0 = x
  induction l generalizing x with
  | nil => rfl
  | cons s t ih =>
    rw [List.foldl_cons, List.foldl_cons, h s List.mem_cons_self]
    exact ih (fun q hq => h q (List.mem_cons_of_mem _ hq)) _
theorem byt_of {S : Sgs} (h : ∀ p ∈ S, Byts p.2) : BytS S := fun n => by
  unfold gD
  cases hg : gS S n with
  | none => exact Byts.nil
  | some b =>
    have : (n, b) ∈ S := by
      clear h
      induction S with
      | nil => cases hg
      | cons x t ih =>
        obtain ⟨m, c⟩ := x
        rw [gS] at hg
        split at hg
        · rename_i e
          injection hg with hg
          rw [e, hg]
          exact List.mem_cons_self
        · exact List.mem_cons_of_mem _ (ih hg)
    exact h _ this
/-- What tells the same has the same lookups. -/
theorem agr_of {S : Sgs} {x : Ix} (h : Agr S x) (i : Int) : (gA x.puts i).isSome = (lstP i (logS S)).isSome := by
  cases hg : gA x.puts i with
  | none => rw [h.none i hg]; rfl
  | some p =>
    obtain ⟨r, h1, _⟩ := h.puts i p hg
    rw [h1]
    rfl
theorem CLx.compact {Z c : Nat} {g : Lg} (h : CLx Z c g) (ho : IxOk g.x) (hc : c ≤ 1000000) (hz : 26 ≤ Z) (hz2 : Z ≤ 1000) (hn : (g.D.S.length : Int) ≤ g.n) (hn2 : ∀ k : Nat, (k - 1) * (2048 - Z) ≤ (c + 1) * Z → (k : Int) ≤ g.n ∧ k ≤ 10) (hm : g.n + g.n ≤ g.D.most) :
    ∃ g', compactL g = (g', 0) ∧ CLx Z (c + 1) g' ∧ (∀ q, q ∈ logS g'.D.S ↔ q ∈ stR g) ∧ (∀ i, lstP i (logS g'.D.S) = lstP i (logS g.D.S)) ∧ (∀ s, mxW s (logS g'.D.S) = mxW s (logS g.D.S)) ∧ mxT (logS g'.D.S) = mxT (logS g.D.S) ∧ g'.n = g.n := by
  have hR := h.base.agr.reads
  have hst := h.st hz
  have hgood := st_good hR ho
  obtain ⟨css, hp, hperm, hok⟩ := pack_css hR ho
  have hpk := hok Z hst.1 (by omega)
  have hsum : (css.map fun c => (flatR c).length).sum ≤ (c + 1) * Z := by
    rw [sum_flat]
    refine Nat.le_trans (flat_len_le (Z := Z) fun r hr => hst.1 r (hperm.mem_iff.1 hr)) ?_
    rw [hperm.length_eq]
    exact Nat.mul_le_mul_right Z hst.2
  have hlen : (css.length : Int) ≤ g.n ∧ css.length ≤ 10 := hn2 css.length (full_few hpk.2 hsum)
  have hpl : (packL g).length = css.length := by rw [hp, List.length_map]
  have hc2 : ∀ x ∈ packL g, x.length ≤ 2048 := fun x hx => by
    rw [hp] at hx
    obtain ⟨y, hy, rfl⟩ := List.mem_map.1 hx
    exact hpk.1 y hy
  have hz0 := rewL_zero (packL g) g.D (segsL g.D) (20 * (c : Int)) h.base.disk.beh h.base.disk.fal h.base.disk.ss rfl hc2 (by rw [hpl]; omega) (fun p hp => h.base.disk.num p hp) (by omega) (by rw [hpl]; omega)
  obtain ⟨F, f1, f2, f3, f4, f5, f6, f7⟩ := rewL_gen (packL g) g.D (segsL g.D) h.base.disk.ss rfl
  obtain ⟨f8, f9⟩ := f6 hz0.1
  have hrw : rewriteL g = ((rewL g.D (segsL g.D) (packL g)).1, F.map Prod.fst, 0) := by
    unfold rewriteL
    rw [if_neg (by rw [hpl]; omega), hz0.1, f4]
    rw [List.drop_left' rfl]
  obtain ⟨D3, hD3⟩ : ∃ D3, (rewL g.D (segsL g.D) (packL g)).1 = D3 := ⟨_, rfl⟩
  rw [hD3] at hrw f2 f5 f9 hz0
  have hs3 : SS D3.S := by rw [f2]; exact f3
  have hdz := drops_zero g.D.S [] F D3 (by rw [f2]; rfl) hs3 hz0.2.1 hz0.2.2.1
  obtain ⟨A1, A2, d1, d2, d3, d4, d5, d6⟩ := drops_gen g.D.S [] F D3 (by rw [f2]; rfl) hs3
  have hA2 := d5 hdz.1
  subst hA2
  have d2 : (dropsD D3 (g.D.S.map Prod.fst)).1.S = F := d2
  rw [f9] at d4
  have hF := log_flat (F := F) (css := css) (by rw [f8, hp]) (fun r hr => hgood r (hperm.mem_iff.1 hr))
  have hcomp : compactL g = (⟨(dropsD D3 (segsL g.D)).1, g.n, replL D3.S (F.map Prod.fst)⟩, 0) := by
    rw [compact_eq, if_neg (by omega), cgo_eq, hrw, if_pos rfl]
    dsimp only
    rw [segs_eq, hdz.1]
  have hssF : SS F := ss_right f3
  have hbytF : ∀ p ∈ F, Byts p.2 := fun p hp2 => by
    have h1 : p.2 ∈ F.map Prod.snd := List.mem_map_of_mem hp2
    rw [f8] at h1
    exact (packL_ok h.base.disk.byt ho _ h1).1
  have hb3 := byt_of hbytF
  have hrepl : replL D3.S (F.map Prod.fst) = replL F (F.map Prod.fst) := replL_congr fun s hs => by rw [f2]; exact gD_right f3 hs
  have hag := open_agr hssF hb3
  have hmem : ∀ q, q ∈ logS F ↔ q ∈ stR g := fun q => by rw [hF]; exact hperm.mem_iff
  have htell := st_tells hR ho (fun i hi => by
    rw [agr_of h.base.agr] at hi
    obtain ⟨r, hr⟩ := Option.isSome_iff_exists.1 hi
    obtain ⟨m1, m2, m3⟩ := lstP_mem hr
    rw [h.base.agr.top, ← m3]
    exact mxT_ge m1 (Or.inl m2)) hmem
  have hszl : ∀ r ∈ logS F, (encR r).length ≤ Z := fun r hr => hst.1 r ((hmem r).1 hr)
  have hcnt := repl_cnt hssF hszl
  have hlgc : (logS F).length ≤ c + 1 := by rw [hF, hperm.length_eq]; exact hst.2
  have hnumF : ∀ p ∈ F, 0 ≤ p.1 ∧ p.1 ≤ 20 * (c : Int) + (css.length : Int) := fun p hp2 => by
    have := hz0.2.2.2 p (by rw [f2]; exact List.mem_append.2 (Or.inr hp2))
    rw [hpl] at this
    exact this
  refine ⟨⟨(dropsD D3 (segsL g.D)).1, g.n, replL D3.S (F.map Prod.fst)⟩, hcomp, ⟨⟨⟨?_, ?_, ?_, ?_, ?_, ?_, ?_, ?_, ?_⟩, ?_, ?_⟩, ?_, ?_, ?_, ?_⟩, ?_, ?_, ?_, ?_, rfl⟩
  all_goals dsimp only
  · rw [segs_eq, d4]; rfl
  · rw [segs_eq]; exact hdz.2.1
  · rw [segs_eq]; exact hdz.2.2
  · rw [segs_eq, d2]; exact hssF
  · rw [segs_eq, d2]; exact hb3
  · rw [segs_eq, d2]
    intro p hp2
    have := hnumF p hp2
    omega
  · rw [segs_eq, d2]
    intro p hp2
    have h1 : p.2 ∈ F.map Prod.snd := List.mem_map_of_mem hp2
    rw [f8, hp] at h1
    obtain ⟨y, hy, he⟩ := List.mem_map.1 h1
    rw [← he]
    exact (scan_flat fun r hr => hgood r (hperm.mem_iff.1 (List.mem_flatten.2 ⟨y, hy, hr⟩))).2
  · rw [segs_eq, d2]
    intro p hp2
    have h1 : p.2 ∈ (F.dropLast).map Prod.snd := List.mem_map_of_mem hp2
    rw [List.map_dropLast, f8, hp, ← List.map_dropLast] at h1
    obtain ⟨y, hy, he⟩ := List.mem_map.1 h1
    rw [← he]
    exact hpk.2 y hy
  · rw [segs_eq, d2]
    have e : (F.map fun p => p.2.length) = css.map fun c => (flatR c).length := by
      have h1 : (F.map Prod.snd).map List.length = (css.map flatR).map List.length := by rw [f8, hp]
      rw [List.map_map, List.map_map] at h1
      exact h1
    rw [e]
    exact hsum
  · rw [segs_eq, d2, hrepl]; exact hag
  · rw [segs_eq, d3, f5]
    exact h.base.most
  · rw [hrepl]; have := hcnt.1; omega
  · rw [segs_eq, d2]; exact hlgc
  · rw [segs_eq, d2]; exact hszl
  · rw [hrepl]; exact hcnt.2
  · rw [segs_eq, d2]; exact hmem
  · rw [segs_eq, d2]
    intro i
    rw [htell.1 i, h.base.agr.load]
  · rw [segs_eq, d2]
    intro s
    rw [htell.2.1 s, h.base.agr.waits]
  · rw [segs_eq, d2, htell.2.2, h.base.agr.top]
end Go.Proofs.YteinblpkcpjpnaaGreatDoor
/- Package spill, told by lists: what no call changes. No program here. -/
namespace Go.Proofs.YteinblpkcpjpnaaGreatDoor
open Go Go.RowKit
set_option linter.unusedVariables false
set_option linter.unusedSimpArgs false
set_option maxRecDepth 10000

theorem drop_most (D : Ds) (s : Int) : (dropD D s).1.most = D.most := by
  unfold dropD
  split
  · split <;> rfl
  · rfl
theorem drops_most : ∀ (l : List Int) (D : Ds), (dropsD D l).1.most = D.most
  | [], _ => rfl
  | s :: t, D => by
    unfold dropsD
    split
    · rw [drops_most t, drop_most]
    · exact drop_most D s
theorem write_most (D : Ds) (s : Int) (b : List Int) : (writeD D s b).1.most = D.most := by
  unfold writeD
  split
  · rw [(sync_un _).2.2, (app_un D s b).2.2]
  · exact (app_un D s b).2.2
theorem rewL_most : ∀ (cs : List (List Int)) (D : Ds) (l : List Int), (rewL D l cs).1.most = D.most
  | [], D, l => (sync_un D).2.2
  | c :: t, D, l => by
    unfold rewL
    split
    · split
      · rw [rewL_most t, (app_un D _ c).2.2]
      · exact (app_un D _ c).2.2
    · rfl
theorem rewrite_most (g : Lg) : (rewriteL g).1.most = g.D.most := by
  unfold rewriteL
  split
  · rfl
  · exact rewL_most _ _ _
theorem cgo_most (g : Lg) : (compactGo g).1.D.most = g.D.most ∧ (compactGo g).1.n = g.n := by
  rw [cgo_eq]
  split
  · exact ⟨(drops_most _ _).trans (rewrite_most g), rfl⟩
  · exact ⟨(drops_most _ _).trans (rewrite_most g), rfl⟩
theorem pruneGo_most : ∀ (l : List Int) (g : Lg) (all : Ix), (pruneGo l g all).1.D.most = g.D.most ∧ (pruneGo l g all).1.n = g.n
  | [], g, all => ⟨rfl, rfl⟩
  | s :: t, g, all => by
    unfold pruneGo
    split
    · split
      · obtain ⟨h1, h2⟩ := pruneGo_most t ⟨(dropsD g.D [s]).1, g.n, followX g.x (replL g.D.S ((segsL g.D).filter fun k => decide (k ≠ s)))⟩ (replL g.D.S ((segsL g.D).filter fun k => decide (k ≠ s)))
        exact ⟨h1.trans (drops_most _ _), h2⟩
      · exact ⟨drops_most _ _, rfl⟩
    · exact pruneGo_most t g all
theorem prune_most (g : Lg) : (pruneL g).1.D.most = g.D.most ∧ (pruneL g).1.n = g.n := by
  unfold pruneL
  split
  · obtain ⟨h1, h2⟩ := pruneGo_most (segsL (syncD g.D).1) ⟨(syncD g.D).1, g.n, g.x⟩ (replL (syncD g.D).1.S (segsL (syncD g.D).1))
    exact ⟨h1.trans (sync_un g.D).2.2, h2⟩
  · exact ⟨(sync_un g.D).2.2, rfl⟩
theorem compact_most (g : Lg) : (compactL g).1.D.most = g.D.most ∧ (compactL g).1.n = g.n := by
  rw [compact_eq]
  split
  · split
    · exact ⟨(cgo_most _).1.trans (prune_most g).1, (cgo_most _).2.trans (prune_most g).2⟩
    · exact prune_most g
  · exact cgo_most g
theorem note_most (g : Lg) (r : Rc) : (noteL g r).1.D.most = g.D.most ∧ (noteL g r).1.n = g.n := by
  unfold noteL
  split
  · split
    · exact ⟨write_most _ _ _, rfl⟩
    · exact compact_most g
  · exact ⟨rfl, rfl⟩
theorem putAt_most (g : Lg) (r : Rc) (P : Pl) : (putAt g r P).1.D.most = g.D.most ∧ (putAt g r P).1.n = g.n := by
  unfold putAt
  split
  · exact ⟨write_most _ _ _, rfl⟩
  · exact ⟨write_most _ _ _, rfl⟩
theorem put_most (g : Lg) (r : Rc) : (putL g r).1.D.most = g.D.most ∧ (putL g r).1.n = g.n := by
  unfold putL
  split
  · split
    · exact putAt_most (topped g r.id) r _
    · split
      · split
        · have h := putAt_most (topped (compactL g).1 r.id) r (roomL (compactL g).1.D (compactL g).1.n (encR r).length).1
          exact ⟨h.1.trans (compact_most g).1, h.2.trans (compact_most g).2⟩
        · exact compact_most g
      · exact compact_most g
  · exact ⟨rfl, rfl⟩
theorem done_most (g : Lg) (id : Int) : (doneL g id).1.D.most = g.D.most ∧ (doneL g id).1.n = g.n := by
  unfold doneL
  split
  · exact note_most ⟨g.D, g.n, { g.x with puts := dA g.x.puts id }⟩ _
  · exact ⟨rfl, rfl⟩
theorem wait_most (g : Lg) (s : ByteArray) (t : Int) : (waitL g s t).1.D.most = g.D.most ∧ (waitL g s t).1.n = g.n := by
  unfold waitL
  split
  · split
    · exact note_most ⟨g.D, g.n, pauseI g.x s t nowh⟩ _
    · exact note_most ⟨g.D, g.n, pauseI g.x s t nowh⟩ _
  · exact ⟨rfl, rfl⟩
end Go.Proofs.YteinblpkcpjpnaaGreatDoor
