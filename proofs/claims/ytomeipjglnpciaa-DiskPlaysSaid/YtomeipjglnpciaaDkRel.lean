/- DiskPlays: how the program's disk and the document's belong together. -/
import Derived.Test.YtomeipjglnpciaaDkRapp
import Derived.Test.YtomeipjglnpciaaDkRcra
namespace Go.Proofs.Ytomeipjglnpciaa
open Go
set_option linter.unusedVariables false
set_option linter.unusedSimpArgs false

theorem sorted_ext {a b : List Int} (ha : a.Pairwise (· < ·)) (hb : b.Pairwise (· < ·)) (h : ∀ x, x ∈ a ↔ x ∈ b) : a = b := by
  induction a generalizing b with
  | nil =>
    cases b with
    | nil => rfl
    | cons y s => exact absurd ((h y).2 List.mem_cons_self) (by simp)
  | cons x t ih =>
    cases b with
    | nil => exact absurd ((h x).1 List.mem_cons_self) (by simp)
    | cons y s =>
      obtain ⟨a1, a2⟩ := List.pairwise_cons.1 ha
      obtain ⟨b1, b2⟩ := List.pairwise_cons.1 hb
      have hxy : x = y := by
        rcases List.mem_cons.1 ((h x).1 List.mem_cons_self) with e | e
        · exact e
        · rcases List.mem_cons.1 ((h y).2 List.mem_cons_self) with e2 | e2
          · exact e2.symm
          · have := b1 x e
            have := a1 y e2
            omega
      subst hxy
      rw [ih a2 b2 fun z => ⟨fun hz => ?_, fun hz => ?_⟩]
      · rcases List.mem_cons.1 ((h z).1 (List.mem_cons_of_mem _ hz)) with e | e
        · have := a1 z hz; omega
        · exact e
      · rcases List.mem_cons.1 ((h z).2 (List.mem_cons_of_mem _ hz)) with e | e
        · have := b1 z hz; omega
        · exact e
theorem filter_take {α : Type} {l : List α} {P : α → Bool} (h : l.Pairwise fun a b => P b = true → P a = true) : l.filter P = l.take (l.countP P) := by
  induction l with
  | nil => rfl
  | cons a t ih =>
    obtain ⟨h1, h2⟩ := List.pairwise_cons.1 h
    cases ha : P a with
    | true => rw [List.filter_cons, if_pos ha, List.countP_cons_of_pos ha, List.take_succ_cons, ih h2]
    | false =>
      have hn : ∀ x ∈ t, ¬ P x = true := fun x hx hp => by rw [h1 x hx hp] at ha; cases ha
      rw [List.countP_cons_of_neg (by rw [ha]; decide), List.filter_cons, if_neg (by rw [ha]; decide), List.filter_eq_nil_iff.2 hn, List.countP_eq_zero.2 hn]
      rfl
def Tn (T : List (Int × Int)) (n : Int) : List Int := (T.filter fun x => decide (x.2 = n)).map Prod.fst
theorem Tn_app (a b : List (Int × Int)) (n : Int) : Tn (a ++ b) n = Tn a n ++ Tn b n := by unfold Tn; rw [List.filter_append, List.map_append]
theorem Tn_len (T : List (Int × Int)) (n : Int) : (Tn T n).length = (T.map Prod.snd).count n := by
  induction T with
  | nil => rfl
  | cons x t ih =>
    obtain ⟨a, m⟩ := x
    unfold Tn at *
    rw [List.filter_cons, List.map_cons]
    by_cases h : m = n
    · rw [if_pos (decide_eq_true h), List.map_cons, List.length_cons, ih, h, List.count_cons_self]
    · rw [if_neg (by simpa using h), ih, List.count_cons_of_ne (by simpa using h)]
theorem Tn_sum : ∀ (ks : List Int) (T : List (Int × Int)) (p : Int → Bool), ks.Nodup → (∀ x ∈ T, x.2 ∈ ks) → (ks.flatMap (Tn T)).countP p = (T.map Prod.fst).countP p
  | [], T, p, _, h => by
    cases T with
    | nil => rfl
    | cons x t => exact absurd (h x List.mem_cons_self) (by simp)
  | n :: ks, T, p, hn, h => by
    obtain ⟨h1, h2⟩ := List.nodup_cons.1 hn
    have ih := Tn_sum ks (T.filter fun x => !decide (x.2 = n)) p h2 fun x hx => by
      obtain ⟨e1, e2⟩ := List.mem_filter.1 hx
      rcases List.mem_cons.1 (h x e1) with e | e
      · simp [e] at e2
      · exact e
    have e : ks.flatMap (Tn T) = ks.flatMap (Tn (T.filter fun x => !decide (x.2 = n))) := by
      have key : ∀ l : List Int, (∀ m ∈ l, m ≠ n) → l.flatMap (Tn T) = l.flatMap (Tn (T.filter fun x => !decide (x.2 = n))) := fun l => by
        induction l with
        | nil => intro _; rfl
        | cons m t ih =>
          intro hl
          rw [List.flatMap_cons, List.flatMap_cons, ih fun q hq => hl q (List.mem_cons_of_mem _ hq)]
          congr 1
          unfold Tn
          rw [List.filter_filter]
          congr 1
          refine List.filter_congr fun x _ => ?_
          have := hl m List.mem_cons_self
          by_cases hx : x.2 = m
          · rw [hx]; simp [this]
          · simp [hx]
      exact key ks fun m hm e => h1 (e ▸ hm)
    rw [List.flatMap_cons, List.countP_append, e, ih]
    unfold Tn
    rw [List.countP_map, List.countP_map, List.countP_map, List.countP_eq_countP_filter_add T (p ∘ Prod.fst) fun x => decide (x.2 = n)]
theorem mkB_fst (x : Int) (l : List Int) : (mkB x l).map Prod.fst = l := by
  induction l generalizing x with
  | nil => rfl
  | cons c t ih => rw [mkB, List.map_cons, ih]
theorem mkB_in (x : Int) (l : List Int) : ∀ y ∈ mkB x l, x ≤ y.2 ∧ y.2 < x + l.length := by
  induction l generalizing x with
  | nil => intro y hy; cases hy
  | cons c t ih =>
    intro y hy
    rw [mkB] at hy
    rw [List.length_cons]
    rcases List.mem_cons.1 hy with rfl | hy
    · exact ⟨Int.le_refl _, by show x < _; omega⟩
    · have := ih (x + 1) y hy
      omega
theorem mkB_pw (x : Int) (l : List Int) : (mkB x l).Pairwise fun a b => a.2 < b.2 := by
  induction l generalizing x with
  | nil => exact List.Pairwise.nil
  | cons c t ih =>
    rw [mkB]
    refine List.pairwise_cons.2 ⟨fun y hy => ?_, ih _⟩
    have := (mkB_in (x + 1) t y hy).1
    show x < y.2
    omega
structure Rel (S : Sgs) (un : Pcs) (R : Rgs) (nx : Int) : Prop where
  keys : R.map Prod.fst = S.map Prod.fst
  txt : ∀ n bs, (n, bs) ∈ R → gS S n = some (bs.map Prod.fst)
  marks : ∃ T : List (Int × Int), (T.Pairwise fun a b => a.1 < b.1) ∧ T.map Prod.snd = looseL un ∧ (∀ x ∈ T, 0 ≤ x.1 ∧ x.1 < nx) ∧ ∀ n bs, (n, bs) ∈ R → ∃ k, bs.map Prod.snd = List.replicate k (-1) ++ Tn T n
theorem Rel.zero : Rel [] [] [] 0 := ⟨rfl, fun n bs h => (by cases h), [], List.Pairwise.nil, rfl, fun x h => (by cases h), fun n bs h => (by cases h)⟩
theorem Rel.none_ {S : Sgs} {un : Pcs} {R : Rgs} {nx n : Int} (h : Rel S un R nx) (hn : ∀ p ∈ R, p.1 ≠ n) : gS S n = none := by
  cases hg : gS S n with
  | none => rfl
  | some A =>
    have : n ∈ S.map Prod.fst := gS_keys.2 (by rw [hg]; rfl)
    rw [← h.keys] at this
    obtain ⟨p, hp, e⟩ := List.mem_map.1 this
    exact absurd e (hn p hp)
theorem mem_looseL {u : Pcs} {n : Int} (h : n ∈ looseL u) : ∃ p ∈ u, p.1 = n := by
  unfold looseL at h
  obtain ⟨p, hp, hq⟩ := List.mem_flatMap.1 h
  exact ⟨p, hp, (List.eq_of_mem_replicate hq).symm⟩
theorem T_keys {S : Sgs} {un : Pcs} {R : Rgs} {nx : Int} (h : Rel S un R nx) (hu : UN S un) {T : List (Int × Int)} (hT : T.map Prod.snd = looseL un) : ∀ x ∈ T, x.2 ∈ R.map Prod.fst := fun x hx => by
  have h1 : x.2 ∈ looseL un := by rw [← hT]; exact List.mem_map_of_mem hx
  obtain ⟨p, hp, e⟩ := mem_looseL h1
  rw [h.keys, gS_keys, ← e]
  exact hu.1 p hp
theorem Tn_none {R : Rgs} {T : List (Int × Int)} (h : ∀ x ∈ T, x.2 ∈ R.map Prod.fst) {n : Int} (hn : ∀ p ∈ R, p.1 ≠ n) : Tn T n = [] := by
  unfold Tn
  rw [List.filter_eq_nil_iff.2 fun x hx he => ?_, List.map_nil]
  obtain ⟨p, hp, e⟩ := List.mem_map.1 (h x hx)
  exact hn p hp (e.trans (of_decide_eq_true he))
theorem Rel.app {S : Sgs} {un : Pcs} {R R' : Rgs} {nx n : Int} {b : List Int} (h : Rel S un R nx) (hS : SS S) (hu : UN S un) (hR' : R'.Pairwise fun p q => p.1 < q.1) (ha : ApR R R' n (mkB nx b)) (hx : 0 ≤ nx) :
    Rel (pS S n (gD S n ++ b)) (un ++ [(n, b.length)]) R' (nx + (b.length : Int)) := by
  obtain ⟨R1, k, bs, hk, rfl, h1⟩ := ha
  have hkeys := set_keys (cs := bs ++ mkB nx b) hk
  have hs1 : R1.Pairwise fun p q => p.1 < q.1 := srt_keys hR' hkeys.symm
  have mem : ∀ m ds, (m, ds) ∈ R1.set k (n, bs ++ mkB nx b) → (m = n ∧ ds = bs ++ mkB nx b) ∨ (m ≠ n ∧ (m, ds) ∈ R) := fun m ds hm => by
    rcases set_uniq hs1 hk hm with e | ⟨e1, e2⟩
    · exact Or.inl e
    · refine Or.inr ⟨e1, ?_⟩
      rcases h1 with rfl | ⟨_, _, _, rfl⟩
      · exact e2
      · rcases List.mem_append.1 e2 with e2 | e2
        · exact List.mem_of_mem_take e2
        · rcases List.mem_cons.1 e2 with e2 | e2
          · injection e2 with e2 _
            exact absurd e2 e1
          · exact List.mem_of_mem_drop e2
  have keys : ∀ m, m ∈ R1.map Prod.fst ↔ m = n ∨ m ∈ R.map Prod.fst := fun m => by
    rcases h1 with rfl | ⟨_, _, _, rfl⟩
    · constructor
      · exact Or.inr
      · rintro (rfl | h2)
        · exact List.mem_map.2 ⟨_, List.mem_of_getElem? hk, rfl⟩
        · exact h2
    · have e : R.map Prod.fst = (R.take k).map Prod.fst ++ (R.drop k).map Prod.fst := by rw [← List.map_append, List.take_append_drop]
      rw [List.map_append, List.map_cons, e]
      simp only [List.mem_append, List.mem_cons]
      constructor
      · rintro (h2 | h2 | h2)
        · exact Or.inr (Or.inl h2)
        · exact Or.inl h2
        · exact Or.inr (Or.inr h2)
      · rintro (h2 | h2 | h2)
        · exact Or.inr (Or.inl h2)
        · exact Or.inl h2
        · exact Or.inr (Or.inr h2)
  have hgd : gD S n = bs.map Prod.fst := by
    unfold gD
    rcases h1 with rfl | ⟨rfl, hno, _, _⟩
    · rw [h.txt n bs (List.mem_of_getElem? hk)]; rfl
    · rw [h.none_ hno]; rfl
  obtain ⟨T, t1, t2, t3, t4⟩ := h.marks
  have hTk := T_keys h hu t2
  refine ⟨?_, fun m ds hm => ?_, T ++ (mkB nx b).map (fun y => (y.2, n)), ?_, ?_, ?_, fun m ds hm => ?_⟩
  · rw [hkeys]
    refine sorted_ext (List.pairwise_map.2 hs1) (List.pairwise_map.2 (SS_put hS _ _)) fun m => ?_
    rw [keys, gS_keys, gS_put, h.keys, gS_keys]
    by_cases e : m = n
    · simp [e]
    · simp [e]
  · rw [gS_put]
    rcases mem m ds hm with ⟨rfl, rfl⟩ | ⟨e1, e2⟩
    · rw [if_pos rfl, List.map_append, mkB_fst, hgd]
    · rw [if_neg e1]; exact h.txt m ds e2
  · refine List.pairwise_append.2 ⟨t1, List.pairwise_map.2 (mkB_pw nx b), fun x hx y hy => ?_⟩
    obtain ⟨z, hz, rfl⟩ := List.mem_map.1 hy
    have := (t3 x hx).2
    have := (mkB_in nx b z hz).1
    show x.1 < z.2
    omega
  · rw [List.map_append, t2, looseL_app, List.map_map]
    congr 1
    rw [looseL_cons]
    have e : looseL [] = [] := rfl
    rw [e, List.append_nil]
    refine List.eq_replicate_iff.2 ⟨by rw [List.length_map, mkB_len], fun y hy => ?_⟩
    obtain ⟨z, _, rfl⟩ := List.mem_map.1 hy
    rfl
  · intro x hx'
    rcases List.mem_append.1 hx' with hx' | hx'
    · have := t3 x hx'
      omega
    · obtain ⟨z, hz, rfl⟩ := List.mem_map.1 hx'
      have := mkB_in nx b z hz
      show 0 ≤ z.2 ∧ z.2 < nx + _
      omega
  · rw [Tn_app]
    have hnew : ∀ q : Int, Tn ((mkB nx b).map fun y => (y.2, n)) q = if q = n then (mkB nx b).map Prod.snd else [] := fun q => by
      unfold Tn
      by_cases e : q = n
      · rw [if_pos e, List.filter_eq_self.2 fun y hy => ?_, List.map_map]
        · rfl
        · obtain ⟨z, _, rfl⟩ := List.mem_map.1 hy
          exact decide_eq_true e.symm
      · rw [if_neg e, List.filter_eq_nil_iff.2 fun y hy => ?_, List.map_nil]
        obtain ⟨z, _, rfl⟩ := List.mem_map.1 hy
        simpa using fun e2 : n = q => e e2.symm
    rw [hnew]
    rcases mem m ds hm with ⟨rfl, rfl⟩ | ⟨e1, e2⟩
    · rw [if_pos rfl, List.map_append]
      rcases h1 with rfl | ⟨rfl, hno, _, _⟩
      · obtain ⟨c, hc⟩ := t4 m bs (List.mem_of_getElem? hk)
        exact ⟨c, by rw [hc, List.append_assoc]⟩
      · rw [Tn_none hTk hno]
        exact ⟨0, by simp⟩
    · rw [if_neg e1, List.append_nil]
      exact t4 m ds e2
theorem Rel.sync {S : Sgs} {un : Pcs} {R : Rgs} {nx : Int} (h : Rel S un R nx) : Rel S [] (R.map clr) nx := by
  refine ⟨?_, fun n bs hm => ?_, [], List.Pairwise.nil, rfl, fun x hx => (by cases hx), fun n bs hm => ?_⟩
  · rw [← h.keys, List.map_map]; rfl
  · obtain ⟨p, hp, e⟩ := List.mem_map.1 hm
    injection e with e1 e2
    subst e1 e2
    rw [h.txt p.1 p.2 hp, List.map_map]
    rfl
  · obtain ⟨p, hp, e⟩ := List.mem_map.1 hm
    injection e with e1 e2
    subst e1 e2
    refine ⟨p.2.length, ?_⟩
    rw [show Tn [] p.1 = [] from rfl, List.append_nil, List.map_map]
    refine List.eq_replicate_iff.2 ⟨by rw [List.length_map], fun y hy => ?_⟩
    obtain ⟨z, _, rfl⟩ := List.mem_map.1 hy
    rfl
theorem looseL_keep (n : Int) (u : Pcs) : looseL (keepP n u) = (looseL u).filter fun m => decide (m ≠ n) := by
  induction u with
  | nil => rfl
  | cons p t ih =>
    obtain ⟨g, z⟩ := p
    unfold keepP at *
    rw [looseL_cons, List.filter_append, List.filter_cons, ← ih]
    by_cases e : g = n
    · have hb : pcB n (g, z) = true := by unfold pcB; simpa using e
      rw [hb, List.filter_replicate]
      simp [e]
    · have hb : pcB n (g, z) = false := by unfold pcB; simpa using e
      rw [hb, List.filter_replicate]
      simp [e, looseL_cons]
theorem Rel.drop {S : Sgs} {un : Pcs} {R : Rgs} {nx n : Int} {k : Nat} {bs : Bys} (h : Rel S un R nx) (hS : SS S) (hR : R.Pairwise fun p q => p.1 < q.1) (hk : R[k]? = some (n, bs)) : Rel (dS S n) (keepP n un) (R.take k ++ R.drop (k + 1)) nx := by
  have hkl := (List.getElem?_eq_some_iff.1 hk)
  have heq : R.take k ++ R.drop (k + 1) = R.filter fun p => decide (p.1 ≠ n) := by
    have e : R = R.take k ++ (n, bs) :: R.drop (k + 1) := by
      conv => lhs; rw [← List.take_append_drop k R, List.drop_eq_getElem_cons hkl.1, hkl.2]
    have hR2 := hR
    rw [e] at hR2
    obtain ⟨a1, a2, a3⟩ := List.pairwise_append.1 hR2
    obtain ⟨b1, b2⟩ := List.pairwise_cons.1 a2
    conv => rhs; rw [e]
    rw [List.filter_append, List.filter_cons, if_neg (by simp), List.filter_eq_self.2 fun p hp => ?_, List.filter_eq_self.2 fun p hp => ?_]
    · have := b1 p hp
      exact decide_eq_true (by show p.1 ≠ n; have h9 : n < p.1 := this; omega)
    · have h9 : p.1 < n := a3 p hp _ List.mem_cons_self
      exact decide_eq_true (by show p.1 ≠ n; omega)
  rw [heq]
  obtain ⟨T, t1, t2, t3, t4⟩ := h.marks
  refine ⟨?_, fun m ds hm => ?_, T.filter (fun x => decide (x.2 ≠ n)), t1.filter _, ?_, fun x hx => t3 x (List.mem_filter.1 hx).1, fun m ds hm => ?_⟩
  · have e1 : (R.filter fun p => decide (p.1 ≠ n)).map Prod.fst = (R.map Prod.fst).filter fun m => decide (m ≠ n) := by rw [List.filter_map]; rfl
    have e2 : (dS S n).map Prod.fst = (S.map Prod.fst).filter fun m => decide (m ≠ n) := by unfold dS; rw [List.filter_map]; rfl
    rw [e1, e2, h.keys]
  · obtain ⟨h1, h2⟩ := List.mem_filter.1 hm
    have h3 : m ≠ n := of_decide_eq_true h2
    rw [gS_drop, if_neg h3]
    exact h.txt m ds h1
  · rw [looseL_keep, ← t2, List.filter_map]
    rfl
  · obtain ⟨h1, h2⟩ := List.mem_filter.1 hm
    have h3 : m ≠ n := of_decide_eq_true h2
    obtain ⟨c, hc⟩ := t4 m ds h1
    refine ⟨c, hc.trans ?_⟩
    congr 1
    unfold Tn
    rw [List.filter_filter]
    congr 1
    refine List.filter_congr fun x _ => ?_
    by_cases e : x.2 = m
    · rw [e]; simp [h3]
    · simp [e]
theorem SS_crash : ∀ (un : Pcs) (k : Int) (S : Sgs), SS S → SS (crash k S un)
  | [], k, S, h => h
  | p :: t, k, S, h => by rw [crash]; exact SS_crash t _ _ (SS_cut h)
theorem mkL_eq {T : List (Int × Int)} (h : ∀ x ∈ T, 0 ≤ x.1) {bs : Bys} {n : Int} {k : Nat} (hb : bs.map Prod.snd = List.replicate k (-1) ++ Tn T n) : mkL bs = Tn T n := by
  have e : mkL bs = (bs.map Prod.snd).filter fun y => decide (0 ≤ y) := by unfold mkL; rw [List.filter_map]; rfl
  rw [e, hb, List.filter_append, List.filter_eq_nil_iff.2 fun y hy => ?_, List.filter_eq_self.2 fun y hy => ?_, List.nil_append]
  · unfold Tn at hy
    obtain ⟨x, hx, rfl⟩ := List.mem_map.1 hy
    exact decide_eq_true (h x (List.mem_filter.1 hx).1)
  · rw [List.eq_of_mem_replicate hy]
    decide
theorem cnt_marks {S : Sgs} {un : Pcs} {R : Rgs} {nx : Int} (h : Rel S un R nx) (hu : UN S un) (hR : R.Pairwise fun p q => p.1 < q.1) {T : List (Int × Int)} (t2 : T.map Prod.snd = looseL un) (t3 : ∀ x ∈ T, 0 ≤ x.1)
    (t4 : ∀ n bs, (n, bs) ∈ R → ∃ k, bs.map Prod.snd = List.replicate k (-1) ++ Tn T n) (x : Int) : cntL (mksR R) x = (T.filter fun y => decide (y.1 < x)).length := by
  have e1 : mksR R = (R.map Prod.fst).flatMap (Tn T) := by
    have key : ∀ l : Rgs, (∀ p ∈ l, p ∈ R) → mksR l = (l.map Prod.fst).flatMap (Tn T) := fun l => by
      induction l with
      | nil => intro _; rfl
      | cons p t ih =>
        intro hl
        obtain ⟨c, hc⟩ := t4 p.1 p.2 (hl p List.mem_cons_self)
        have ih2 := ih fun q hq => hl q (List.mem_cons_of_mem _ hq)
        unfold mksR at *
        rw [List.flatMap_cons, List.map_cons, List.flatMap_cons, ih2, mkL_eq t3 hc]
    exact key R fun p hp => hp
  have hnd : (R.map Prod.fst).Nodup := by
    unfold List.Nodup
    rw [List.pairwise_map]
    exact hR.imp fun h => by omega
  unfold cntL
  rw [← List.countP_eq_length_filter, e1, Tn_sum _ T _ hnd (T_keys h hu t2), List.countP_map, List.countP_eq_length_filter]
  rfl
theorem cnt_mono (M : List Int) {a b : Int} (h : a ≤ b) : cntL M a ≤ cntL M b := by
  unfold cntL
  rw [← List.countP_eq_length_filter, ← List.countP_eq_length_filter]
  exact List.countP_mono_left fun x _ hx => decide_eq_true (by have := of_decide_eq_true hx; omega)
theorem Rel.crash {S : Sgs} {un : Pcs} {R : Rgs} {nx : Int} (h : Rel S un R nx) (hS : SS S) (hu : UN S un) (hR : R.Pairwise fun p q => p.1 < q.1) (keep : Int) : Rel (crash keep S un) [] (R.map (krR (mksR R) keep)) nx := by
  obtain ⟨T, t1, t2, t3, t4⟩ := h.marks
  have t30 : ∀ x ∈ T, 0 ≤ x.1 := fun x hx => (t3 x hx).1
  have hcm := cnt_marks h hu hR t2 t30 t4
  refine ⟨?_, fun n ds hm => ?_, [], List.Pairwise.nil, rfl, fun x hx => (by cases hx), fun n ds hm => ?_⟩
  · have e1 : (R.map (krR (mksR R) keep)).map Prod.fst = R.map Prod.fst := by rw [List.map_map]; rfl
    rw [e1, h.keys]
    refine sorted_ext (List.pairwise_map.2 hS) (List.pairwise_map.2 (SS_crash un keep S hS)) fun m => ?_
    rw [gS_keys, gS_keys, crash_all un keep S hu]
    cases gS S m <;> simp
  · obtain ⟨p, hp, e⟩ := List.mem_map.1 hm
    injection e with e1 e2
    obtain ⟨m, bs⟩ := p
    dsimp only at e1 e2
    subst e1 e2
    rw [crash_all un keep S hu, h.txt m bs hp, Option.map_some]
    congr 1
    obtain ⟨c, hc⟩ := t4 m bs hp
    have hPs : ∀ b : Int × Int, keepB (mksR R) keep b = (decide (b.2 < 0) || decide ((cntL (mksR R) b.2 : Int) < keep)) := fun b => rfl
    have hpre : bs.filter (keepB (mksR R) keep) = bs.take (bs.countP (keepB (mksR R) keep)) := by
      apply filter_take
      have hq : (bs.map Prod.snd).Pairwise fun a b => (decide (b < 0) || decide ((cntL (mksR R) b : Int) < keep)) = true → (decide (a < 0) || decide ((cntL (mksR R) a : Int) < keep)) = true := by
        rw [hc]
        refine List.pairwise_append.2 ⟨?_, ?_, fun a ha b hb _ => ?_⟩
        · refine List.pairwise_replicate.2 (Or.inr fun _ => ?_)
          simp
        · unfold Tn
          refine List.pairwise_map.2 ?_
          refine List.Pairwise.imp_of_mem ?_ (t1.filter _)
          intro a b ha hb hab hp
          have h0 := t30 b (List.mem_filter.1 hb).1
          rw [Bool.or_eq_true] at hp ⊢
          rcases hp with hp | hp
          · have := of_decide_eq_true hp; omega
          · refine Or.inr (decide_eq_true ?_)
            have h8 := of_decide_eq_true hp
            have h9 := cnt_mono (mksR R) (Int.le_of_lt hab)
            omega
        · rw [List.eq_of_mem_replicate ha]
          simp
      exact List.pairwise_map.1 hq
    have hcount : bs.countP (keepB (mksR R) keep) = bs.length - loose un m + ((looseL un).take keep.toNat).count m := by
      have e1 : bs.countP (keepB (mksR R) keep) = (bs.map Prod.snd).countP fun b => (decide (b < 0) || decide ((cntL (mksR R) b : Int) < keep)) := by
        rw [List.countP_map]; rfl
      have e2 : bs.length = c + loose un m := by
        have h9 := congrArg List.length hc
        rw [List.length_map, List.length_append, List.length_replicate, Tn_len, t2, looseL_count] at h9
        exact h9
      have e3 : (Tn T m).countP (fun b => (decide (b < 0) || decide ((cntL (mksR R) b : Int) < keep))) = ((looseL un).take keep.toNat).count m := by
        have e4 : (Tn T m).countP (fun b => (decide (b < 0) || decide ((cntL (mksR R) b : Int) < keep))) = ((T.filter fun x => decide (x.2 = m)).filter fun x => decide ((T.filter fun y => decide (y.1 < x.1)).length < keep.toNat)).length := by
          unfold Tn
          rw [List.countP_map, List.countP_eq_length_filter]
          congr 1
          refine List.filter_congr fun x hx => ?_
          have h0 := t30 x (List.mem_filter.1 hx).1
          show (decide (x.1 < 0) || decide ((cntL (mksR R) x.1 : Int) < keep)) = _
          rw [decide_eq_false (show ¬ x.1 < 0 by omega), Bool.false_or, hcm x.1]
          by_cases hh : (T.filter fun y => decide (y.1 < x.1)).length < keep.toNat
          · rw [decide_eq_true hh, decide_eq_true (by omega)]
          · rw [decide_eq_false hh, decide_eq_false (by omega)]
        rw [e4, List.filter_filter]
        have e5 : (T.filter fun a => (decide ((T.filter fun y => decide (y.1 < a.1)).length < keep.toNat) && decide (a.2 = m))) = (T.take keep.toNat).filter fun x => decide (x.2 = m) := by
          rw [← rank_take t1 keep.toNat, List.filter_filter]
          refine List.filter_congr fun x _ => ?_
          rw [Bool.and_comm]
        rw [e5, ← t2, ← List.map_take, ← Tn_len]
        unfold Tn
        rw [List.length_map]
      rw [e1, hc, List.countP_append, e3, e2]
      have e6 : (List.replicate c (-1 : Int)).countP (fun b => (decide (b < 0) || decide ((cntL (mksR R) b : Int) < keep))) = c := by
        rw [List.countP_replicate]
        simp
      rw [e6]
      omega
    rw [keptL, List.map_map, hpre, List.map_take, hcount, List.length_map]
    rfl
  · obtain ⟨p, hp, e⟩ := List.mem_map.1 hm
    injection e with e1 e2
    subst e1 e2
    refine ⟨(keptL (mksR R) keep p.2).length, ?_⟩
    rw [show Tn [] _ = [] from rfl, List.append_nil]
    refine List.eq_replicate_iff.2 ⟨by rw [List.length_map], fun y hy => ?_⟩
    obtain ⟨z, hz, rfl⟩ := List.mem_map.1 hy
    unfold keptL at hz
    obtain ⟨q, _, rfl⟩ := List.mem_map.1 hz
    rfl
end Go.Proofs.Ytomeipjglnpciaa
