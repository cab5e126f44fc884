/- Part of a chain: FnMath. -/
import Derived.Test.YtimkgaokcldgkaaGreatDoorFq02
import Derived.Test.YtimkgaokcldgkaaGreatDoorFq03
/- Package front, told by lists: the queues of hosts, where requests are, the Paths in memory. No program here. -/
namespace Go.Proofs.YtimkgaokcldgkaaGreatDoor
open Go Go.RowKit Go.Maps
set_option linter.unusedVariables false
set_option linter.unusedSimpArgs false
set_option maxRecDepth 10000

/-- A request without its Path. -/
def noP (r : Rq) : Rq := ⟨r.id, r.host, ⟨#[]⟩, r.prio, r.til⟩
structure Ft where
  per : Int
  mem : Int
  R : Int → List Rq
  hs : List (Int × Int)
  ps : List (Int × ByteArray)
def setR (R : Int → List Rq) (h : Int) (l : List Rq) : Int → List Rq := fun k => if k = h then l else R k
def insF (F : Ft) (h : Int) (r : Rq) : Ft := ⟨F.per, F.mem, setR F.R h (insQ (F.R h) (noP r)), pA F.hs r.id h, if (F.ps.length : Int) < F.mem then pA F.ps r.id r.path else F.ps⟩
def drpF (F : Ft) (h id : Int) : Ft := ⟨F.per, F.mem, setR F.R h ((F.R h).filter fun x => !decide (x.id = id)), dA F.hs id, dA F.ps id⟩
/-- What keep makes of the Paths. -/
def kepS (S : List (Int × ByteArray)) (mem : Int) (id : Int) (p : ByteArray) (S' : List (Int × ByteArray)) : Prop :=
  (((gA S id).isSome = true ∨ (S.length : Int) < mem) ∧ S' = pA S id p) ∨ (gA S id = none ∧ mem ≤ (S.length : Int) ∧ ∃ x, (gA S x).isSome = true ∧ S' = pA (dA S x) id p)
structure FtOk (F : Ft) : Prop where
  ids : ∀ id h, gA F.hs id = some h ↔ ∃ x ∈ F.R h, x.id = id
  nd : (F.hs.map Prod.fst).Nodup
  sub : ∀ id, (gA F.ps id).isSome = true → (gA F.hs id).isSome = true
  lim : (F.ps.length : Int) ≤ F.mem
  mem1 : 1 ≤ F.mem
  srt : ∀ h, Srt (F.R h)
theorem len_dA_in {κ α : Type} [DecidableEq κ] : ∀ {S : List (κ × α)} {n : κ}, (gA S n).isSome = true → (dA S n).length + 1 ≤ S.length
  | [], n, h => by cases h
  | (m, c) :: t, n, h => by
    unfold dA
    by_cases e : m = n
    · rw [List.filter_cons_of_neg (by simp [e])]
      have := List.length_filter_le (fun p : κ × α => decide (p.1 ≠ n)) t
      rw [List.length_cons]
      omega
    · rw [List.filter_cons_of_pos (by simp [e])]
      rw [gA, if_neg e] at h
      have := len_dA_in h
      unfold dA at this
      rw [List.length_cons, List.length_cons]
      omega
theorem dA_none {κ α : Type} [DecidableEq κ] : ∀ {S : List (κ × α)} {n : κ}, gA S n = none → dA S n = S
  | [], n, h => rfl
  | (m, c) :: t, n, h => by
    rw [gA] at h
    by_cases e : m = n
    · rw [if_pos e] at h; cases h
    · rw [if_neg e] at h
      unfold dA
      rw [List.filter_cons_of_pos (by simp [e])]
      have := dA_none h
      unfold dA at this
      rw [this]
theorem len_dA_nd {κ α : Type} [DecidableEq κ] : ∀ {S : List (κ × α)} {n : κ}, (S.map Prod.fst).Nodup → (gA S n).isSome = true → (dA S n).length + 1 = S.length
  | [], n, _, h => by cases h
  | (m, c) :: t, n, hn, h => by
    rw [List.map_cons, List.nodup_cons] at hn
    by_cases e : m = n
    · have h0 : gA t n = none := by
        cases hg : gA t n with
        | none => rfl
        | some v => exact absurd (gA_keys.2 (by rw [hg]; rfl)) (e ▸ hn.1)
      have h1 := dA_none h0
      unfold dA at h1 ⊢
      rw [List.filter_cons_of_neg (by simp [e]), h1]
      rfl
    · rw [gA, if_neg e] at h
      have := len_dA_nd hn.2 h
      unfold dA at this ⊢
      rw [List.filter_cons_of_pos (by simp [e]), List.length_cons, List.length_cons, this]
theorem len_pA_new {κ α : Type} [DecidableEq κ] {S : List (κ × α)} {n : κ} (b : α) (h : gA S n = none) : (pA S n b).length = S.length + 1 := by
  rw [len_pA, h]; rfl
theorem len_pA_le {κ α : Type} [DecidableEq κ] (S : List (κ × α)) (n : κ) (b : α) : (pA S n b).length ≤ S.length + 1 := by
  rw [len_pA]; split <;> omega
theorem FtOk.no {F : Ft} (h : FtOk F) {id : Int} (hn : gA F.hs id = none) (k : Int) : ∀ x ∈ F.R k, x.id ≠ id := fun x hx e => by
  have := (h.ids id k).2 ⟨x, hx, e⟩
  rw [hn] at this
  cases this
theorem FtOk.ins {F : Ft} (hF : FtOk F) (h : Int) (r : Rq) (hn : gA F.hs r.id = none) : FtOk (insF F h r) := by
  have hps : gA F.ps r.id = none := by
    cases hg : gA F.ps r.id with
    | none => rfl
    | some v =>
      have := hF.sub r.id (by rw [hg]; rfl)
      rw [hn] at this
      cases this
  refine ⟨fun id k => ?_, nd_put hF.nd _ _, fun id hi => ?_, ?_, hF.mem1, fun k => ?_⟩
  · show gA (pA F.hs r.id h) id = some k ↔ ∃ x ∈ setR F.R h (insQ (F.R h) (noP r)) k, x.id = id
    rw [gA_put]
    unfold setR
    by_cases e : id = r.id
    · subst e
      rw [if_pos rfl]
      constructor
      · intro e2
        injection e2 with e2
        rw [if_pos e2.symm]
        exact ⟨noP r, insQ_mem.2 (Or.inl rfl), rfl⟩
      · rintro ⟨x, hx, e2⟩
        by_cases e3 : k = h
        · rw [e3]
        · rw [if_neg e3] at hx
          exact absurd e2 (hF.no hn k x hx)
    · rw [if_neg e, hF.ids]
      by_cases e3 : k = h
      · rw [if_pos e3, e3]
        constructor
        · rintro ⟨x, hx, e2⟩
          exact ⟨x, insQ_mem.2 (Or.inr hx), e2⟩
        · rintro ⟨x, hx, e2⟩
          rcases insQ_mem.1 hx with hx | hx
          · subst hx; exact absurd e2.symm e
          · exact ⟨x, hx, e2⟩
      · rw [if_neg e3]
  · have hi : (gA (if (F.ps.length : Int) < F.mem then pA F.ps r.id r.path else F.ps) id).isSome = true := hi
    show (gA (pA F.hs r.id h) id).isSome = true
    rw [gA_put]
    by_cases e : id = r.id
    · rw [if_pos e]; rfl
    · rw [if_neg e]
      split at hi
      · rw [gA_put, if_neg e] at hi; exact hF.sub id hi
      · exact hF.sub id hi
  · show ((if (F.ps.length : Int) < F.mem then pA F.ps r.id r.path else F.ps).length : Int) ≤ F.mem
    split
    · rw [len_pA_new _ hps]; omega
    · exact hF.lim
  · show Srt (setR F.R h (insQ (F.R h) (noP r)) k)
    unfold setR
    split
    · exact srt_ins (hF.srt h) fun x hx => hF.no hn h x hx
    · exact hF.srt k
theorem FtOk.drp {F : Ft} (hF : FtOk F) {h id : Int} (hh : gA F.hs id = some h) : FtOk (drpF F h id) := by
  refine ⟨fun i k => ?_, nd_del hF.nd _, fun i hi => ?_, ?_, hF.mem1, fun k => ?_⟩
  · show gA (dA F.hs id) i = some k ↔ ∃ x ∈ setR F.R h ((F.R h).filter fun x => !decide (x.id = id)) k, x.id = i
    rw [gA_del]
    unfold setR
    by_cases e : i = id
    · rw [if_pos e]
      subst e
      constructor
      · intro e2; cases e2
      · rintro ⟨x, hx, e2⟩
        by_cases e3 : k = h
        · rw [if_pos e3] at hx
          obtain ⟨_, h2⟩ := List.mem_filter.1 hx
          simp [e2] at h2
        · rw [if_neg e3] at hx
          have := (hF.ids i k).2 ⟨x, hx, e2⟩
          rw [hh] at this
          injection this with this
          exact absurd this.symm e3
    · rw [if_neg e, hF.ids]
      by_cases e3 : k = h
      · rw [if_pos e3, e3]
        constructor
        · rintro ⟨x, hx, e2⟩
          exact ⟨x, List.mem_filter.2 ⟨hx, by rw [e2]; simp [e]⟩, e2⟩
        · rintro ⟨x, hx, e2⟩
          exact ⟨x, (List.mem_filter.1 hx).1, e2⟩
      · rw [if_neg e3]
  · have hi : (gA (dA F.ps id) i).isSome = true := hi
    show (gA (dA F.hs id) i).isSome = true
    rw [gA_del] at hi ⊢
    by_cases e : i = id
    · rw [if_pos e] at hi; cases hi
    · rw [if_neg e] at hi ⊢; exact hF.sub i hi
  · show ((dA F.ps id).length : Int) ≤ F.mem
    have := len_dA F.ps id
    have := hF.lim
    omega
  · show Srt (setR F.R h ((F.R h).filter fun x => !decide (x.id = id)) k)
    unfold setR
    split
    · exact srt_filter (hF.srt h) _
    · exact hF.srt k
theorem FtOk.kep {F : Ft} (hF : FtOk F) {id : Int} {p : ByteArray} {S' : List (Int × ByteArray)} (hi : (gA F.hs id).isSome = true) (hk : kepS F.ps F.mem id p S') : FtOk ⟨F.per, F.mem, F.R, F.hs, S'⟩ := by
  refine ⟨hF.ids, hF.nd, fun i h2 => ?_, ?_, hF.mem1, hF.srt⟩
  · have h2 : (gA S' i).isSome = true := h2
    show (gA F.hs i).isSome = true
    by_cases e : i = id
    · rw [e]; exact hi
    · rcases hk with ⟨_, rfl⟩ | ⟨_, _, x, _, rfl⟩
      · rw [gA_put, if_neg e] at h2; exact hF.sub i h2
      · rw [gA_put, if_neg e, gA_del] at h2
        split at h2
        · cases h2
        · exact hF.sub i h2
  · show (S'.length : Int) ≤ F.mem
    have h1 := hF.lim
    rcases hk with ⟨h, rfl⟩ | ⟨hn, _, x, hx, rfl⟩
    · rcases h with h | h
      · rw [len_pA, h]; exact h1
      · have := len_pA_le F.ps id p; omega
    · have h3 := len_dA_in hx
      have := len_pA_le (dA F.ps x) id p
      omega
/-- What all Paths are, as far as they are in memory. -/
def PsOk (F : Ft) (want : Int → ByteArray) : Prop := ∀ i p, gA F.ps i = some p → p = want i
theorem PsOk.ins {F : Ft} {want : Int → ByteArray} (h : PsOk F want) (k : Int) (r : Rq) (hw : r.path = want r.id) : PsOk (insF F k r) want := fun i p hp => by
  have hp : gA (if (F.ps.length : Int) < F.mem then pA F.ps r.id r.path else F.ps) i = some p := hp
  split at hp
  · rw [gA_put] at hp
    split at hp
    · rename_i e
      injection hp with hp
      rw [← hp, e, hw]
    · exact h i p hp
  · exact h i p hp
theorem PsOk.drp {F : Ft} {want : Int → ByteArray} (h : PsOk F want) (k id : Int) : PsOk (drpF F k id) want := fun i p hp => by
  have hp : gA (dA F.ps id) i = some p := hp
  rw [gA_del] at hp
  split at hp
  · cases hp
  · exact h i p hp
theorem PsOk.kep {F : Ft} {want : Int → ByteArray} (h : PsOk F want) {id : Int} {S' : List (Int × ByteArray)} (hk : kepS F.ps F.mem id (want id) S') : PsOk ⟨F.per, F.mem, F.R, F.hs, S'⟩ want := fun i p hp => by
  have hp : gA S' i = some p := hp
  rcases hk with ⟨_, rfl⟩ | ⟨_, _, x, _, rfl⟩
  · rw [gA_put] at hp
    split at hp
    · rename_i e; injection hp with hp; rw [← hp, e]
    · exact h i p hp
  · rw [gA_put] at hp
    split at hp
    · rename_i e; injection hp with hp; rw [← hp, e]
    · rw [gA_del] at hp
      split at hp
      · cases hp
      · exact h i p hp
end Go.Proofs.YtimkgaokcldgkaaGreatDoor
