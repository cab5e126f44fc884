/- What is asked of a path that is matched with itself: the mathematics. -/
import Derived.Test.YtcedckkmdpecmaaDoorMtNN
namespace Go.Proofs.YtcedckkmdpecmaaDoor
open Go.RowKit
set_option linter.unusedVariables false
set_option linter.unusedSimpArgs false

theorem mb_all (s : List UInt8) : mb [42] s = true := (mb_star [] s).2 ⟨s.length, by omega, by simp [mb]⟩
theorem dl_extract (x : ByteArray) (a b : Nat) : dl (x.extract a b) = ((dl x).drop a).take (b - a) := by
  unfold dl
  rw [ByteArray.data_extract, Array.toList_extract]
theorem MM_pre {u v : List UInt8} (h42 : (42 : UInt8) ∉ u) (h36 : (36 : UInt8) ∉ u) : MM u (u ++ v) = true := by
  rw [MM_open h36, mb_app h42]
  exact ⟨v, rfl, mb_all v⟩
theorem MM_dollar {u : List UInt8} (h42 : (42 : UInt8) ∉ u) (v : List UInt8) : MM (u ++ [36]) (u ++ v) = v.isEmpty := by
  rw [MM_whole, Bool.eq_iff_iff]
  have := mb_app h42 [] (u ++ v)
  rw [List.append_nil] at this
  rw [this]
  constructor
  · rintro ⟨t, h1, h2⟩
    rw [mb_nil] at h2
    subst h2
    have := congrArg List.length h1
    simp at this
    simp [this]
  · intro h
    have : v = [] := by simpa using h
    subst this
    exact ⟨[], rfl, by simp [mb]⟩
theorem MM_mid {u v : List UInt8} (hu : (42 : UInt8) ∉ u) (hv : (42 : UInt8) ∉ v) (y : List UInt8) : MM (u ++ [42] ++ v ++ [36]) (u ++ y ++ v) = true := by
  rw [MM_whole, List.append_assoc, List.append_assoc u y v, mb_app hu]
  refine ⟨y ++ v, rfl, (mb_star _ _).2 ⟨y.length, by simp, ?_⟩⟩
  rw [List.drop_left]
  have := mb_app hv [] v
  rw [List.append_nil] at this
  exact this.2 ⟨[], by simp, by simp [mb]⟩
/-- What is asked of a path without signs that mean something. -/
structure OwnF (p q u v pd pq usvd uqv : ByteArray) : Prop where
  f1 : MM (dl (nfB p)) (dl (nfB p)) = true
  f2 : MM (dl (nfB u)) (dl (nfB p)) = true
  f3 : MM (dl (nfB pd)) (dl (nfB p)) = true
  f4 : MM (dl (nfB p)) (dl (nfB pq)) = true
  f5 : MM (dl (nfB pd)) (dl (nfB pq)) = (dl q).isEmpty
  f6 : MM (dl (nfB ⟨#[42]⟩)) (dl (nfB p)) = true
  f7 : MM (dl (nfB usvd)) (dl (nfB uqv)) = true
theorem own_of {p q u v : ByteArray} (hp : ∀ c ∈ dl p, c ≠ 42 ∧ c ≠ 36 ∧ c ≠ 37) (hq : ∀ c ∈ dl q, c ≠ 37) (hs : dl p = dl u ++ dl v) :
    OwnF p q u v (p ++ ⟨#[36]⟩) (p ++ q) (u ++ ⟨#[42]⟩ ++ v ++ ⟨#[36]⟩) (u ++ q ++ v) := by
  have pu : ∀ c ∈ dl u, c ≠ 42 ∧ c ≠ 36 ∧ c ≠ 37 := fun c hc => hp c (by rw [hs]; simp [hc])
  have pv : ∀ c ∈ dl v, c ≠ 42 ∧ c ≠ 36 ∧ c ≠ 37 := fun c hc => hp c (by rw [hs]; simp [hc])
  have no (x : ByteArray) (h : ∀ c ∈ dl x, c ≠ 42 ∧ c ≠ 36 ∧ c ≠ 37) : (42 : UInt8) ∉ NN (dl x) ∧ (36 : UInt8) ∉ NN (dl x) :=
    ⟨NN_no42 fun hc => (h _ hc).1 rfl, NN_no36 fun hc => (h _ hc).2.1 rfl⟩
  have s42 : dl ⟨#[42]⟩ = [42] := rfl
  have s36 : dl ⟨#[36]⟩ = [36] := rfl
  have n42 : NN [42] = [42] := by rw [NN_cons, nn_42]; rfl
  have n36 : NN [36] = [36] := by rw [NN_cons, nn_36]; rfl
  have m42 : ∀ c ∈ ([42] : List UInt8), c ≠ 37 := by simp
  have m36 : ∀ c ∈ ([36] : List UInt8), c ≠ 37 := by simp
  have pl : ∀ c ∈ dl p, c ≠ 37 := fun c hc => (hp c hc).2.2
  have ul : ∀ c ∈ dl u, c ≠ 37 := fun c hc => (pu c hc).2.2
  have vl : ∀ c ∈ dl v, c ≠ 37 := fun c hc => (pv c hc).2.2
  have app {a b : List UInt8} (ha : ∀ c ∈ a, c ≠ 37) (hb : ∀ c ∈ b, c ≠ 37) : ∀ c ∈ a ++ b, c ≠ 37 := fun c hc => by
    rcases List.mem_append.1 hc with h | h
    · exact ha c h
    · exact hb c h
  have ep : dl (nfB p) = NN (dl p) := nf_dl p pl
  have eu : dl (nfB u) = NN (dl u) := nf_dl u ul
  have es : NN (dl p) = NN (dl u) ++ NN (dl v) := by rw [hs, NN_append]
  have epd : dl (nfB (p ++ ⟨#[36]⟩)) = NN (dl p) ++ [36] := by
    rw [nf_dl, dl_append, s36, NN_append, n36]
    rw [dl_append, s36]
    exact app pl m36
  have epq : dl (nfB (p ++ q)) = NN (dl p) ++ NN (dl q) := by
    rw [nf_dl, dl_append, NN_append]
    rw [dl_append]
    exact app pl hq
  have est : dl (nfB ⟨#[42]⟩) = [42] := by rw [nf_dl, s42, n42]; rw [s42]; exact m42
  have e7 : dl (nfB (u ++ ⟨#[42]⟩ ++ v ++ ⟨#[36]⟩)) = NN (dl u) ++ [42] ++ NN (dl v) ++ [36] := by
    rw [nf_dl, dl_append, dl_append, dl_append, s36, s42, NN_append, NN_append, NN_append, n36, n42]
    rw [dl_append, dl_append, dl_append, s36, s42]
    exact app (app (app ul m42) vl) m36
  have e8 : dl (nfB (u ++ q ++ v)) = NN (dl u) ++ NN (dl q) ++ NN (dl v) := by
    rw [nf_dl, dl_append, dl_append, NN_append, NN_append]
    rw [dl_append, dl_append]
    exact app (app ul hq) vl
  refine ⟨?_, ?_, ?_, ?_, ?_, ?_, ?_⟩
  · rw [ep]
    have := MM_pre (u := NN (dl p)) (v := []) (no p hp).1 (no p hp).2
    rwa [List.append_nil] at this
  · rw [eu, ep, es]
    exact MM_pre (no u pu).1 (no u pu).2
  · rw [epd, ep]
    have := MM_dollar (u := NN (dl p)) (no p hp).1 []
    rwa [List.append_nil] at this
  · rw [ep, epq]
    exact MM_pre (no p hp).1 (no p hp).2
  · rw [epd, epq, MM_dollar (no p hp).1, Bool.eq_iff_iff]
    rw [List.isEmpty_iff, List.isEmpty_iff]
    exact NN_empty
  · rw [est, ep, MM_open (by simp)]
    exact (mb_star _ _).2 ⟨0, by omega, mb_all _⟩
  · rw [e7, e8]
    exact MM_mid (no u pu).1 (no v pv).1 _
end Go.Proofs.YtcedckkmdpecmaaDoor
