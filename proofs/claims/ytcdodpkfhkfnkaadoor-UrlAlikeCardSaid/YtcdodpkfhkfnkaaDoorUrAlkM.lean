/- Package url: letters of other sizes, the usual port, and what is behind the mark, change nothing. No program here. -/
import Derived.Test.YtcdodpkfhkfnkaaDoorUrOkM
namespace Go.Proofs.YtcdodpkfhkfnkaaDoor
open Go.RowKit
set_option linter.unusedVariables false
set_option linter.unusedSimpArgs false

/-- A letter, digit, or sign of a name, small. -/
def hok (c : Int) : Prop := (97 ≤ c ∧ c ≤ 122) ∨ (48 ≤ c ∧ c ≤ 57) ∨ c = 45 ∨ c = 46
theorem lw_of_hok {c : Int} (h : hok c) : lwI c = c := by unfold hok at h; unfold lwI; rw [if_neg (by omega)]
theorem fnd_app {L : List Int} {A B : List Int} (hA : ∀ c ∈ A, c ∉ L) : fndI L (A ++ B) = A.length + fndI L B := by
  induction A with
  | nil => simp
  | cons x A ih =>
    rw [List.cons_append]
    conv => lhs; unfold fndI
    rw [if_neg (hA x (by simp)), ih (fun c hc => hA c (by simp [hc])), List.length_cons]
    omega
theorem fnd_hit {L : List Int} {A B : List Int} {x : Int} (hA : ∀ c ∈ A, c ∉ L) (hx : x ∈ L) : fndI L (A ++ x :: B) = A.length := by
  rw [fnd_app hA]
  unfold fndI
  rw [if_pos hx]
  rfl
theorem fnd_none {L A : List Int} (hA : ∀ c ∈ A, c ∉ L) : fndI L A = A.length := by
  have := fnd_app (B := []) hA
  rw [List.append_nil] at this
  rw [this]
  rfl
/-- What the two texts share. -/
structure Alk (H B R : List Int) : Prop where
  h : ∀ c ∈ H, hok c
  b : B.map lwI = H
  r : (35 : Int) ∉ R
theorem Alk.bl {H B R : List Int} (h : Alk H B R) : B.length = H.length := by rw [← h.b, List.length_map]
theorem Alk.bc {H B R : List Int} (h : Alk H B R) : ∀ c ∈ B, c ≠ 47 ∧ c ≠ 63 ∧ c ≠ 35 ∧ c ≠ 58 := by
  intro c hc
  have h1 := h.h (lwI c) (by rw [← h.b]; exact List.mem_map.2 ⟨c, hc, rfl⟩)
  unfold hok lwI at h1
  split at h1 <;> omega
theorem Alk.hc {H B R : List Int} (h : Alk H B R) : ∀ c ∈ H, c ≠ 47 ∧ c ≠ 63 ∧ c ≠ 35 ∧ c ≠ 58 := by
  intro c hc
  have h1 := h.h c hc
  unfold hok at h1
  omega
theorem stops_no {A : List Int} (h : ∀ c ∈ A, c ≠ 47 ∧ c ≠ 63 ∧ c ≠ 35 ∧ c ≠ 58) : ∀ c ∈ A, c ∉ stopsI := by
  intro c hc hm
  have := h c hc
  have : c = 47 ∨ c = 63 ∨ c = 35 := by simpa [stopsI] using hm
  omega
theorem colon_no {A : List Int} (h : ∀ c ∈ A, c ≠ 47 ∧ c ≠ 63 ∧ c ≠ 35 ∧ c ≠ 58) : ∀ c ∈ A, c ∉ [(58 : Int)] := by
  intro c hc hm
  have := h c hc
  rw [List.mem_singleton] at hm
  omega
theorem sch_is {l q : List Int} (h : (l.take 8).map lwI = [104, 116, 116, 112, 115, 58, 47, 47]) (hd : l.drop 8 = q) : schA l = some (true, q) := by
  unfold schA
  have h7 : ¬ (l.take 7).map lwI = [104, 116, 116, 112, 58, 47, 47] := by
    intro e
    have h2 : (l.take 8).take 7 = l.take 7 := by rw [List.take_take]; rfl
    have h3 := congrArg (List.take 7) h
    rw [← List.map_take, h2, e] at h3
    revert h3
    decide
  rw [if_neg h7, if_pos h, hd]
theorem alike_same {H B R M : List Int} (a : Alk H B R) (hl : H.length + R.length + M.length ≤ 200) :
    parI ([104, 116, 116, 112, 115, 58, 47, 47] ++ H ++ [47] ++ R) = parI ([104, 84, 84, 112, 115, 58, 47, 47] ++ B ++ [58, 52, 52, 51, 47] ++ R ++ [35] ++ M) := by
  have hbl := a.bl
  have e1 : schA ([104, 116, 116, 112, 115, 58, 47, 47] ++ H ++ [47] ++ R) = some (true, H ++ 47 :: R) := sch_is (by simp; decide) (by simp)
  have e2 : schA ([104, 84, 84, 112, 115, 58, 47, 47] ++ B ++ [58, 52, 52, 51, 47] ++ R ++ [35] ++ M) = some (true, (B ++ [58, 52, 52, 51]) ++ 47 :: (R ++ 35 :: M)) := sch_is (by simp; decide) (by simp)
  have hb4 : ∀ c ∈ B ++ [58, 52, 52, 51], c ∉ stopsI := by
    intro c hc
    rcases List.mem_append.1 hc with hc | hc
    · exact stops_no a.bc c hc
    · intro hm
      have h1 : c = 58 ∨ c = 52 ∨ c = 51 := by simpa using hc
      have h2 : c = 47 ∨ c = 63 ∨ c = 35 := by simpa [stopsI] using hm
      omega
  have f1 : fndI stopsI (H ++ 47 :: R) = H.length := fnd_hit (stops_no a.hc) (by decide)
  have f2 : fndI stopsI ((B ++ [58, 52, 52, 51]) ++ 47 :: (R ++ 35 :: M)) = (B ++ [58, 52, 52, 51]).length := fnd_hit hb4 (by decide)
  have hr : ∀ c ∈ (47 : Int) :: R, c ∉ [(35 : Int)] := by
    intro c hc hm
    rw [List.mem_singleton] at hm
    subst hm
    rcases List.mem_cons.1 hc with h | h
    · cases h
    · exact a.r h
  have k1 : backI (H ++ 47 :: R) = 47 :: R := by
    unfold backI
    rw [f1, List.drop_left, fnd_none hr, List.take_length]
  have k2 : backI ((B ++ [58, 52, 52, 51]) ++ 47 :: (R ++ 35 :: M)) = 47 :: R := by
    unfold backI
    rw [f2, List.drop_left, ← List.cons_append, fnd_hit hr (by simp), List.take_left]
  have t1 : (H ++ 47 :: R).take H.length = H := List.take_left
  have t2 : ((B ++ [58, 52, 52, 51]) ++ 47 :: (R ++ 35 :: M)).take (B ++ [58, 52, 52, 51]).length = B ++ [58, 52, 52, 51] := List.take_left
  have nm : nmOk B = nmOk H := by
    have hH : H.map lwI = H := by
      conv => rhs; rw [← List.map_id H]
      exact List.map_congr_left fun c hc => lw_of_hok (a.h c hc)
    rw [nm_labels, nm_labels, a.b, hH, hbl]
  have hH : H.map lwI = B.map lwI := by
    rw [a.b]
    conv => rhs; rw [← List.map_id H]
    exact List.map_congr_left fun c hc => lw_of_hok (a.h c hc)
  have au : authI (usI true) H = authI (usI true) (B ++ [58, 52, 52, 51]) := by
    unfold authI
    have g1 : fndI [58] H = H.length := fnd_none (colon_no a.hc)
    have g2 : fndI [58] (B ++ [58, 52, 52, 51]) = B.length := fnd_hit (colon_no a.bc) (by simp)
    have g3 : portD ((B ++ [58, 52, 52, 51]).drop (B.length + 1)) = 443 := by
      have : (B ++ [58, 52, 52, 51]).drop (B.length + 1) = [52, 52, 51] := by rw [← List.drop_drop, List.drop_left]; rfl
      rw [this]
      decide
    have hlt : B.length < (B ++ [58, 52, 52, 51]).length := by simp
    rw [g1, g2, List.take_length, List.take_left, nm, g3, if_neg (Nat.lt_irrefl _), if_pos hlt, hH]
    rfl
  unfold parI
  rw [if_neg (by simp; omega), if_neg (by simp; omega), e1, e2]
  simp only
  rw [f1, f2, t1, t2, k1, k2, au]
end Go.Proofs.YtcdodpkfhkfnkaaDoor
