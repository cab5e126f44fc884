/- Package url: whose a place is and what is asked for, as a text: from the text all of it can be told. No program here. -/
import Derived.Test.YtcdodpkfhkfnkaaDoorUrMath
namespace Go.Proofs.YtcdodpkfhkfnkaaDoor
set_option linter.unusedVariables false
set_option linter.unusedSimpArgs false

/-- A number's digits. -/
def decD (n : Nat) : List Int := if n < 10 then [48 + (n : Int)] else decD (n / 10) ++ [48 + ((n % 10 : Nat) : Int)]
termination_by n
theorem decD_low {n : Nat} (h : n < 10) : decD n = [48 + (n : Int)] := by rw [decD, if_pos h]
theorem decD_high {n : Nat} (h : ¬ n < 10) : decD n = decD (n / 10) ++ [48 + ((n % 10 : Nat) : Int)] := by rw [decD, if_neg h]
theorem pvI_snoc (n : Int) (l : List Int) (c : Int) : pvI n (l ++ [c]) = 10 * pvI n l + (c - 48) := by
  unfold pvI
  rw [List.foldl_append]
  rfl
theorem decD_val : ∀ (k n : Nat), n < k → pvI 0 (decD n) = n ∧ pdig (decD n)
  | 0, n, h => by omega
  | k + 1, n, h => by
    by_cases h10 : n < 10
    · rw [decD_low h10]
      refine ⟨?_, fun c hc => ?_⟩
      · show 10 * 0 + (48 + (n : Int) - 48) = n
        omega
      · rw [List.mem_singleton] at hc
        omega
    · obtain ⟨ih1, ih2⟩ := decD_val k (n / 10) (by omega)
      rw [decD_high h10]
      refine ⟨?_, fun c hc => ?_⟩
      · rw [pvI_snoc, ih1]
        omega
      · rcases List.mem_append.1 hc with hc | hc
        · exact ih2 c hc
        · rw [List.mem_singleton] at hc
          omega
theorem decD_inj {a b : Nat} (h : decD a = decD b) : a = b := by
  have h1 := (decD_val (a + 1) a (by omega)).1
  have h2 := (decD_val (b + 1) b (by omega)).1
  rw [h] at h1
  omega
theorem cut_at_sign {s : Int} : ∀ {A A' B B' : List Int}, s ∉ A → s ∉ A' → A ++ s :: B = A' ++ s :: B' → A = A' ∧ B = B'
  | [], [], B, B', _, _, h => by simp at h; exact ⟨rfl, h⟩
  | [], x :: A', B, B', _, h2, h => by
    simp at h
    exact absurd (by simp [h.1]) h2
  | x :: A, [], B, B', h1, _, h => by
    simp at h
    exact absurd (by simp [h.1]) h1
  | x :: A, y :: A', B, B', h1, h2, h => by
    simp at h
    obtain ⟨rfl, h⟩ := h
    obtain ⟨rfl, hb⟩ := cut_at_sign (fun e => h1 (by simp [e])) (fun e => h2 (by simp [e])) h
    exact ⟨rfl, hb⟩
theorem cut_or_not {s : Int} {A A' B B' : List Int} {b b' : Bool} (h1 : s ∉ A) (h2 : s ∉ A') (h : A ++ (if b then s :: B else []) = A' ++ (if b' then s :: B' else [])) : A = A' ∧ b = b' ∧ (b = true → B = B') := by
  cases b <;> cases b'
  · simp at h
    exact ⟨h, rfl, fun e => by cases e⟩
  · exfalso
    simp at h
    exact h1 (by rw [h]; simp)
  · exfalso
    simp at h
    exact h2 (by rw [← h]; simp)
  · simp only [if_true] at h
    obtain ⟨rfl, rfl⟩ := cut_at_sign h1 h2 h
    exact ⟨rfl, rfl, fun _ => rfl⟩
/-- A place in its parts: is it the secure scheme; host, port, path, query, and whether there is a query. -/
structure Ur where
  sec : Bool
  host : List Int
  port : Nat
  path : List Int
  query : List Int
  asked : Bool
def usual (sec : Bool) : Nat := if sec then 443 else 80
def schI (sec : Bool) : List Int := if sec then [104, 116, 116, 112, 115] else [104, 116, 116, 112]
def keyU (u : Ur) : List Int := schI u.sec ++ [58, 47, 47] ++ u.host ++ (if u.port ≠ usual u.sec then 58 :: decD u.port else [])
def tgtU (u : Ur) : List Int := u.path ++ (if u.asked then 63 :: u.query else [])
/-- As they are behind the parsing. -/
structure UrOk (u : Ur) : Prop where
  host : ∀ c ∈ u.host, c ≠ 47 ∧ c ≠ 58
  path : ∃ p, u.path = 47 :: p
  plain : (63 : Int) ∉ u.path
  none : u.asked = false → u.query = []
theorem behind_no {u : Ur} (h : UrOk u) : (47 : Int) ∉ u.host ++ (if u.port ≠ usual u.sec then 58 :: decD u.port else []) := by
  rw [List.mem_append]
  rintro (hm | hm)
  · exact (h.host 47 hm).1 rfl
  · split at hm
    · rcases List.mem_cons.1 hm with h1 | h1
      · cases h1
      · have := (decD_val (u.port + 1) u.port (by omega)).2 47 h1
        omega
    · cases hm
theorem behind_inj {h h' : List Int} {p p' d : Nat} (h1 : ∀ c ∈ h, c ≠ 47 ∧ c ≠ 58) (h2 : ∀ c ∈ h', c ≠ 47 ∧ c ≠ 58) (e : h ++ (if p ≠ d then 58 :: decD p else []) = h' ++ (if p' ≠ d then 58 :: decD p' else [])) : h = h' ∧ p = p' := by
  have e' : h ++ (if decide (p ≠ d) = true then 58 :: decD p else []) = h' ++ (if decide (p' ≠ d) = true then 58 :: decD p' else []) := by simpa using e
  obtain ⟨k1, k2, k3⟩ := cut_or_not (s := 58) (fun hm => (h1 58 hm).2 rfl) (fun hm => (h2 58 hm).2 rfl) e'
  refine ⟨k1, ?_⟩
  by_cases hd : p = d
  · have : decide (p' ≠ d) = false := by rw [← k2]; simp [hd]
    simp at this
    omega
  · exact decD_inj (k3 (by simpa using hd))
theorem text_inj {u v : Ur} (hu : UrOk u) (hv : UrOk v) (h : keyU u ++ tgtU u = keyU v ++ tgtU v) : u = v := by
  obtain ⟨us, uh, up, ua, uq, uk⟩ := u
  obtain ⟨vs, vh, vp, va, vq, vk⟩ := v
  obtain ⟨pu, epu⟩ := hu.path
  obtain ⟨pv, epv⟩ := hv.path
  have bu := behind_no hu
  have bv := behind_no hv
  simp only at epu epv bu bv
  subst epu
  subst epv
  have hsec : us = vs := by
    cases us <;> cases vs <;> first | rfl | (exfalso; simp [keyU, schI] at h)
  subst hsec
  have hrest : (uh ++ (if up ≠ usual us then 58 :: decD up else [])) ++ 47 :: (pu ++ (if uk then 63 :: uq else [])) = (vh ++ (if vp ≠ usual us then 58 :: decD vp else [])) ++ 47 :: (pv ++ (if vk then 63 :: vq else [])) := by
    have h' := h
    simp only [keyU, tgtU, List.append_assoc] at h'
    have h2 := List.append_cancel_left h'
    have h3 := List.append_cancel_left h2
    simpa [List.append_assoc] using h3
  obtain ⟨k1, k2⟩ := cut_at_sign bu bv hrest
  obtain ⟨rfl, rfl⟩ := behind_inj hu.host hv.host k1
  obtain ⟨rfl, rfl, k3⟩ := cut_or_not (s := 63) (fun hm => hu.plain (by simp [hm])) (fun hm => hv.plain (by simp [hm])) k2
  have : uq = vq := by
    cases uk with
    | false =>
      have e1 : uq = [] := hu.none rfl
      have e2 : vq = [] := hv.none rfl
      exact e1.trans e2.symm
    | true => exact k3 rfl
  subst this
  rfl
end Go.Proofs.YtcdodpkfhkfnkaaDoor
