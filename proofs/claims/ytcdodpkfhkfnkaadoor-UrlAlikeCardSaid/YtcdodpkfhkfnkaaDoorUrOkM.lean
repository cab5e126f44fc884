/- Package url: what holds of every place that is read: from its text all of it can be told. No program here. -/
import Derived.Test.YtcdodpkfhkfnkaaDoorUrKy
import Derived.Test.YtcdodpkfhkfnkaaDoorUrCleansL
namespace Go.Proofs.YtcdodpkfhkfnkaaDoor
open Go.RowKit
set_option linter.unusedVariables false
set_option linter.unusedSimpArgs false

theorem spl_in (s : Int) : ∀ (l p : List Int), p ∈ splI s l → ∀ c ∈ p, c ∈ l
  | [], p, h, c, hc => by
    have : p = [] := by simpa [splI] using h
    rw [this] at hc
    cases hc
  | x :: t, p, h, c, hc => by
    cases hs : splI s t with
    | nil => exact absurd hs (splI_ne _ _)
    | cons q qs =>
      have ih := fun r hr => spl_in s t r (by rw [hs]; exact hr) c
      by_cases hx : x = s
      · subst hx
        rw [splI_sign, hs] at h
        rcases List.mem_cons.1 h with rfl | h
        · cases hc
        · exact List.mem_cons_of_mem _ (ih p h hc)
      · rw [splI_other hx hs] at h
        rcases List.mem_cons.1 h with rfl | h
        · rcases List.mem_cons.1 hc with rfl | hc
          · exact List.mem_cons_self
          · exact List.mem_cons_of_mem _ (ih q (by simp) hc)
        · exact List.mem_cons_of_mem _ (ih p (by simp [h]) hc)
theorem join_in : ∀ (ks : List (List Int)) (c : Int), c ∈ joinI ks → c = 47 ∨ ∃ p ∈ ks, c ∈ p
  | [], c, h => by cases h
  | [p], c, h => Or.inr ⟨p, by simp, h⟩
  | p :: q :: ps, c, h => by
    have h' : c ∈ p ++ 47 :: joinI (q :: ps) := h
    rcases List.mem_append.1 h' with h | h
    · exact Or.inr ⟨p, by simp, h⟩
    · rcases List.mem_cons.1 h with h | h
      · exact Or.inl h
      · rcases join_in (q :: ps) c h with h | ⟨r, hr, hc⟩
        · exact Or.inl h
        · exact Or.inr ⟨r, by simp at hr ⊢; right; exact hr, hc⟩
theorem fold_in : ∀ (ps ks : List (List Int)) (p : List Int), p ∈ ps.foldl cstep ks → p = [] ∨ p ∈ ks ∨ p ∈ ps
  | [], ks, p, h => Or.inr (Or.inl h)
  | x :: ps, ks, p, h => by
    rcases fold_in ps (cstep ks x) p h with h | h | h
    · exact Or.inl h
    · unfold cstep at h
      split at h
      · exact Or.inr (Or.inl h)
      · split at h
        · split at h
          · exact Or.inl (List.mem_singleton.1 h)
          · exact Or.inr (Or.inl (List.mem_of_mem_take (by rwa [List.dropLast_eq_take] at h)))
        · rcases List.mem_append.1 h with h | h
          · exact Or.inr (Or.inl h)
          · exact Or.inr (Or.inr (by rw [List.mem_singleton.1 h]; simp))
    · exact Or.inr (Or.inr (by simp [h]))
theorem cleanL_in {ps : List (List Int)} {p : List Int} (h : p ∈ cleanL ps) : p = [] ∨ p ∈ ps := by
  unfold cleanL at h
  rcases List.mem_append.1 h with h | h
  · rcases fold_in ps [] p h with h | h | h
    · exact Or.inl h
    · cases h
    · exact Or.inr h
  · split at h
    · exact Or.inl (List.mem_singleton.1 h)
    · cases h
theorem clean_in {l : List Int} {c : Int} (h : c ∈ cleanI l) : c = 47 ∨ c ∈ l := by
  have key : ∀ c, c ∈ joinI (cleanL (splI 47 l)) → c = 47 ∨ c ∈ l := fun c h => by
    rcases join_in _ c h with h | ⟨p, hp, hc⟩
    · exact Or.inl h
    · rcases cleanL_in hp with rfl | hp
      · cases hc
      · exact Or.inr (spl_in 47 l p hp c hc)
  unfold cleanI at h
  simp only at h
  split at h
  · exact key c h
  · rcases List.mem_cons.1 h with h | h
    · exact Or.inl h
    · exact key c h
theorem foldl_count : ∀ (ps ks : List (List Int)), (ps.foldl cstep ks).length ≤ ks.length + ps.length + 1
  | [], ks => by simp
  | x :: ps, ks => by
    have ih := foldl_count ps (cstep ks x)
    have h1 : (cstep ks x).length ≤ ks.length + 1 := by
      unfold cstep
      split
      · omega
      · split
        · split
          · simp
          · rw [List.length_dropLast]; omega
        · simp
    rw [List.foldl_cons, List.length_cons]
    omega
theorem clean_len (l : List Int) (M : Nat) (h : l.length ≤ M) : (cleanI l).length ≤ (M + 4) * (M + 1) + 1 := by
  have hc : (cleanL (splI 47 l)).length ≤ M + 4 := by
    unfold cleanL
    rw [List.length_append]
    have h1 := foldl_count (splI 47 l) []
    have h2 := spl_count 47 l
    have h3 : (if (splI 47 l).getLast? = some [46] ∨ (splI 47 l).getLast? = some [46, 46] then ([[]] : List (List Int)) else []).length ≤ 1 := by split <;> simp
    rw [List.length_nil] at h1
    omega
  have hj := join_len (M := M) (cleanL (splI 47 l)) (fun p hp => by
    rcases cleanL_in hp with rfl | hp
    · simp
    · exact Nat.le_trans (spl_mem 47 l p hp).1 h)
  have hm : (cleanL (splI 47 l)).length * (M + 1) ≤ (M + 4) * (M + 1) := Nat.mul_le_mul_right _ hc
  unfold cleanI
  simp only
  split
  · omega
  · rw [List.length_cons]; omega
theorem nP_no {c : Int} (h0 : 0 ≤ c) (h1 : c < 256) (h : c ≠ 63) : (63 : Int) ∉ nP c := by
  unfold nP
  split
  · simpa using fun e => h e.symm
  · intro hm
    have := okc_code h0 h1
    have hd : ∀ x ∈ codeI c, x ≠ 63 := by
      intro x hx
      simp only [codeI, List.mem_cons, List.not_mem_nil, or_false] at hx
      rcases hx with rfl | rfl | rfl
      · decide
      · unfold digI; split <;> omega
      · unfold digI; split <;> omega
    exact hd 63 hm rfl
theorem nT_no {v : Int} (h0 : 0 ≤ v) (h1 : v < 256) : (63 : Int) ∉ nT v := by
  unfold nT
  split
  · rename_i h
    rw [freeI_iff] at h
    unfold freeP at h
    intro hm
    have := List.mem_singleton.1 hm
    omega
  · intro hm
    have hd : ∀ x ∈ codeI v, x ≠ 63 := by
      intro x hx
      simp only [codeI, List.mem_cons, List.not_mem_nil, or_false] at hx
      rcases hx with rfl | rfl | rfl
      · decide
      · unfold digI; split <;> omega
      · unfold digI; split <;> omega
    exact hd 63 hm rfl
theorem nrm_no {l x : List Int} (hb : Byts l) (h : nrmI l = some x) (hn : (63 : Int) ∉ l) : (63 : Int) ∉ x := by
  refine rwI_ind (T := nT) (P := nP) (fun t x => (63 : Int) ∉ t → (63 : Int) ∉ x) (fun h => h) ?_ ?_ l.length l x (Nat.le_refl _) hb h hn
  · intro c t x h0 h1 h37 ih hn hm
    rcases List.mem_append.1 hm with hm | hm
    · exact nP_no h0 h1 (fun e => hn (by simp [e])) hm
    · exact ih (fun e => hn (by simp [e])) hm
  · intro a b t x ha hb' ih hn hm
    rcases List.mem_append.1 hm with hm | hm
    · obtain ⟨h0, h1⟩ := trip_bd ha hb'
      exact nT_no h0 h1 hm
    · exact ih (fun e => hn (by simp [e])) hm
theorem portD_bd (l : List Int) (h : portD l ≠ 0) : 1 ≤ portD l ∧ portD l ≤ 65535 := by
  unfold portD at h ⊢
  split at h
  · rename_i hc
    rw [if_pos hc]
    have := pvI_mono (n := 0) (by omega) hc.2.2.2.1
    omega
  · exact absurd rfl h
structure POk (h : List Int) (p : Int) (x y : List Int) (k : Bool) : Prop where
  hb : Byts h
  xb : Byts x
  yb : Byts y
  hl : h.length ≤ 256
  xl : x.length ≤ 600000
  yl : y.length ≤ 768
  p0 : 1 ≤ p
  p1 : p ≤ 65535
  host : ∀ c ∈ h, c ≠ 47 ∧ c ≠ 58
  path : ∃ q, x = 47 :: q
  plain : (63 : Int) ∉ x
  none : k = false → y = []
theorem sch_byts2 {l q : List Int} {sec : Bool} (hb : Byts l) (h : schA l = some (sec, q)) : Byts q ∧ q.length ≤ l.length := by
  rcases sch7 h with ⟨_, _, h, _⟩ | ⟨_, _, _, h, _⟩ <;> (rw [h]; exact ⟨hb.drop _, by rw [List.length_drop]; omega⟩)
theorem auth_ok {us : Int} {a h : List Int} {p : Int} (hu : 1 ≤ us ∧ us ≤ 65535) (hb : Byts a) (h47 : (47 : Int) ∉ a) (ha : authI us a = some (h, p)) : Byts h ∧ h.length ≤ a.length ∧ (1 ≤ p ∧ p ≤ 65535) ∧ ∀ c ∈ h, c ≠ 47 ∧ c ≠ 58 := by
  have key : ∀ c ∈ (a.take (fndI [58] a)).map lwI, c ≠ 47 ∧ c ≠ 58 := by
    intro c hc
    obtain ⟨d, hd, rfl⟩ := List.mem_map.1 hc
    refine ⟨fun e => ?_, fun e => ?_⟩
    · rw [lw_slash] at e
      exact h47 (by rw [← e]; exact List.mem_of_mem_take hd)
    · rw [lw_colon] at e
      exact fndI_ahead [58] a d hd (by rw [e]; simp)
  have kb : Byts ((a.take (fndI [58] a)).map lwI) := lw_byts (hb.take _)
  have kl : ((a.take (fndI [58] a)).map lwI).length ≤ a.length := by rw [List.length_map, List.length_take]; omega
  unfold authI at ha
  split at ha
  · split at ha
    · split at ha
      · cases ha
      · rename_i hp
        injection ha with ha
        injection ha with h1 h2
        subst h1
        subst h2
        exact ⟨kb, kl, portD_bd _ hp, key⟩
    · injection ha with ha
      injection ha with h1 h2
      subst h1
      subst h2
      exact ⟨kb, kl, hu, key⟩
  · cases ha
theorem usI_bd (sec : Bool) : 1 ≤ usI sec ∧ usI sec ≤ 65535 := by cases sec <;> decide
theorem par_ok {l : List Int} {sec : Bool} {h : List Int} {p : Int} {x y : List Int} {k : Bool} (hb : Byts l) (hp : parI l = .ok sec h p x y k) : POk h p x y k := by
  unfold parI at hp
  split at hp
  · cases hp
  · rename_i hl
    split at hp
    · cases hp
    · rename_i sec' q hsc
      obtain ⟨hqb, hql⟩ := sch_byts2 hb hsc
      split at hp
      · cases hp
      · rename_i h' p' hau
        split at hp
        · cases hp
        · rename_i x' y' k' hpq
          injection hp with e1 e2 e3 e4 e5 e6
          subst e1 e2 e3 e4 e5 e6
          obtain ⟨a1, a2, a3, a4⟩ := auth_ok (usI_bd sec') (hqb.take _) (fun hm => fndI_ahead stopsI q 47 hm (by decide)) hau
          have hbb : Byts (backI q) := (hqb.drop _).take _
          have hbl : (backI q).length ≤ 256 := by unfold backI; rw [List.length_take, List.length_drop]; omega
          unfold pqI at hpq
          split at hpq
          · rename_i x0 y0 h1 h2
            injection hpq with hpq
            injection hpq with f1 hpq
            injection hpq with f2 f3
            subst f1 f2 f3
            have b1 := hbb.take (fndI [63] (backI q))
            have b2 := hbb.drop (fndI [63] (backI q) + 1)
            have l1 := (plain_nrm b1 h1).len
            have l2 := (plain_nrm b2 h2).len
            rw [List.length_take] at l1
            rw [List.length_drop] at l2
            have c1 := (again_of b1 h1).byts
            have c2 := (again_of b2 h2).byts
            have cl := clean_len x0 768 (by omega)
            refine ⟨a1, clean_byts c1, c2, ?_, by omega, by omega, a3.1, a3.2, a4, clean_head x0, ?_, ?_⟩
            · rw [List.length_take] at a2; omega
            · intro hm
              rcases clean_in hm with h | h
              · cases h
              · exact nrm_no b1 h1 (fun hm => fndI_ahead [63] (backI q) 63 hm (by simp)) h
            · intro hf
              rw [List.drop_eq_nil_of_le (by have := of_decide_eq_false hf; omega)] at h2
              have : nrmI [] = some [] := rwI_nil nT nP
              rw [this] at h2
              injection h2 with h2
              exact h2.symm
          · cases hpq
/-- The text of a place in its parts, and that of its two halves. -/
theorem keyB_is (sec : Bool) (h : List Int) (p : Nat) : keyB (strL (schI sec)) (strL h) p = strL (schI sec ++ [58, 47, 47] ++ h ++ (if p ≠ usual sec then 58 :: decD p else [])) := by
  have hu : usB (strL (schI sec)) = ((usual sec : Nat) : Int) := by rw [usB_sch]; cases sec <;> rfl
  unfold keyB
  rw [hu]
  by_cases e : p = usual sec
  · rw [if_pos (by omega), if_neg (by simpa using e), List.append_nil, strL_app, strL_app]
    rfl
  · rw [if_neg (by omega), if_pos e, strL_app, strL_app, strL_app]
    show _ = strL (schI sec) ++ strL [58, 47, 47] ++ strL h ++ strL ([58] ++ decD p)
    rw [strL_app]
    rfl
theorem tgtB_is (x y : List Int) (k : Bool) : tgtB (strL x) (strL y) k = strL (x ++ (if k then 63 :: y else [])) := by
  unfold tgtB
  cases k with
  | false => simp
  | true =>
    rw [if_pos rfl, if_pos rfl]
    show _ = strL (x ++ ([63] ++ y))
    rw [strL_app, strL_app, ← ByteArray.append_assoc]
    rfl
theorem strL_inj {a b : List Int} (ha : Byts a) (hb : Byts b) (h : strL a = strL b) : a = b := by rw [← btL_strL ha, ← btL_strL hb, h]
theorem decD_byts (p : Nat) : Byts (decD p) := fun c hc => by have := (decD_val (p + 1) p (by omega)).2 c hc; omega
theorem key_byts (sec : Bool) {h : List Int} (p : Nat) (hh : Byts h) : Byts (schI sec ++ [58, 47, 47] ++ h ++ (if p ≠ usual sec then 58 :: decD p else [])) := by
  refine (((sch_byts sec).append ?_).append hh).append ?_
  · intro c hc
    have : c = 58 ∨ c = 47 := by simpa using hc
    omega
  · split
    · exact Byts.mk ⟨by decide, by decide⟩ (decD_byts p)
    · exact Byts.nil
theorem tgt_byts {x y : List Int} (k : Bool) (hx : Byts x) (hy : Byts y) : Byts (x ++ (if k then 63 :: y else [])) := by
  refine hx.append ?_
  split
  · exact Byts.mk ⟨by decide, by decide⟩ hy
  · exact Byts.nil
/-- Two places with one text are one. -/
theorem text_same {s1 s2 k1 k2 : Bool} {h1 h2 x1 x2 y1 y2 : List Int} {p1 p2 : Nat} (o1 : POk h1 p1 x1 y1 k1) (o2 : POk h2 p2 x2 y2 k2)
    (h : keyB (strL (schI s1)) (strL h1) p1 ++ tgtB (strL x1) (strL y1) k1 = keyB (strL (schI s2)) (strL h2) p2 ++ tgtB (strL x2) (strL y2) k2) : s1 = s2 ∧ h1 = h2 ∧ p1 = p2 ∧ x1 = x2 ∧ y1 = y2 ∧ k1 = k2 := by
  rw [keyB_is, keyB_is, tgtB_is, tgtB_is, ← strL_app, ← strL_app] at h
  have e := strL_inj ((key_byts s1 p1 o1.hb).append (tgt_byts k1 o1.xb o1.yb)) ((key_byts s2 p2 o2.hb).append (tgt_byts k2 o2.xb o2.yb)) h
  have := text_inj (u := ⟨s1, h1, p1, x1, y1, k1⟩) (v := ⟨s2, h2, p2, x2, y2, k2⟩) ⟨o1.host, o1.path, o1.plain, o1.none⟩ ⟨o2.host, o2.path, o2.plain, o2.none⟩ e
  injection this with a b c d f g
  exact ⟨a, b, c, d, f, g⟩
end Go.Proofs.YtcdodpkfhkfnkaaDoor
