/- LinesCalm: the mathematics. -/
import Derived.Test.YtejmhndlfbmpdaaDoorLnPart
namespace Go.Proofs.YtejmhndlfbmpdaaDoor
open Go Go.RowKit
set_option linter.unusedVariables false
set_option linter.unusedSimpArgs false
set_option maxRecDepth 10000

theorem trL_snoc {c : Int} (l : List Int) (h : blI c = true) : trL (l ++ [c]) = trL l := by
  unfold trL
  rw [rdw_snoc, if_pos h]
theorem rdw_map (u : Int → Int) (hu : ∀ c, blI (u c) = blI c) : ∀ l : List Int, rdw (l.map u) = (rdw l).map u
  | [] => rfl
  | c :: t => by
    have ih := rdw_map u hu t
    rw [List.map_cons]
    unfold rdw
    rw [ih, hu c]
    by_cases h : rdw t = [] ∧ blI c = true
    · rw [if_pos ⟨by rw [h.1]; rfl, h.2⟩, if_pos h]
      rfl
    · rw [if_neg (fun hh => h ⟨by simpa using hh.1, hh.2⟩), if_neg h]
      rfl
theorem dw_mapI (u : Int → Int) (hu : ∀ c, blI (u c) = blI c) : ∀ l : List Int, (l.map u).dropWhile blI = (l.dropWhile blI).map u
  | [] => rfl
  | c :: t => by
    rw [List.map_cons, List.dropWhile_cons, List.dropWhile_cons, hu c]
    split
    · exact dw_mapI u hu t
    · rfl
theorem trL_map (u : Int → Int) (hu : ∀ c, blI (u c) = blI c) (l : List Int) : trL (l.map u) = (trL l).map u := by
  unfold trL
  rw [rdw_map u hu, dw_mapI u hu]
/-- The other size of a letter. -/
def upI (c : Int) : Int := if 97 ≤ c ∧ c ≤ 122 then c - 32 else c
theorem up_bl (c : Int) : blI (upI c) = blI c := by
  unfold upI
  split
  · unfold blI
    rw [Bool.eq_iff_iff]
    simp only [Bool.or_eq_true, decide_eq_true_eq]
    omega
  · rfl
theorem lw_up (c : Int) : lwI (upI c) = lwI c := by
  unfold upI lwI
  split <;> split <;> (try split) <;> omega
theorem fi_none {c : Int} : ∀ {l : List Int}, c ∉ l → fi c l = l.length
  | [], _ => rfl
  | x :: t, h => by
    unfold fi
    rw [if_neg (fun e => h (by rw [e]; exact List.mem_cons_self)), fi_none (fun hh => h (List.mem_cons_of_mem _ hh))]
    rfl
theorem fi_app {c : Int} : ∀ {l : List Int} (t : List Int), c ∉ l → fi c (l ++ c :: t) = l.length
  | [], t, _ => by
    show fi c (c :: t) = 0
    unfold fi
    rw [if_pos rfl]
  | x :: l, t, h => by
    rw [List.cons_append]
    unfold fi
    rw [if_neg (fun e => h (by rw [e]; exact List.mem_cons_self)), fi_app t (fun hh => h (List.mem_cons_of_mem _ hh))]
    rfl
/-- What a line says whose name, value and rest are known. -/
theorem say_of {k v : List Int} (q : List Int) (hk : 58 ∉ k) (hk2 : 35 ∉ k) (hv : 35 ∉ v) (hq : q = [] ∨ ∃ t, q = 35 :: t) :
    sayL (k ++ 58 :: v ++ q) = if trL k = [] then none else some ((trL k).map lwI, trL v) := by
  have hm : (35 : Int) ∉ k ++ 58 :: v := fun h => by
    rcases List.mem_append.1 h with h | h
    · exact hk2 h
    · rcases List.mem_cons.1 h with h | h
      · cases h
      · exact hv h
  have ht : (k ++ 58 :: v ++ q).take (fi 35 (k ++ 58 :: v ++ q)) = k ++ 58 :: v := by
    rcases hq with rfl | ⟨t, rfl⟩
    · rw [List.append_nil, fi_none hm, List.take_length]
    · rw [fi_app t hm, List.take_left]
  unfold sayL
  rw [ht, fi_app v hk, if_pos (by simp), List.take_left]
  have hd : (k ++ 58 :: v).drop (k.length + 1) = v := by
    rw [← List.drop_drop, List.drop_left]
    rfl
  rw [hd]
theorem say_calm {key value mark : List Int} (u : Int → Int) (hu : u = upI ∨ u = id) (h1 : 58 ∉ key) (h2 : 35 ∉ key) (h3 : 35 ∉ value) :
    sayL (([32, 9] ++ key.map u ++ [32]) ++ 58 :: ([32, 9] ++ value ++ [32, 32]) ++ 35 :: mark) = sayL (key ++ 58 :: value) := by
  have hbl : ∀ c, blI (u c) = blI c := by
    rcases hu with rfl | rfl
    · exact up_bl
    · intro c; rfl
  have hlw : ∀ c, lwI (u c) = lwI c := by
    rcases hu with rfl | rfl
    · exact lw_up
    · intro c; rfl
  have hmem : ∀ (z : Int), (z = 58 ∨ z = 35) → z ∉ key → z ∉ key.map u := fun z hz hn h => by
    obtain ⟨c, hc, he⟩ := List.mem_map.1 h
    rcases hu with rfl | rfl
    · unfold upI at he
      split at he
      · rcases hz with rfl | rfl <;> omega
      · exact hn (he ▸ hc)
    · exact hn (he ▸ hc)
  have a1 := say_of (k := [32, 9] ++ key.map u ++ [32]) (v := [32, 9] ++ value ++ [32, 32]) (35 :: mark) (by
      have := hmem 58 (Or.inl rfl) h1
      simp only [List.mem_append, List.mem_cons, List.not_mem_nil, or_false, not_or]
      exact ⟨⟨by decide, this⟩, by decide⟩) (by
      have := hmem 35 (Or.inr rfl) h2
      simp only [List.mem_append, List.mem_cons, List.not_mem_nil, or_false, not_or]
      exact ⟨⟨by decide, this⟩, by decide⟩) (by
      simp only [List.mem_append, List.mem_cons, List.not_mem_nil, or_false, not_or]
      exact ⟨⟨by decide, h3⟩, by decide⟩) (Or.inr ⟨mark, rfl⟩)
  have a2 := say_of (k := key) (v := value) [] h1 h2 h3 (Or.inl rfl)
  rw [List.append_nil] at a2
  rw [a1, a2]
  have e1 : trL ([32, 9] ++ key.map u ++ [32]) = (trL key).map u := by
    rw [trL_snoc _ rfl]
    show trL (32 :: 9 :: key.map u) = _
    rw [trL_cons rfl, trL_cons rfl, trL_map u hbl]
  have e2 : trL ([32, 9] ++ value ++ [32, 32]) = trL value := by
    rw [show ([32, 9] ++ value ++ [32, 32] : List Int) = ([32, 9] ++ value ++ [32]) ++ [32] from by simp, trL_snoc _ rfl, trL_snoc _ rfl]
    show trL (32 :: 9 :: value) = _
    rw [trL_cons rfl, trL_cons rfl]
  rw [e1, e2]
  by_cases hk : trL key = []
  · rw [hk]
    rfl
  · rw [if_neg hk, if_neg (fun h => hk (by simpa using h)), List.map_map]
    congr 2
    exact List.map_congr_left (fun c _ => hlw c)
theorem pcs_none {l : List Int} (h : ∀ c ∈ l, endI c = false) : pcs [] l = [l] := by
  have := pcs_run l [] [] h
  rw [List.append_nil, List.nil_append] at this
  rw [this]
  rfl
theorem lines_calm {key value mark : List Int} (u : Int → Int) (hu : u = upI ∨ u = id) (h1 : 58 ∉ key) (h2 : 35 ∉ key) (h3 : 35 ∉ value) (hk : ∀ c ∈ key, endI c = false) (hv : ∀ c ∈ value, endI c = false) (hm : ∀ c ∈ mark, endI c = false) (hl : key.length + value.length + mark.length ≤ 300) :
    linesL ([120, 58, 121, 13, 10, 13, 10, 32, 9] ++ key.map u ++ [32, 58, 32, 9] ++ value ++ [32, 32, 35] ++ mark ++ [10, 10]) = linesL ([120, 58, 121, 10] ++ key ++ [58] ++ value) := by
  have hku : ∀ c ∈ key.map u, endI c = false := fun c hc => by
    obtain ⟨x, hx, rfl⟩ := List.mem_map.1 hc
    have := hk x hx
    rcases hu with rfl | rfl
    · unfold upI
      split
      · unfold endI
        rw [Bool.or_eq_false_iff, decide_eq_false_iff_not, decide_eq_false_iff_not]
        omega
      · exact this
    · exact this
  have eA : limL ([120, 58, 121, 10] ++ key ++ [58] ++ value) = [120, 58, 121] ++ 10 :: (key ++ 58 :: value) := by
    rw [lim_small (by simp; omega), if_neg (fun h => by have := (bom_head h).1; simp at this)]
    simp
  have eB : limL ([120, 58, 121, 13, 10, 13, 10, 32, 9] ++ key.map u ++ [32, 58, 32, 9] ++ value ++ [32, 32, 35] ++ mark ++ [10, 10]) = [120, 58, 121] ++ 13 :: ([] ++ 10 :: ([] ++ 13 :: ([] ++ 10 :: ((([32, 9] ++ key.map u ++ [32]) ++ 58 :: ([32, 9] ++ value ++ [32, 32]) ++ 35 :: mark) ++ 10 :: ([] ++ 10 :: []))))) := by
    rw [lim_small (by simp; omega), if_neg (fun h => by have := (bom_head h).1; simp at this)]
    simp
  have pA : ∀ c ∈ key ++ 58 :: value, endI c = false := fun c hc => by
    rcases List.mem_append.1 hc with h | h
    · exact hk c h
    · rcases List.mem_cons.1 h with h | h
      · rw [h]; rfl
      · exact hv c h
  have pB : ∀ c ∈ ([32, 9] ++ key.map u ++ [32]) ++ 58 :: ([32, 9] ++ value ++ [32, 32]) ++ 35 :: mark, endI c = false := fun c hc => by
    have bl : ∀ d : Int, (d = 32 ∨ d = 9 ∨ d = 58 ∨ d = 35) → endI d = false := fun d hd => by
      rcases hd with rfl | rfl | rfl | rfl <;> rfl
    rcases List.mem_append.1 hc with hc | hc
    · rcases List.mem_append.1 hc with hc | hc
      · rcases List.mem_append.1 hc with hc | hc
        · rcases List.mem_append.1 hc with hc | hc
          · simp at hc
            exact bl c (by omega)
          · exact hku c hc
        · simp at hc
          exact bl c (by omega)
      · rcases List.mem_cons.1 hc with hc | hc
        · exact bl c (by omega)
        · rcases List.mem_append.1 hc with hc | hc
          · rcases List.mem_append.1 hc with hc | hc
            · simp at hc
              exact bl c (by omega)
            · exact hv c hc
          · simp at hc
            exact bl c (by omega)
    · rcases List.mem_cons.1 hc with hc | hc
      · exact bl c (by omega)
      · exact hm c hc
  have qA : pcs [] ([120, 58, 121] ++ 10 :: (key ++ 58 :: value)) = [[120, 58, 121], key ++ 58 :: value] := by
    rw [pcs_end (c := 10) rfl, pcs_none pA]
    rfl
  obtain ⟨P, hP⟩ : ∃ P, ([32, 9] ++ key.map u ++ [32]) ++ 58 :: ([32, 9] ++ value ++ [32, 32]) ++ 35 :: mark = P := ⟨_, rfl⟩
  rw [hP] at eB pB
  have qB : pcs [] ([120, 58, 121] ++ 13 :: ([] ++ 10 :: ([] ++ 13 :: ([] ++ 10 :: (P ++ 10 :: ([] ++ 10 :: [])))))) = [[120, 58, 121], [], [], [], P, [], []] := by
    rw [pcs_end (c := 13) rfl, pcs_end (c := 10) rfl, pcs_end (c := 13) rfl, pcs_end (c := 10) rfl, pcs_end (c := 10) rfl, pcs_end (c := 10) rfl, pcs_none pB]
    rfl
  have hone : ∀ p : List Int, ∀ ps, List.filterMap sayL (p :: ps) = (sayL p).toList ++ List.filterMap sayL ps := fun p ps => by
    rw [List.filterMap_cons]
    cases sayL p <;> rfl
  unfold linesL
  rw [eA, eB, qA, qB]
  simp only [hone]
  rw [← hP, say_calm u hu h1 h2 h3]
  simp [sayL_nil]
end Go.Proofs.YtejmhndlfbmpdaaDoor
