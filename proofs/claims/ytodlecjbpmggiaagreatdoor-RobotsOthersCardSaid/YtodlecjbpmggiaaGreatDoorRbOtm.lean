/- RobotsOthers: the mathematics. No program here. -/
import Derived.Test.YtodlecjbpmggiaaGreatDoorRbMath
namespace Go.Proofs.YtodlecjbpmggiaaGreatDoor
open Go Go.RowKit
set_option linter.unusedVariables false
set_option linter.unusedSimpArgs false
set_option maxRecDepth 10000

theorem ot_pcs_cons (cur : List Int) (c : Int) (t : List Int) : pcs cur (c :: t) = if endI c = true then cur :: pcs [] t else pcs (cur ++ [c]) t := by
  conv => lhs; unfold pcs
theorem ot_pcs_end {c : Int} (h : endI c = true) (y : List Int) : ∀ (x cur : List Int), pcs cur (x ++ c :: y) = pcs cur x ++ pcs [] y
  | [], cur => by
    rw [List.nil_append, ot_pcs_cons, if_pos h]
    rfl
  | d :: t, cur => by
    rw [List.cons_append, ot_pcs_cons, ot_pcs_cons]
    split
    · rw [ot_pcs_end h y t []]
      rfl
    · exact ot_pcs_end h y t _
/-- The lines of a text whose beginning is not looked at. -/
def PLn (l : List Int) : List (List Int × List Int) := (pcs [] l).filterMap sayL
theorem PLn_end (x y : List Int) : PLn (x ++ 10 :: y) = PLn x ++ PLn y := by
  unfold PLn
  rw [ot_pcs_end rfl, List.filterMap_append]
theorem PLn_nil : PLn [] = [] := rfl
theorem ot_bom {l : List Int} (h : ([239, 187, 191] : List Int).isPrefixOf l = true) : ∃ t, l = 239 :: 187 :: 191 :: t := by
  match l, h with
  | [], h => simp at h
  | [a], h => simp [List.isPrefixOf] at h
  | [a, b], h => simp [List.isPrefixOf] at h
  | a :: b :: c :: t, h =>
    simp [List.isPrefixOf] at h
    obtain ⟨rfl, rfl, rfl⟩ := h
    exact ⟨t, rfl⟩
theorem ot_small {l : List Int} (h : l.length ≤ 4096) (hh : l.head? ≠ some 239) : linesL l = PLn l := by
  unfold linesL limL
  rw [List.take_of_length_le h, if_neg]
  · rfl
  · intro hb
    obtain ⟨t, rfl⟩ := ot_bom hb
    exact hh rfl
theorem pcs_pre (b : List Int) : ∀ (t cur : List Int), ∃ p rest, pcs cur t = p :: rest ∧ pcs (b ++ cur) t = (b ++ p) :: rest
  | [], cur => ⟨cur, [], rfl, rfl⟩
  | c :: t, cur => by
    rw [ot_pcs_cons, ot_pcs_cons]
    split
    · exact ⟨cur, _, rfl, rfl⟩
    · obtain ⟨p, rest, h1, h2⟩ := pcs_pre b t (cur ++ [c])
      exact ⟨p, rest, h1, by rw [List.append_assoc]; exact h2⟩
theorem say_bom {p : List Int} {y : List Int × List Int} (h : sayL (239 :: p) = some y) : y.1 ≠ kUA := by
  unfold sayL at h
  rw [show fi 35 (239 :: p) = fi 35 p + 1 from by simp [fi], List.take_succ_cons] at h
  obtain ⟨p', hp'⟩ : ∃ p', p.take (fi 35 p) = p' := ⟨_, rfl⟩
  rw [hp', show fi 58 (239 :: p') = fi 58 p' + 1 from by simp [fi], List.take_succ_cons] at h
  obtain ⟨p'', hp''⟩ : ∃ p'', p'.take (fi 58 p') = p'' := ⟨_, rfl⟩
  rw [hp''] at h
  have e : trL (239 :: p'') = 239 :: rdw p'' := by
    unfold trL
    rw [show rdw (239 :: p'') = 239 :: rdw p'' from by simp [rdw, blI]]
    rw [List.dropWhile_cons]
    rfl
  split at h
  · rw [e, if_neg (by simp)] at h
    injection h with h
    subst h
    rw [List.map_cons]
    intro hh
    injection hh with h1 _
    exact absurd h1 (by decide)
  · cases h
def NoUA (L : List (List Int × List Int)) : Prop := ∀ x ∈ L, x.1 ≠ kUA
theorem NoUA.app {a b : List (List Int × List Int)} (h : NoUA (a ++ b)) : NoUA a ∧ NoUA b := ⟨fun x hx => h x (List.mem_append_left _ hx), fun x hx => h x (List.mem_append_right _ hx)⟩
theorem noua_of {r o : List Int} (hl : r.length + o.length ≤ 1500) (h : NoUA (linesL (r ++ 10 :: o))) : NoUA (PLn r) ∧ NoUA (PLn o) := by
  unfold linesL limL at h
  rw [List.take_of_length_le (by simp; omega)] at h
  split at h
  · rename_i hb
    obtain ⟨t, ht⟩ := ot_bom hb
    match r, ht with
    | [], ht => injection ht with h1 _; exact absurd h1 (by decide)
    | [a], ht => injection ht with h1 h2; injection h2 with h2 _; exact absurd h2 (by decide)
    | [a, b], ht => injection ht with h1 h2; injection h2 with h2 h3; injection h3 with h3 _; exact absurd h3 (by decide)
    | a :: b :: c :: r', ht =>
      injection ht with h1 h2; injection h2 with h2 h3; injection h3 with h3 h4
      subst h1 h2 h3
      have hd : ((239 :: 187 :: 191 :: r') ++ 10 :: o).drop 3 = r' ++ 10 :: o := rfl
      rw [hd] at h
      have h : NoUA (PLn (r' ++ 10 :: o)) := h
      rw [PLn_end] at h
      obtain ⟨k1, k2⟩ := h.app
      refine ⟨?_, k2⟩
      have e := pcs_run [239, 187, 191] r' [] (by decide)
      obtain ⟨p, rest, e1, e2⟩ := pcs_pre [239, 187, 191] r' []
      unfold PLn at k1 ⊢
      rw [show (239 :: 187 :: 191 :: r' : List Int) = [239, 187, 191] ++ r' from rfl, e, show ([] ++ [239, 187, 191] : List Int) = [239, 187, 191] ++ [] from rfl, e2]
      rw [e1] at k1
      intro x hx
      rw [List.filterMap_cons] at hx k1
      split at hx
      · refine k1 x ?_
        split
        · exact hx
        · exact List.mem_cons_of_mem _ hx
      · rename_i y hy
        rcases List.mem_cons.1 hx with rfl | hx
        · exact say_bom hy
        · refine k1 x ?_
          split
          · exact hx
          · exact List.mem_cons_of_mem _ hx
  · have h : NoUA (PLn (r ++ 10 :: o)) := h
    rw [PLn_end] at h
    exact h.app
def apG (g : Gp) (L : List (List Int × List Int)) : Gp := L.foldl (fun g x => (appG g x.1 x.2).getD g) g
theorem apG_ag (L : List (List Int × List Int)) : ∀ g, (apG g L).ag = g.ag := by
  induction L with
  | nil => intro g; rfl
  | cons x t ih =>
    intro g
    show (apG ((appG g x.1 x.2).getD g) t).ag = g.ag
    rw [ih]
    cases h : appG g x.1 x.2 with
    | none => rfl
    | some g' => exact appG_ag h
theorem fold_noua : ∀ (L : List (List Int × List Int)), NoUA L → ∀ (d : List Gp) (g : Gp) (b : Bool), ∃ b', L.foldl grS (d, some g, b) = (d, some (apG g L), b')
  | [], _, d, g, b => ⟨b, rfl⟩
  | x :: t, h, d, g, b => by
    have hx := h x List.mem_cons_self
    have ht : NoUA t := fun y hy => h y (List.mem_cons_of_mem _ hy)
    rw [List.foldl_cons]
    have e : ∃ b1, grS (d, some g, b) x = (d, some ((appG g x.1 x.2).getD g), b1) := by
      unfold grS
      rw [if_neg hx]
      dsimp only
      cases appG g x.1 x.2 with
      | none => exact ⟨b, rfl⟩
      | some g' => exact ⟨true, rfl⟩
    obtain ⟨b1, e⟩ := e
    rw [e]
    exact fold_noua t ht d _ b1
def tCr : List Int := [99, 114, 97, 119, 108, 101, 114]
def sCr : List Int := [67, 114, 97, 119, 108, 101, 114]
def sSt : List Int := [115, 116, 114, 97, 110, 103, 101, 114]
/-- The lines with which the two texts end. -/
theorem fold_mine (LR : List (List Int × List Int)) (h : NoUA LR) (d : List Gp) (c : Option Gp) : ∃ g b, ([(kUA, sCr)] ++ LR ++ [(kCD, [48])]).foldl grS (d, c, true) = (d ++ c.toList, some g, b) ∧ g = apG ⟨[tCr], [], 0⟩ (LR ++ [(kCD, [48])]) := by
  rw [List.append_assoc, List.foldl_append]
  have e : [(kUA, sCr)].foldl grS (d, c, true) = (d ++ c.toList, some ⟨[tCr], [], 0⟩, false) := ua_new rfl
  rw [e]
  have h2 : NoUA (LR ++ [(kCD, [48])]) := fun x hx => by
    rcases List.mem_append.1 hx with hx | hx
    · exact h x hx
    · rw [List.mem_singleton.1 hx]; decide
  obtain ⟨b, hb⟩ := fold_noua _ h2 (d ++ c.toList) ⟨[tCr], [], 0⟩ false
  exact ⟨_, b, hb, rfl⟩
theorem fold_other (LO : List (List Int × List Int)) (h : NoUA LO) : ∃ g, ([(kUA, sSt), (kUA, [42])] ++ LO ++ [(kCD, [57])]).foldl grS ([], none, true) = ([], some g, true) ∧ g.ag = [sSt, [42]] := by
  rw [List.append_assoc, List.foldl_append]
  have e : [(kUA, sSt), (kUA, [42])].foldl grS ([], none, true) = ([], some ⟨[sSt, [42]], [], 0⟩, false) := rfl
  rw [e, List.foldl_append]
  obtain ⟨b, hb⟩ := fold_noua _ h [] ⟨[sSt, [42]], [], 0⟩ false
  rw [hb]
  obtain ⟨g, hg⟩ : ∃ g, apG ⟨[sSt, [42]], [], 0⟩ LO = g := ⟨_, rfl⟩
  have ha := apG_ag LO ⟨[sSt, [42]], [], 0⟩
  rw [hg] at ha ⊢
  refine ⟨delG g (delL [57]), ?_, ?_⟩
  · show grS ([], some g, b) (kCD, [57]) = _
    unfold grS
    rw [if_neg (by decide)]
    dsimp only
    rw [show appG g kCD [57] = some (delG g (delL [57])) from by unfold appG; rw [if_neg (by decide), if_pos rfl]]
  · cases delL [57] <;> exact ha
theorem mine_gr (LR : List (List Int × List Int)) (h : NoUA LR) : ∃ gA, gA.ag = [tCr] ∧ grL ([(kUA, sCr)] ++ LR ++ [(kCD, [48])]) = [gA] ∧ ∀ LO, NoUA LO → ∃ g1, g1.ag = [sSt, [42]] ∧ grL (([(kUA, sSt), (kUA, [42])] ++ LO ++ [(kCD, [57])]) ++ ([(kUA, sCr)] ++ LR ++ [(kCD, [48])])) = [g1, gA] := by
  refine ⟨apG ⟨[tCr], [], 0⟩ (LR ++ [(kCD, [48])]), apG_ag _ _, ?_, fun LO hO => ?_⟩
  · obtain ⟨g, b, e, rfl⟩ := fold_mine LR h [] none
    unfold grL grF
    rw [e]
    rfl
  · obtain ⟨g1, e1, ha⟩ := fold_other LO hO
    obtain ⟨g, b, e, rfl⟩ := fold_mine LR h [] (some g1)
    refine ⟨g1, ha, ?_⟩
    unfold grL grF
    rw [List.foldl_append, e1, e]
    rfl
theorem pick_mine {gA g1 : Gp} (hA : gA.ag = [tCr]) (h1 : g1.ag = [sSt, [42]]) : pickL [g1, gA] tCr = pickL [gA] tCr := by
  have e1 : g1.ag.any (mineB tCr) = false := by rw [h1]; decide
  have e2 : gA.ag.any (mineB tCr) = true := by rw [hA]; decide
  have p1 : pickF (mineB tCr) [g1, gA] = [gA] := by
    unfold pickF
    rw [List.filter_cons, e1, List.filter_cons, e2]
    rfl
  have p2 : pickF (mineB tCr) [gA] = [gA] := by
    unfold pickF
    rw [List.filter_cons, e2]
    rfl
  unfold pickL
  rw [p1, p2, if_neg (by simp), if_neg (by simp)]
def xUA : List Int := [117, 115, 101, 114, 45, 97, 103, 101, 110, 116, 58, 32]
def xCD : List Int := [99, 114, 97, 119, 108, 45, 100, 101, 108, 97, 121, 58, 32]
def mineL (r : List Int) : List Int := (xUA ++ sCr) ++ 10 :: (r ++ 10 :: ((xCD ++ [48]) ++ 10 :: []))
def othersL (r o : List Int) : List Int := (xUA ++ sSt) ++ 10 :: ((xUA ++ [42]) ++ 10 :: (o ++ 10 :: ((xCD ++ [57]) ++ 10 :: mineL r)))
theorem mine_lines (r : List Int) (hl : r.length ≤ 1500) : PLn (mineL r) = [(kUA, sCr)] ++ PLn r ++ [(kCD, [48])] := by
  unfold mineL
  rw [PLn_end, PLn_end, PLn_end, PLn_nil, List.append_nil, show PLn (xUA ++ sCr) = [(kUA, sCr)] from rfl, show PLn (xCD ++ [48]) = [(kCD, [48])] from rfl, List.append_assoc]
theorem others_same (r o n1 n2 : List Int) (hl : r.length + o.length ≤ 1500) (h : NoUA (linesL (r ++ 10 :: o))) (h1 : tokL n1 = tCr) (h2 : tokL n2 = tCr) : readL 200 (othersL r o) n2 = readL 200 (mineL r) n1 := by
  obtain ⟨hr, ho⟩ := noua_of hl h
  have eA : linesL (mineL r) = [(kUA, sCr)] ++ PLn r ++ [(kCD, [48])] := by
    rw [ot_small, mine_lines r (by omega)]
    · simp [mineL, xUA, xCD, sCr]; omega
    · show some (117 : Int) ≠ some 239
      decide
  have eB : linesL (othersL r o) = ([(kUA, sSt), (kUA, [42])] ++ PLn o ++ [(kCD, [57])]) ++ ([(kUA, sCr)] ++ PLn r ++ [(kCD, [48])]) := by
    rw [ot_small]
    · unfold othersL
      rw [PLn_end, PLn_end, PLn_end, PLn_end, mine_lines r (by omega), show PLn (xUA ++ sSt) = [(kUA, sSt)] from rfl, show PLn (xUA ++ [42]) = [(kUA, [42])] from rfl, show PLn (xCD ++ [57]) = [(kCD, [57])] from rfl]
      simp
    · simp [othersL, mineL, xUA, xCD, sCr, sSt]; omega
    · show some (117 : Int) ≠ some 239
      decide
  obtain ⟨gA, hA, g1, g2⟩ := mine_gr (PLn r) hr
  obtain ⟨gO, hO, g3⟩ := g2 (PLn o) ho
  unfold readL
  rw [if_pos (by decide), if_pos (by decide), eA, eB, g1, g3, h1, h2, pick_mine hA hO]
end Go.Proofs.YtodlecjbpmggiaaGreatDoor
