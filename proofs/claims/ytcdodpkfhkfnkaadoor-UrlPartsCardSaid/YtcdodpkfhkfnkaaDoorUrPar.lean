/- Package url: a text in its parts: what the document asks, and how the program finds it. No program here. -/
import Derived.Test.YtcdodpkfhkfnkaaDoorUrName3
import Derived.Lib.Split
import Derived.Lib.IndexMore
import Derived.Lib.IndexAny
import Derived.Lib.Join
import Derived.Shelf.Strings.SplitShaped
/- Package url: a text cut at a sign, in parts between signs, and joined again: the library's words and ours. No program here. -/
namespace Go.Proofs.YtcdodpkfhkfnkaaDoor
open Go.RowKit
set_option linter.unusedVariables false
set_option linter.unusedSimpArgs false

def iv (l : List UInt8) : List Int := l.map fun c => (c.toNat : Int)
theorem iv_bt (s : ByteArray) : btL s = iv s.data.toList := rfl
theorem iv_len (l : List UInt8) : (iv l).length = l.length := by simp [iv]
theorem iv_take (l : List UInt8) (n : Nat) : iv (l.take n) = (iv l).take n := by simp [iv, List.map_take]
theorem iv_drop (l : List UInt8) (n : Nat) : iv (l.drop n) = (iv l).drop n := by simp [iv, List.map_drop]
theorem iv_mem (l : List UInt8) (c : UInt8) : ((c.toNat : Nat) : Int) ∈ iv l ↔ c ∈ l := by
  unfold iv
  rw [List.mem_map]
  constructor
  · rintro ⟨x, hx, he⟩
    have : x = c := UInt8.toNat_inj.1 (by omega)
    rwa [← this]
  · intro h
    exact ⟨c, h, rfl⟩
/-- A string that is as long as it is. -/
theorem mk_iv (l : List UInt8) : (⟨l.toArray⟩ : ByteArray) = strL (iv l) := by
  rw [← strL_btL ⟨l.toArray⟩]
  rfl
theorem fnd_miss {L l : List Int} (h : ¬ fndI L l < l.length) : fndI L l = l.length := by have := fndI_le L l; omega
theorem index_fnd (c : UInt8) : ∀ s : List UInt8, Lib.index s [c] = if fndI [(c.toNat : Int)] (iv s) < s.length then (fndI [(c.toNat : Int)] (iv s) : Int) else -1
  | [] => rfl
  | b :: l => by
    have ih := index_fnd c l
    unfold Lib.index
    show _ = if fndI [(c.toNat : Int)] ((b.toNat : Int) :: iv l) < (b :: l).length then (fndI [(c.toNat : Int)] ((b.toNat : Int) :: iv l) : Int) else -1
    unfold fndI
    by_cases h : c = b
    · subst h
      rw [if_pos (by simp [List.isPrefixOf]), if_pos (List.mem_singleton.2 rfl), if_pos (by simp)]
      rfl
    · have hb : ¬ ((b.toNat : Nat) : Int) ∈ [((c.toNat : Nat) : Int)] := by
        rw [List.mem_singleton]
        exact fun e => h (UInt8.toNat_inj.1 (by omega))
      rw [if_neg (by simp [List.isPrefixOf]; exact h), if_neg hb, ih, List.length_cons]
      by_cases hk : fndI [(c.toNat : Int)] (iv l) < l.length
      · rw [if_pos hk, if_neg (by simp), if_pos (by omega)]
        push_cast
        rfl
      · rw [if_neg hk, if_pos (by decide), if_neg (by omega)]
theorem any_fnd (chars : List UInt8) : ∀ s : List UInt8, Lib.indexAny s chars = if fndI (iv chars) (iv s) < s.length then (fndI (iv chars) (iv s) : Int) else -1
  | [] => rfl
  | b :: l => by
    have ih := any_fnd chars l
    unfold Lib.indexAny
    show _ = if fndI (iv chars) ((b.toNat : Int) :: iv l) < (b :: l).length then (fndI (iv chars) ((b.toNat : Int) :: iv l) : Int) else -1
    unfold fndI
    by_cases h : b ∈ chars
    · rw [if_pos (by simpa using h), if_pos ((iv_mem _ _).2 h), if_pos (by simp)]
      rfl
    · rw [if_neg (by simpa using h), if_neg (fun e => h ((iv_mem _ _).1 e)), ih, List.length_cons]
      by_cases hk : fndI (iv chars) (iv l) < l.length
      · rw [if_pos hk, if_neg (by simp), if_pos (by omega)]
        push_cast
        rfl
      · rw [if_neg hk, if_pos (by decide), if_neg (by omega)]
theorem cut_fnd (s : List UInt8) (c : UInt8) : Lib.cut s [c] = (s.take (fndI [(c.toNat : Int)] (iv s)), s.drop (fndI [(c.toNat : Int)] (iv s) + 1), decide (fndI [(c.toNat : Int)] (iv s) < s.length)) := by
  unfold Lib.cut
  rw [index_fnd]
  by_cases h : fndI [(c.toNat : Int)] (iv s) < s.length
  · rw [if_pos h, if_pos (by omega), decide_eq_true h, Int.toNat_natCast]
    rfl
  · rw [if_neg h, if_neg (by omega), decide_eq_false h, List.take_of_length_le (by omega), List.drop_eq_nil_of_le (by omega)]
theorem splI_sign (c : Int) (t : List Int) : splI c (c :: t) = [] :: splI c t := by conv => lhs; unfold splI; rw [if_pos rfl]
theorem splI_other {c x : Int} (h : x ≠ c) {t p : List Int} {ps : List (List Int)} (e : splI c t = p :: ps) : splI c (x :: t) = (x :: p) :: ps := by conv => lhs; unfold splI; rw [if_neg h, e]
theorem splI_fnd (c : Int) : ∀ l : List Int, splI c l = if fndI [c] l < l.length then l.take (fndI [c] l) :: splI c (l.drop (fndI [c] l + 1)) else [l]
  | [] => rfl
  | x :: t => by
    have ih := splI_fnd c t
    by_cases h : x = c
    · subst h
      have e : fndI [x] (x :: t) = 0 := by unfold fndI; rw [if_pos (List.mem_singleton.2 rfl)]
      rw [splI_sign, e, if_pos (by simp)]
      rfl
    · have e : fndI [c] (x :: t) = fndI [c] t + 1 := by conv => lhs; unfold fndI; rw [if_neg (fun e => h (List.mem_singleton.1 e))]
      rw [e, List.length_cons]
      by_cases hk : fndI [c] t < t.length
      · rw [if_pos hk] at ih
        rw [splI_other h ih, if_pos (by omega)]
        rfl
      · rw [if_neg hk] at ih
        rw [splI_other h ih, if_neg (by omega)]
theorem splitK_spl (c : UInt8) : ∀ (n : Nat) (s : List UInt8), s.length ≤ n → (Lib.splitK [c] 0 (Lib.count s [c]) s).map iv = splI (c.toNat : Int) (iv s)
  | n, s, hn => by
    have hi := index_fnd c s
    rw [splI_fnd, iv_len]
    by_cases h : fndI [(c.toNat : Int)] (iv s) < s.length
    · rw [if_pos h] at hi ⊢
      have hc := Lib.count_hit (s := s) (sub := [c]) (by simp) hi
      simp only [List.length_cons, List.length_nil, Nat.zero_add] at hc
      rw [hc, Nat.add_comm 1]
      unfold Lib.splitK
      rw [hi, if_neg (by rw [beq_iff_eq]; omega)]
      simp only [Int.toNat_natCast, Nat.add_zero, List.length_cons, List.length_nil, Nat.zero_add]
      cases n with
      | zero => omega
      | succ n =>
        rw [List.map_cons, splitK_spl c n (s.drop (fndI [(c.toNat : Int)] (iv s) + 1)) (by rw [List.length_drop]; omega), iv_take, iv_drop]
    · rw [if_neg h] at hi ⊢
      rw [Lib.count_miss hi]
      rfl
theorem splitK_count (c : UInt8) : ∀ (n : Nat) (s : List UInt8), s.length ≤ n → (Lib.splitK [c] 0 (Lib.count s [c]) s).length = Lib.count s [c] + 1
  | n, s, hn => by
    have hi := index_fnd c s
    by_cases h : fndI [(c.toNat : Int)] (iv s) < s.length
    · rw [if_pos h] at hi
      have hc := Lib.count_hit (s := s) (sub := [c]) (by simp) hi
      simp only [List.length_cons, List.length_nil, Nat.zero_add] at hc
      rw [hc, Nat.add_comm 1]
      unfold Lib.splitK
      rw [hi, if_neg (by rw [beq_iff_eq]; omega)]
      simp only [Int.toNat_natCast, Nat.add_zero, List.length_cons, List.length_nil, Nat.zero_add]
      cases n with
      | zero => omega
      | succ n => rw [splitK_count c n (s.drop (fndI [(c.toNat : Int)] (iv s) + 1)) (by rw [List.length_drop]; omega)]
    · rw [if_neg h] at hi
      rw [Lib.count_miss hi]
      rfl
theorem splitB_spl (c : UInt8) (s : ByteArray) : (Lib.splitB ⟨#[c]⟩ 0 (Lib.countB s ⟨#[c]⟩) s).map btL = splI (c.toNat : Int) (btL s) := by
  have hd := Lib.splitB_data ⟨#[c]⟩ 0 (Lib.countB s ⟨#[c]⟩) s
  have hc : Lib.countB s ⟨#[c]⟩ = Lib.count s.data.toList [c] := rfl
  rw [hc] at hd ⊢
  rw [show (({ data := #[c] } : ByteArray)).data.toList = [c] from rfl] at hd
  rw [iv_bt, ← splitK_spl c _ _ (Nat.le_refl _), ← hd, List.map_map]
  rfl
theorem join_iv (ps : List (List UInt8)) : iv (Lib.join ps [47]) = joinI (ps.map iv) := by
  have key : ∀ (ps : List (List UInt8)) (p : List UInt8), iv (Lib.join (p :: ps) [47]) = joinI ((p :: ps).map iv) := by
    intro ps
    induction ps with
    | nil => intro p; rw [Lib.join_one]; rfl
    | cons q ps ih =>
      intro p
      have h := ih q
      rw [Lib.join_cons] at h ⊢
      rw [List.map_cons, List.map_cons]
      show _ = iv p ++ 47 :: joinI (iv q :: ps.map iv)
      rw [List.map_cons] at h
      rw [← h]
      simp [Lib.joinTail, iv]
  cases ps with
  | nil => rfl
  | cons p ps => exact key ps p
end Go.Proofs.YtcdodpkfhkfnkaaDoor
namespace Go.Proofs.YtcdodpkfhkfnkaaDoor
open Go.RowKit
set_option linter.unusedVariables false
set_option linter.unusedSimpArgs false

/-- Its scheme, and what is behind it. -/
def schA (l : List Int) : Option (Bool × List Int) :=
  if (l.take 7).map lwI = [104, 116, 116, 112, 58, 47, 47] then some (false, l.drop 7)
  else if (l.take 8).map lwI = [104, 116, 116, 112, 115, 58, 47, 47] then some (true, l.drop 8) else none
/-- Name and port. -/
def nmOk (l : List Int) : Bool := nameA 0 46 l && decide (l.length ≤ 100)
def authI (us : Int) (a : List Int) : Option (List Int × Int) :=
  if nmOk (a.take (fndI [58] a)) then
    if fndI [58] a < a.length then (if portD (a.drop (fndI [58] a + 1)) = 0 then none else some ((a.take (fndI [58] a)).map lwI, portD (a.drop (fndI [58] a + 1))))
    else some ((a.take (fndI [58] a)).map lwI, us)
  else none
inductive PR where
  | over | form | host
  | ok (sec : Bool) (host : List Int) (port : Int) (path query : List Int) (asked : Bool)
def usI (sec : Bool) : Int := if sec then 443 else 80
def stopsI : List Int := [47, 63, 35]
/-- What is behind name and port, up to the mark. -/
def backI (r : List Int) : List Int := (r.drop (fndI stopsI r)).take (fndI [35] (r.drop (fndI stopsI r)))
def pqI (b : List Int) : Option (List Int × List Int × Bool) :=
  match nrmI (b.take (fndI [63] b)), nrmI (b.drop (fndI [63] b + 1)) with
  | some x, some y => some (cleanI x, y, decide (fndI [63] b < b.length))
  | _, _ => none
def parI (l : List Int) : PR :=
  if 256 < l.length then .over else match schA l with
  | none => .form
  | some (sec, r) => match authI (usI sec) (r.take (fndI stopsI r)) with
    | none => .host
    | some (h, p) => match pqI (backI r) with
      | none => .form
      | some (x, y, k) => .ok sec h p x y k

theorem lw_colon (c : Int) : lwI c = 58 ↔ c = 58 := by unfold lwI; split <;> omega
theorem lw_slash (c : Int) : lwI c = 47 ↔ c = 47 := by unfold lwI; split <;> omega
theorem fnd_lw (s : Int) (hs : ∀ c, lwI c = s ↔ c = s) : ∀ l : List Int, fndI [s] (l.map lwI) = fndI [s] l
  | [] => rfl
  | c :: t => by
    rw [List.map_cons]
    unfold fndI
    rw [fnd_lw s hs t]
    by_cases h : c = s
    · rw [if_pos (List.mem_singleton.2 ((hs c).2 h)), if_pos (List.mem_singleton.2 h)]
    · rw [if_neg (fun e => h ((hs c).1 (List.mem_singleton.1 e))), if_neg (fun e => h (List.mem_singleton.1 e))]
theorem pdig_lw {l : List Int} : pdig (l.map lwI) ↔ pdig l := by
  unfold pdig
  simp only [List.mem_map]
  constructor
  · intro h c hc
    have := h (lwI c) ⟨c, hc, rfl⟩
    unfold lwI at this
    split at this <;> omega
  · rintro h _ ⟨c, hc, rfl⟩
    have := h c hc
    unfold lwI
    split <;> omega
theorem lw_dig {c : Int} (h : 48 ≤ c ∧ c ≤ 57) : lwI c = c := by unfold lwI; rw [if_neg (by omega)]
theorem map_dig {l : List Int} (h : pdig l) : l.map lwI = l := by
  conv => rhs; rw [← List.map_id l]
  exact List.map_congr_left fun c hc => lw_dig (h c hc)
theorem portD_lw (l : List Int) : portD (l.map lwI) = portD l := by
  by_cases h : pdig l
  · rw [map_dig h]
  · unfold portD
    rw [if_neg (fun e => h (pdig_lw.1 e.2.2.2.1)), if_neg (fun e => h e.2.2.2.1)]
theorem nm_labels (l : List Int) : nmOk l = ((splI 46 (l.map lwI)).all labI && decide (l.length ≤ 100)) := by unfold nmOk; rw [name_labels]
/-- The scheme by the first ':' that two '/' follow. -/
theorem occ_iff (s : List UInt8) (j : Nat) : Lib.occAt s [58, 47, 47] j = true ↔ (iv s).drop j = 58 :: 47 :: 47 :: (iv s).drop (j + 3) := by
  unfold Lib.occAt
  rw [List.isPrefixOf_iff_prefix]
  constructor
  · rintro ⟨t, ht⟩
    have h3 : s.drop (j + 3) = t := by rw [← List.drop_drop, ← ht]; rfl
    rw [← iv_drop, ← iv_drop, h3, ← ht]
    rfl
  · intro h
    rw [← iv_drop, ← iv_drop] at h
    refine ⟨s.drop (j + 3), ?_⟩
    have inj : ∀ a b : List UInt8, iv a = iv b → a = b := fun a b e => by
      have := congrArg strL e
      rw [← mk_iv, ← mk_iv] at this
      injection this with h1
      have h2 := congrArg Array.toList h1
      simpa using h2
    exact inj _ _ (by rw [h]; rfl)
/-- What the program asks of the cut. -/
def schP (b : List Int) (found : Bool) : Bool := found && ((b.map lwI == schI false) || (b.map lwI == schI true))
theorem sch_none {s : List UInt8} (h : schA (iv s) = none) : schP (iv (Lib.cut s [58, 47, 47]).1) (Lib.cut s [58, 47, 47]).2.2 = false := by
  unfold schP Lib.cut
  rcases Lib.index_spec s [58, 47, 47] with ⟨e, _⟩ | ⟨i, e, hi, hocc, hno⟩
  · rw [if_neg (by omega)]
    rfl
  · rw [if_pos (by omega), e]
    simp only [Int.toNat_natCast, Bool.true_and, Bool.or_eq_false_iff, beq_eq_false_iff_ne]
    rw [occ_iff] at hocc
    have hlen : i + 3 ≤ (iv s).length := by
      have := congrArg List.length hocc
      simp at this
      omega
    have hsp : (iv s).take (i + 3) = (iv s).take i ++ [58, 47, 47] := by
      have h1 : (iv s).take (i + 3) = (iv s).take i ++ ((iv s).drop i).take 3 := by rw [← List.take_add]
      rw [h1, hocc]
      rfl
    rw [iv_take]
    have hl : ((iv s).take i).length = i := by rw [List.length_take]; omega
    unfold schA at h
    refine ⟨fun e1 => ?_, fun e1 => ?_⟩
    · have h4 : i = 4 := by
        have := congrArg List.length e1
        rw [List.length_map, hl] at this
        exact this
      subst h4
      rw [hsp, List.map_append, e1, if_pos (by decide)] at h
      cases h
    · have h5 : i = 5 := by
        have := congrArg List.length e1
        rw [List.length_map, hl] at this
        exact this
      subst h5
      have h7 : ((iv s).take 7).map lwI ≠ [104, 116, 116, 112, 58, 47, 47] := by
        intro e7
        have h2 : ((iv s).take 7).take 5 = (iv s).take 5 := by rw [List.take_take]; rfl
        have h3 := congrArg (List.take 5) e7
        rw [← List.map_take, h2, e1] at h3
        revert h3
        decide
      rw [if_neg h7, hsp, List.map_append, e1, if_pos (by decide)] at h
      cases h
theorem index_at {s : List UInt8} {k : Nat} (ho : Lib.occAt s [58, 47, 47] k = true) (hk : k ≤ s.length) (hn : ∀ j < k, (iv s)[j]? ≠ some 58) : Lib.index s [58, 47, 47] = k := by
  rcases Lib.index_spec s [58, 47, 47] with ⟨_, hno⟩ | ⟨i, e, hi, hocc, hno⟩
  · rw [hno k hk] at ho
    cases ho
  · rcases Nat.lt_trichotomy i k with h | h | h
    · rw [occ_iff] at hocc
      have := hn i h
      have h2 : (iv s)[i]? = some 58 := by
        have h3 := congrArg (fun l => l[0]?) hocc
        simpa using h3
      exact absurd h2 this
    · omega
    · rw [hno k h] at ho
      cases ho
theorem sch_some {s : List UInt8} {sec : Bool} {r : List Int} (h : schA (iv s) = some (sec, r)) : ∃ b, Lib.cut s [58, 47, 47] = (b, s.drop (if sec then 8 else 7), true) ∧ (iv b).map lwI = schI sec ∧ r = iv (s.drop (if sec then 8 else 7)) := by
  have key : ∀ (k : Nat) (t : List Int), ((iv s).take (k + 3)).map lwI = t ++ [58, 47, 47] → t.length = k → (58 : Int) ∉ t → Lib.cut s [58, 47, 47] = (s.take k, s.drop (k + 3), true) ∧ (iv (s.take k)).map lwI = t := by
    intro k t ht hk hn
    have hlen : k + 3 ≤ (iv s).length := by
      have := congrArg List.length ht
      simp at this
      omega
    have h1 : (iv s).take (k + 3) = (iv s).take k ++ ((iv s).drop k).take 3 := by rw [← List.take_add]
    rw [h1, List.map_append] at ht
    obtain ⟨e1, e2⟩ := List.append_inj ht (by simp; omega)
    have hb : ∀ j < k, (iv s)[j]? ≠ some 58 := by
      intro j hj e
      have hm : (58 : Int) ∈ (iv s).take k := List.mem_of_getElem? (by rw [List.getElem?_take, if_pos hj]; exact e)
      have : lwI 58 ∈ ((iv s).take k).map lwI := List.mem_map.2 ⟨58, hm, rfl⟩
      rw [e1] at this
      exact hn this
    have e3 : ((iv s).drop k).take 3 = [58, 47, 47] := by
      have hl3 : (((iv s).drop k).take 3).length = 3 := by rw [List.length_take, List.length_drop]; omega
      generalize ((iv s).drop k).take 3 = x at e2 hl3
      match x, hl3, e2 with
      | [a, b, c], _, e2 =>
        simp only [List.map_cons, List.map_nil, List.cons.injEq, and_true] at e2
        rw [(lw_colon a).1 e2.1, (lw_slash b).1 e2.2.1, (lw_slash c).1 e2.2.2]
    have ho : Lib.occAt s [58, 47, 47] k = true := by
      rw [occ_iff]
      conv => lhs; rw [← List.take_append_drop 3 ((iv s).drop k), e3]
      rw [List.drop_drop]
      rfl
    have hi := index_at ho (by rw [iv_len] at hlen; omega) hb
    refine ⟨?_, by rw [iv_take]; exact e1⟩
    unfold Lib.cut
    rw [if_pos (by omega), hi, Int.toNat_natCast]
    rfl
  unfold schA at h
  split at h
  · rename_i h7
    injection h with h
    injection h with ha hb
    subst ha
    obtain ⟨h1, h2⟩ := key 4 [104, 116, 116, 112] h7 rfl (by decide)
    exact ⟨_, h1, h2, by rw [← hb, iv_drop]; rfl⟩
  · split at h
    · rename_i h8
      injection h with h
      injection h with ha hb
      subst ha
      obtain ⟨h1, h2⟩ := key 5 [104, 116, 116, 112, 115] h8 rfl (by decide)
      exact ⟨_, h1, h2, by rw [← hb, iv_drop]; rfl⟩
    · cases h
end Go.Proofs.YtcdodpkfhkfnkaaDoor
