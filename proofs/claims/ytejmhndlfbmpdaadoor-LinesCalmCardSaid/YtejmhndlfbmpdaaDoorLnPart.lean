/- LinesParts: the mathematics and the walk. -/
import Derived.Test.YtejmhndlfbmpdaaDoorLnAwk
import Derived.Test.YtejmhndlfbmpdaaDoorLnRps
namespace Go.Proofs.YtejmhndlfbmpdaaDoor
open Go Go.RowKit
set_option linter.unusedVariables false
set_option linter.unusedSimpArgs false
set_option maxRecDepth 10000

theorem pcs_cons (cur : List Int) (c : Int) (t : List Int) : pcs cur (c :: t) = if endI c = true then cur :: pcs [] t else pcs (cur ++ [c]) t := by
  conv => lhs; unfold pcs
theorem pcs_end {c : Int} (h : endI c = true) (y : List Int) : ∀ (x cur : List Int), pcs cur (x ++ c :: y) = pcs cur x ++ pcs [] y
  | [], cur => by
    rw [List.nil_append, pcs_cons, if_pos h]
    rfl
  | d :: t, cur => by
    rw [List.cons_append, pcs_cons, pcs_cons]
    split
    · rw [pcs_end h y t []]
      rfl
    · exact pcs_end h y t _
theorem bom_head {l : List Int} (h : ([239, 187, 191] : List Int).isPrefixOf l = true) : l.head? = some 239 ∧ 3 ≤ l.length := by
  match l, h with
  | [], h => simp at h
  | [a], h => simp [List.isPrefixOf] at h
  | [a, b], h => simp [List.isPrefixOf] at h
  | a :: b :: c :: t, h =>
    rw [lim_four] at h
    simp only [Bool.and_eq_true, decide_eq_true_eq] at h
    exact ⟨by rw [h.1.1]; rfl, by simp⟩
theorem lim_small {l : List Int} (h : l.length ≤ 4096) : limL l = if ([239, 187, 191] : List Int).isPrefixOf l = true then l.drop 3 else l := by
  unfold limL
  rw [List.take_of_length_le h]
theorem lines_parts {a b : List Int} (hab : a.length + b.length ≤ 3000) (hb : b.length ≤ 2 ∨ b.head? ≠ some 239) (ha : ¬ (a.length < 3 ∧ a.head? = some 239)) : linesL (a ++ 10 :: b) = linesL a ++ linesL b := by
  have e1 : limL b = b := by
    rw [lim_small (by omega), if_neg]
    intro h
    have := bom_head h
    rcases hb with hb | hb
    · omega
    · exact hb this.1
  have e2 : limL (a ++ 10 :: b) = limL a ++ 10 :: b := by
    rw [lim_small (by simp; omega), lim_small (by omega)]
    match a, ha with
    | [], _ => rfl
    | [x], ha =>
      have hx : x ≠ 239 := fun e => ha ⟨by simp, by rw [e]; rfl⟩
      rw [if_neg (fun h => hx (by have := (bom_head h).1; simpa using this)), if_neg (fun h => hx (by have := (bom_head h).1; simpa using this))]
    | [x, y], ha =>
      have hx : x ≠ 239 := fun e => ha ⟨by simp, by rw [e]; rfl⟩
      rw [if_neg (fun h => hx (by have := (bom_head h).1; simpa using this)), if_neg (fun h => hx (by have := (bom_head h).1; simpa using this))]
    | x :: y :: z :: t, _ =>
      rw [List.cons_append, List.cons_append, List.cons_append, lim_four, lim_four]
      split
      · rfl
      · rfl
  unfold linesL
  rw [e2, pcs_end rfl, List.filterMap_append, e1]
theorem head_at {s : ByteArray} (h : 0 < s.size) : (btL s).head? = some (s[0].toNat : Int) := by
  have := ln_cons s 0 h
  rw [List.drop_zero] at this
  rw [this]
  rfl
set_option maxHeartbeats 2000000 in
theorem linesParts_walk (a b : ByteArray) (w : World) (za : a.size ≤ 140737488351232) (zb : b.size ≤ 140737488351232) (_ : True) :
    Calls Tryd.prog 8 #[.string a, .string b] w fun e w' => e = .returned (.bool true) ∧ Below w.heap.size w w' := by
  obtain ⟨q, hq⟩ : ∃ q, (decide (3000 < a.size + b.size) || (decide (2 < b.size) && decide ((btL b).head? = some 239)) || (decide (a.size < 3) && decide ((btL a).head? = some 239))) = q := ⟨_, rfl⟩
  have HQ := Lib.hid hq
  clear hq
  go_enter Tryd.func8, Tryd.ntmps8
  go_upto_region 1 with fail
  go_cut [39] from 9 (fun v wx => v = .bool q ∧ wx = w)
  case first =>
    have big : ∀ (x y : Nat), x ≤ 140737488351232 → y ≤ 140737488351232 → IntKind.i64.wrap ((x : Int) + (y : Int)) = (x : Int) + (y : Int) := fun x y _ _ => IntWalk.i64_in _ (by omega)
    by_cases h1 : 3000 < a.size + b.size
    · have d1 : decide ((3000 : Int) < (a.size : Int) + (b.size : Int)) = true := decide_eq_true (by omega)
      have d1' : decide (3000 < a.size + b.size) = true := decide_eq_true h1
      have HE : Hid (q = true) := Lib.hid (by rw [← HQ.out, d1']; rfl)
      clear big
      go_wp2
      go_meet
      exact ⟨by rw [HE.out], rfl⟩
    · have d1 : decide ((3000 : Int) < (a.size : Int) + (b.size : Int)) = false := decide_eq_false (by omega)
      have d1' : decide (3000 < a.size + b.size) = false := decide_eq_false h1
      have HQ2 : Hid (q = ((decide (2 < b.size) && decide ((btL b).head? = some 239)) || (decide (a.size < 3) && decide ((btL a).head? = some 239)))) := Lib.hid (by rw [← HQ.out, d1', Bool.false_or])
      clear big
      obtain ⟨qb, hqb⟩ : ∃ qb, (decide (2 < b.size) && decide ((btL b).head? = some 239)) = qb := ⟨_, rfl⟩
      rw [hqb] at HQ2
      obtain ⟨qa, hqa⟩ : ∃ qa, (decide (a.size < 3) && decide ((btL a).head? = some 239)) = qa := ⟨_, rfl⟩
      rw [hqa] at HQ2
      have HB := Lib.hid hqb
      have HA := Lib.hid hqa
      clear hqb hqa
      by_cases hb2 : 2 < b.size
      · have e1 : decide ((2 : Int) < (b.size : Int)) = true := decide_eq_true (by omega)
        have e1' : decide (2 < b.size) = true := decide_eq_true hb2
        have hb0 : 0 < b.size := by omega
        obtain ⟨c, hc⟩ : ∃ c : Int, (b[0].toNat : Int) = c := ⟨_, rfl⟩
        by_cases h239 : c = 239
        · have e2 : (c == 239) = true := beq_iff_eq.2 h239
          have HE : Hid (q = true) := Lib.hid (by rw [HQ2.out, ← HB.out, e1', Bool.true_and, head_at hb0, hc, h239]; rfl)
          go_wp2
          go_meet
          exact ⟨by rw [HE.out], rfl⟩
        · have e2 : (c == 239) = false := beq_eq_false_iff_ne.2 h239
          have HB2 : Hid (qb = false) := Lib.hid (by
            rw [← HB.out, e1', Bool.true_and, head_at hb0, hc, decide_eq_false_iff_not]
            intro h
            injection h with h
            exact h239 h)
          have HQ3 : Hid (q = qa) := Lib.hid (by rw [HQ2.out, HB2.out, Bool.false_or])
          by_cases ha : a.size < 3
          · have e3 : decide ((a.size : Int) < 3) = true := decide_eq_true (by omega)
            have e3' : decide (a.size < 3) = true := decide_eq_true ha
            by_cases ha0 : 0 < a.size
            · have e4 : decide ((0 : Int) < (a.size : Int)) = true := decide_eq_true (by omega)
              have e4' : decide (0 < a.size) = true := decide_eq_true ha0
              obtain ⟨c, hc⟩ : ∃ c : Int, (a[0].toNat : Int) = c := ⟨_, rfl⟩
              obtain ⟨r, hr⟩ : ∃ r, (c == 239) = r := ⟨_, rfl⟩
              have HE : Hid (q = r) := Lib.hid (by
                rw [HQ3.out, ← HA.out, e3', Bool.true_and, head_at ha0, hc, ← hr, Bool.eq_iff_iff, decide_eq_true_eq, beq_iff_eq]
                constructor
                · intro h; injection h
                · intro h; rw [h])
              go_wp2
              go_meet
              exact ⟨by rw [HE.out], rfl⟩
            · have e4 : decide ((0 : Int) < (a.size : Int)) = false := decide_eq_false (by omega)
              have e4' : decide (0 < a.size) = false := decide_eq_false ha0
              have HE : Hid (q = false) := Lib.hid (by
                have hl := btL_length a
                have hn : btL a = [] := List.eq_nil_of_length_eq_zero (by omega)
                rw [HQ3.out, ← HA.out, hn]
                simp)
              go_wp2
              go_meet
              exact ⟨by rw [HE.out], rfl⟩
          · have e3 : decide ((a.size : Int) < 3) = false := decide_eq_false (by omega)
            have e3' : decide (a.size < 3) = false := decide_eq_false ha
            have HE : Hid (q = false) := Lib.hid (by rw [HQ3.out, ← HA.out, e3', Bool.false_and])
            go_wp2
            go_meet
            exact ⟨by rw [HE.out], rfl⟩
      · have e1 : decide ((2 : Int) < (b.size : Int)) = false := decide_eq_false (by omega)
        have e1' : decide (2 < b.size) = false := decide_eq_false hb2
        have HB2 : Hid (qb = false) := Lib.hid (by rw [← HB.out, e1', Bool.false_and])
        have HQ3 : Hid (q = qa) := Lib.hid (by rw [HQ2.out, HB2.out, Bool.false_or])
        by_cases ha : a.size < 3
        · have e3 : decide ((a.size : Int) < 3) = true := decide_eq_true (by omega)
          have e3' : decide (a.size < 3) = true := decide_eq_true ha
          by_cases ha0 : 0 < a.size
          · have e4 : decide ((0 : Int) < (a.size : Int)) = true := decide_eq_true (by omega)
            have e4' : decide (0 < a.size) = true := decide_eq_true ha0
            obtain ⟨c, hc⟩ : ∃ c : Int, (a[0].toNat : Int) = c := ⟨_, rfl⟩
            obtain ⟨r, hr⟩ : ∃ r, (c == 239) = r := ⟨_, rfl⟩
            have HE : Hid (q = r) := Lib.hid (by
              rw [HQ3.out, ← HA.out, e3', Bool.true_and, head_at ha0, hc, ← hr, Bool.eq_iff_iff, decide_eq_true_eq, beq_iff_eq]
              constructor
              · intro h; injection h
              · intro h; rw [h])
            go_wp2
            go_meet
            exact ⟨by rw [HE.out], rfl⟩
          · have e4 : decide ((0 : Int) < (a.size : Int)) = false := decide_eq_false (by omega)
            have e4' : decide (0 < a.size) = false := decide_eq_false ha0
            have HE : Hid (q = false) := Lib.hid (by
              have hl := btL_length a
              have hn : btL a = [] := List.eq_nil_of_length_eq_zero (by omega)
              rw [HQ3.out, ← HA.out, hn]
              simp)
            go_wp2
            go_meet
            exact ⟨by rw [HE.out], rfl⟩
        · have e3 : decide ((a.size : Int) < 3) = false := decide_eq_false (by omega)
          have e3' : decide (a.size < 3) = false := decide_eq_false ha
          have HE : Hid (q = false) := Lib.hid (by rw [HQ3.out, ← HA.out, e3', Bool.false_and])
          go_wp2
          go_meet
          exact ⟨by rw [HE.out], rfl⟩
  case rest =>
    obtain ⟨rfl, he⟩ := hcut
    have he := he.symm
    subst he
    cases q with
    | true =>
      go_wp2_with fail
      refine (awake9 _).mono ?_
      rintro e w1 ⟨rfl, hb⟩
      have B1 := Lib.hid hb
      clear hb
      go_wp2
      go_ret
      exact ⟨rfl, B1.out⟩
    | false =>
      have hq := HQ.out
      simp only [Bool.or_eq_false_iff, Bool.and_eq_false_iff, decide_eq_false_iff_not] at hq
      obtain ⟨⟨h1, h2⟩, h3⟩ := hq
      have hal := btL_length a
      have hbl := btL_length b
      have hparts := lines_parts (a := btL a) (b := btL b) (by omega) (by rcases h2 with h2 | h2; exact Or.inl (by omega); exact Or.inr h2) (by rintro ⟨k1, k2⟩; rcases h3 with h3 | h3; omega; exact h3 k2)
      have hlA := lines_len (btL a)
      have hlB := lines_len (btL b)
      obtain ⟨LA, hLA⟩ : ∃ L, linesL (btL a) = L := ⟨_, rfl⟩
      obtain ⟨LB, hLB⟩ : ∃ L, linesL (btL b) = L := ⟨_, rfl⟩
      have P1 := Lib.hid (fun W : World => lparse_at a (by omega) LA hLA W trivial)
      have P2 := Lib.hid (fun W : World => lparse_at b (by omega) LB hLB W trivial)
      have P3 := Lib.hid (fun W : World => lparse_at (a ++ (⟨#[10]⟩ : ByteArray) ++ b) (by rw [ByteArray.size_append, ByteArray.size_append]; have : (⟨#[10]⟩ : ByteArray).size = 1 := rfl; omega) (LA ++ LB) (by rw [ln_append, ln_append, List.append_assoc, ← hLA, ← hLB, ← hparts]; rfl) W trivial)
      rw [hLA] at hlA
      rw [hLB] at hlB
      obtain ⟨n, hn⟩ : ∃ n, LA.length = n := ⟨_, rfl⟩
      obtain ⟨m, hm⟩ : ∃ n, LB.length = n := ⟨_, rfl⟩
      have HN := Lib.hid hn
      have HM := Lib.hid hm
      have n1 : n ≤ 5000 := by omega
      have m1 : m ≤ 5000 := by omega
      have sz1 : a.size + 1 ≤ 9223372036854775807 := by omega
      have sz2 : a.size + 1 + b.size ≤ 9223372036854775807 := by omega
      clear hparts hlA hlB hLA hLB h1 h2 h3 hal hbl hn hm
      go_wp2_with fail
      refine (P1.out _).mono ?_
      rintro e w1 ⟨xa, xc, rfl, ho, hb⟩
      have HX := Lib.hid (rdLn_own ho rfl)
      have B1 := Lib.hid hb
      clear ho hb
      rw [HN.out]
      go_wp2_with fail
      refine (P2.out _).mono ?_
      rintro e w2 ⟨ya, yc, rfl, ho, hb⟩
      have HX := Lib.hid (HX.out.later hb)
      have HY := Lib.hid (rdLn_own ho rfl)
      have B2 := Lib.hid (B1.out.trans (hb.mono B1.out.size))
      clear ho hb
      rw [HM.out]
      go_wp2_with fail
      refine (P3.out _).mono ?_
      rintro e w3 ⟨za_, zc, rfl, ho, hb⟩
      have HX := Lib.hid (HX.out.later hb)
      have HY := Lib.hid (HY.out.later hb)
      have HZ := Lib.hid (rdLn_own ho rfl)
      have B3 := Lib.hid (B2.out.trans (hb.mono B2.out.size))
      clear ho hb
      rw [List.length_append, HN.out, HM.out]
      go_wp2_with fail
      go_loopw [4, 8] (fun r j wr => ∃ k : Nat, k ≤ n + m ∧ r = .bool false ∧ j = .int .i64 (k : Int) ∧ Hid (Below w3.heap.size w3 wr)) (fun _ j _ => n + m - (intOf j).toNat)
      case atStart => exact ⟨0, by omega, rfl, rfl, Lib.hid (Below.refl _ _)⟩
      case round =>
        obtain ⟨k, hk, rfl, rfl, BR⟩ := hrel
        by_cases hlt : k < n + m
        · have hkd : decide ((k : Int) < ((n + m : Nat) : Int)) = true := decide_eq_true (by omega)
          have hkd' : decide ((k : Int) < (n : Int) + (m : Int)) = true := decide_eq_true (by omega)
          obtain ⟨b1, o1, h1, h2⟩ := HZ.out.later BR.out
          have ix0 : (0 : Int) ≤ (k : Int) := by omega
          have ix1 : (k : Int) < (n : Int) + (m : Int) := by omega
          by_cases hkn : k < n
          · obtain ⟨y, hy⟩ : ∃ y, LA[k]? = some y := ⟨LA[k]'(by have := HN.out; omega), List.getElem?_eq_getElem _⟩
            have hy2 : (LA ++ LB)[k]? = some y := by rw [List.getElem?_append_left (by rw [HN.out]; exact hkn)]; exact hy
            obtain ⟨b2, o2, h3, h4⟩ := HX.out.later BR.out
            have ea := h1 (by intro e; rw [e] at hy2; simp at hy2)
            have eb := h3 (by intro e; rw [e] at hy; simp at hy)
            obtain ⟨c0, c1⟩ := h2 k y hy2
            obtain ⟨d0, d1⟩ := h4 k y hy
            subst ea
            subst eb
            have f1 : decide ((k : Int) < (n : Int)) = true := decide_eq_true (by omega)
            have f2 : decide ((n : Int) ≤ (k : Int)) = false := decide_eq_false (by omega)
            have ix2 : (k : Int) < (n : Int) := by omega
            have f1n : decide (k < n) = true := decide_eq_true hkn
            have f2n : decide (n ≤ k) = false := decide_eq_false (by omega)
            clear h2 h4 hy hy2
            go_upto_region 9 with fail
            go_quiet (fail)
            obtain ⟨w5, hw5⟩ : ∃ W, wr.drewN nq = W := ⟨_, rfl⟩
            have B5 : Hid (Below w3.heap.size w3 w5) := Lib.hid (by rw [← hw5]; exact ln_drewN BR.out nq)
            rw [hw5]
            clear hw5 c0 c1 d0 d1 BR
            go_wp2
            go_roundw
            case rel => exact ⟨k + 1, by omega, rfl, by go_num, B5⟩
            case measure => simp [intOf]; omega
          · obtain ⟨j, rfl⟩ : ∃ j, k = n + j := ⟨k - n, by omega⟩
            obtain ⟨y, hy⟩ : ∃ y, LB[j]? = some y := ⟨LB[j]'(by have := HM.out; omega), List.getElem?_eq_getElem _⟩
            have hy2 : (LA ++ LB)[n + j]? = some y := by rw [List.getElem?_append_right (by rw [HN.out]; omega), HN.out, show n + j - n = j by omega]; exact hy
            obtain ⟨b2, o2, h3, h4⟩ := HY.out.later BR.out
            have ea := h1 (by intro e; rw [e] at hy2; simp at hy2)
            have eb := h3 (by intro e; rw [e] at hy; simp at hy)
            obtain ⟨c0, c1⟩ := h2 (n + j) y hy2
            obtain ⟨d0, d1⟩ := h4 j y hy
            subst ea
            subst eb
            have f1 : decide (((n + j : Nat) : Int) < (n : Int)) = false := decide_eq_false (by omega)
            have f2 : decide ((n : Int) ≤ ((n + j : Nat) : Int)) = true := decide_eq_true (by omega)
            have f3 : ((n + j : Nat) : Int) - (n : Int) = (j : Int) := by omega
            have f1' : decide ((n : Int) + (j : Int) < (n : Int)) = false := decide_eq_false (by omega)
            have f2' : decide ((n : Int) ≤ (n : Int) + (j : Int)) = true := decide_eq_true (by omega)
            have f3' : (n : Int) + (j : Int) - (n : Int) = (j : Int) := by omega
            have hw : IntKind.i64.wrap (j : Int) = (j : Int) := IntWalk.i64_in _ (by omega)
            have ix2 : (j : Int) < (m : Int) := by omega
            have f1n : decide (n + j < n) = false := decide_eq_false (by omega)
            have f2n : decide (n ≤ n + j) = true := decide_eq_true (by omega)
            have ix3 : (0 : Int) ≤ (j : Int) := by omega
            clear h2 h4 hy hy2
            go_upto_region 9 with fail
            go_quiet (fail)
            obtain ⟨w5, hw5⟩ : ∃ W, wr.drewN nq = W := ⟨_, rfl⟩
            have B5 : Hid (Below w3.heap.size w3 w5) := Lib.hid (by rw [← hw5]; exact ln_drewN BR.out nq)
            rw [hw5]
            clear hw5 c0 c1 d0 d1 BR
            go_wp2
            go_roundw
            case rel => exact ⟨n + j + 1, by omega, rfl, by go_num, B5⟩
            case measure => simp [intOf]; omega
        · have hkd : decide ((k : Int) < ((n + m : Nat) : Int)) = false := decide_eq_false (by omega)
          have hkd' : decide ((k : Int) < (n : Int) + (m : Int)) = false := decide_eq_false (by omega)
          go_wp2_with fail
          refine (awake9 _).mono ?_
          rintro e w5 ⟨rfl, hb⟩
          have B5 := Lib.hid (B3.out.trans ((BR.out.trans (hb.mono BR.out.size)).mono B3.out.size))
          clear hb
          go_wp2
          go_ret
          exact ⟨rfl, B5.out⟩
end Go.Proofs.YtejmhndlfbmpdaaDoor
