/- FeedRetries: until when any value says that one should wait. -/
import Derived.Test.YtodibjpojfipoaaGreatDoorDtRp
import Derived.Test.YtodibjpojfipoaaGreatDoorFeRfm
/- The document's Parse of any text: the walk. -/
namespace Go.Proofs.YtodibjpojfipoaaGreatDoor
open Go.RowKit
set_option linter.unusedVariables false
set_option linter.unusedSimpArgs false
set_option maxRecDepth 10000

theorem rnumI_pad4 (v : Int) (h0 : 0 ≤ v) (h1 : v < 10000) : rnumI (padN 4 v.toNat) = v := by
  unfold rnumI
  rw [if_neg (fun h => by have := congrArg List.length h; rw [padN_len] at this; simp at this), digS_pad 4 v.toNat (by show v.toNat < 10000; omega)]
  show ((v.toNat : Nat) : Int) = v
  omega
theorem rnumI_pad1 (v : Int) (h0 : 0 ≤ v) (h1 : v < 10) : rnumI (padN 1 v.toNat) = v := by
  unfold rnumI
  rw [if_neg (fun h => by have := congrArg List.length h; rw [padN_len] at this; simp at this), digS_pad 1 v.toNat (by show v.toNat < 10; omega)]
  show ((v.toNat : Nat) : Int) = v
  omega
theorem rnumI_two {l : List Int} {v : Int} (hl : l.length = 2) (hv : rnumI l = v) (h0 : 0 ≤ v) : v < 100 := by
  unfold rnumI at hv
  split at hv
  · omega
  · cases hd : digS 0 l with
    | none => rw [hd] at hv; simp at hv; omega
    | some u =>
      rw [hd] at hv
      have := (pad_digS 2 l u hl hd).2.2
      simp at hv
      omega
theorem first_parts {m : Mo} (hm : MoOk m) {t : ByteArray} (ht : btL t = firstL m) :
    btL (cutB t 12 16) = padN 4 m.y.toNat ∧ btL (cutB t 8 11) = monN.getD (m.mo - 1).toNat [] ∧ btL (cutB t 5 7) = padN 2 m.d.toNat ∧ btL (cutB t 17 25) = clkL m := by
  have lm := (monN_len m.mo hm.mo.1 hm.mo.2).1
  have ld := (dayH_len m.wd hm.wd.1 hm.wd.2).1
  unfold firstL at ht
  refine ⟨?_, ?_, ?_, ?_⟩
  · exact mid_cut (l1 := dayH.getD m.wd.toNat [] ++ [44, 32] ++ padN 2 m.d.toNat ++ [32] ++ monN.getD (m.mo - 1).toNat [] ++ [32]) (rest := [32] ++ clkL m ++ [32, 71, 77, 84]) (by rw [ht]; simp only [List.append_assoc]) 12 16 (by simp only [List.length_append, padN_len, lm, ld, List.length_cons, List.length_nil]) (by rw [padN_len])
  · exact mid_cut (l1 := dayH.getD m.wd.toNat [] ++ [44, 32] ++ padN 2 m.d.toNat ++ [32]) (rest := [32] ++ padN 4 m.y.toNat ++ [32] ++ clkL m ++ [32, 71, 77, 84]) (by rw [ht]; simp only [List.append_assoc]) 8 11 (by simp only [List.length_append, padN_len, ld, List.length_cons, List.length_nil]) (by rw [lm])
  · exact mid_cut (l1 := dayH.getD m.wd.toNat [] ++ [44, 32]) (rest := [32] ++ monN.getD (m.mo - 1).toNat [] ++ [32] ++ padN 4 m.y.toNat ++ [32] ++ clkL m ++ [32, 71, 77, 84]) (by rw [ht]; simp only [List.append_assoc]) 5 7 (by simp only [List.length_append, ld, List.length_cons, List.length_nil]) (by rw [padN_len])
  · exact mid_cut (l1 := dayH.getD m.wd.toNat [] ++ [44, 32] ++ padN 2 m.d.toNat ++ [32] ++ monN.getD (m.mo - 1).toNat [] ++ [32] ++ padN 4 m.y.toNat ++ [32]) (rest := [32, 71, 77, 84]) (by rw [ht]; simp only [List.append_assoc]) 17 25 (by simp only [List.length_append, padN_len, lm, ld, List.length_cons, List.length_nil]) (by unfold clkL; simp only [List.length_append, padN_len, List.length_cons, List.length_nil])
theorem third_parts {m : Mo} (hm : MoOk m) {t : ByteArray} (ht : btL t = thirdL m) :
    btL (cutB t 20 24) = padN 4 m.y.toNat ∧ btL (cutB t 4 7) = monN.getD (m.mo - 1).toNat [] ∧ btL (cutB t 8 10) = dayL m.d ∧ btL (cutB t 11 19) = clkL m ∧ btL (cutB t 9 10) = (dayL m.d).drop 1 ∧ (btL t)[8]? = (dayL m.d)[0]? := by
  have lm := (monN_len m.mo hm.mo.1 hm.mo.2).1
  have ld := (dayH_len m.wd hm.wd.1 hm.wd.2).1
  have l2 := dayL_len m.d
  have l3 : (clkL m).length = 8 := by unfold clkL; simp only [List.length_append, padN_len, List.length_cons, List.length_nil]
  unfold thirdL at ht
  obtain ⟨p, q, hpq⟩ : ∃ p q, dayL m.d = [p, q] := by
    match hd : dayL m.d, l2 with
    | [p, q], _ => exact ⟨p, q, rfl⟩
  refine ⟨?_, ?_, ?_, ?_, ?_, ?_⟩
  · exact mid_cut (l1 := dayH.getD m.wd.toNat [] ++ [32] ++ monN.getD (m.mo - 1).toNat [] ++ [32] ++ dayL m.d ++ [32] ++ clkL m ++ [32]) (rest := []) (by rw [ht, List.append_nil]) 20 24 (by simp only [List.length_append, lm, ld, l2, l3, List.length_cons, List.length_nil]) (by rw [padN_len])
  · exact mid_cut (l1 := dayH.getD m.wd.toNat [] ++ [32]) (rest := [32] ++ dayL m.d ++ [32] ++ clkL m ++ [32] ++ padN 4 m.y.toNat) (by rw [ht]; simp only [List.append_assoc]) 4 7 (by simp only [List.length_append, ld, List.length_cons, List.length_nil]) (by rw [lm])
  · exact mid_cut (l1 := dayH.getD m.wd.toNat [] ++ [32] ++ monN.getD (m.mo - 1).toNat [] ++ [32]) (rest := [32] ++ clkL m ++ [32] ++ padN 4 m.y.toNat) (by rw [ht]; simp only [List.append_assoc]) 8 10 (by simp only [List.length_append, lm, ld, List.length_cons, List.length_nil]) (by rw [l2])
  · exact mid_cut (l1 := dayH.getD m.wd.toNat [] ++ [32] ++ monN.getD (m.mo - 1).toNat [] ++ [32] ++ dayL m.d ++ [32]) (rest := [32] ++ padN 4 m.y.toNat) (by rw [ht]; simp only [List.append_assoc]) 11 19 (by simp only [List.length_append, lm, ld, l2, List.length_cons, List.length_nil]) (by rw [l3])
  · rw [hpq]
    exact mid_cut (mid := [q]) (l1 := dayH.getD m.wd.toNat [] ++ [32] ++ monN.getD (m.mo - 1).toNat [] ++ [32] ++ [p]) (rest := [32] ++ clkL m ++ [32] ++ padN 4 m.y.toNat) (by rw [ht, hpq]; simp only [List.append_assoc, List.cons_append, List.nil_append]) 9 10 (by simp only [List.length_append, lm, ld, List.length_cons, List.length_nil]) rfl
  · rw [ht, hpq]
    have e : dayH.getD m.wd.toNat [] ++ [32] ++ monN.getD (m.mo - 1).toNat [] ++ [32] ++ [p, q] ++ [32] ++ clkL m ++ [32] ++ padN 4 m.y.toNat = (dayH.getD m.wd.toNat [] ++ [32] ++ monN.getD (m.mo - 1).toNat [] ++ [32]) ++ (p :: (q :: ([32] ++ clkL m ++ [32] ++ padN 4 m.y.toNat))) := by simp only [List.append_assoc, List.cons_append, List.nil_append]
    rw [e, List.getElem?_append_right (by simp only [List.length_append, lm, ld, List.length_cons, List.length_nil]; omega)]
    simp only [List.length_append, lm, ld, List.length_cons, List.length_nil]
    rfl
theorem spc_day {l q : List Int} {v : Int} (h : spcS l = some (v, q)) : l = dayL v ++ q ∧ 0 ≤ v ∧ v < 100 := by
  cases hc : cutS [32] l with
  | some r =>
    rw [spcS_one hc] at h
    obtain ⟨h1, h2, h3⟩ := pad_numS h
    have h4 : v < 10 := by simpa using h3
    refine ⟨?_, h2, by omega⟩
    unfold dayL
    rw [if_pos h4, cutS_some hc, h1, List.append_assoc]
  | none =>
    rw [spcS_two hc, Option.bind_eq_some_iff] at h
    obtain ⟨⟨u, r⟩, h1, h⟩ := h
    dsimp only at h
    split at h
    · cases h
    · rename_i hh
      simp only [Option.some.injEq, Prod.mk.injEq] at h
      obtain ⟨rfl, rfl⟩ := h
      obtain ⟨h1, h2, h3⟩ := pad_numS h1
      have h4 : u < 100 := by simpa using h3
      refine ⟨?_, h2, h4⟩
      unfold dayL
      rw [if_neg hh, h1]
theorem second_dashP {fy : Int → Int} {l : List Int} {m' : Mo} (h : dashP fy l = some m') : ∃ m, MoOk m ∧ l = secondL m ∧ m' = ⟨m.wd, fy (m.y % 100), m.mo, m.d, m.h, m.mi, m.s⟩ := by
  unfold dashP at h
  rw [Option.bind_eq_some_iff] at h
  obtain ⟨⟨a, q1⟩, h1, h⟩ := h
  rw [Option.bind_eq_some_iff] at h
  obtain ⟨⟨_, q2⟩, h2, h⟩ := h
  rw [Option.bind_eq_some_iff] at h
  obtain ⟨⟨b, q3⟩, h3, h⟩ := h
  rw [Option.bind_eq_some_iff] at h
  obtain ⟨⟨_, q4⟩, h4, h⟩ := h
  rw [Option.bind_eq_some_iff] at h
  obtain ⟨⟨c, q5⟩, h5, h⟩ := h
  rw [Option.bind_eq_some_iff] at h
  obtain ⟨⟨_, q6⟩, h6, h⟩ := h
  rw [Option.bind_eq_some_iff] at h
  obtain ⟨⟨e, q7⟩, h7, h⟩ := h
  rw [Option.bind_eq_some_iff] at h
  obtain ⟨⟨_, q8⟩, h8, h⟩ := h
  rw [Option.bind_eq_some_iff] at h
  obtain ⟨⟨⟨x, y, z⟩, q9⟩, h9, h⟩ := h
  rw [Option.bind_eq_some_iff] at h
  obtain ⟨⟨_, q10⟩, h10, h⟩ := h
  dsimp only at h2 h3 h4 h5 h6 h7 h8 h9 h10 h
  unfold doneS at h
  split at h
  · rename_i hq
    injection h with h
    subst h
    obtain ⟨k, k1, rfl, i1⟩ := app_nameS h1
    have i2 := app_markS h2
    have i3 := pad_numS h3
    have i4 := app_markS h4
    obtain ⟨j, j1, rfl, i5⟩ := app_nameS h5
    have i6 := app_markS h6
    have i7 := pad_numS h7
    have i8 := app_markS h8
    have i9 := app_clkS h9
    have i10 := app_markS h10
    have k2 : k < 7 := k1
    have j2 : j < 12 := j1
    have e7 : e < 100 := by simpa using i7.2.2
    have e3 : b < 100 := by simpa using i3.2.2
    have em : e % 100 = e := by omega
    refine ⟨⟨0 + (k : Int), e, 1 + (j : Int), b, x, y, z⟩, ⟨by dsimp only; omega, by dsimp only; omega, by dsimp only; omega, by dsimp only; omega, ⟨i9.1, i9.2.1, i9.2.2.1⟩⟩, ?_, by dsimp only; rw [em]⟩
    unfold secondL clkL
    dsimp only
    rw [em, i1, i2, i3.1, i4, i5, i6, i7.1, i8, i9.2.2.2, i10, hq, show (0 + (k : Int)).toNat = k from by omega, show (1 + (j : Int) - 1).toNat = j from by omega]
    simp only [List.append_assoc, List.append_nil]
  · cases h
theorem third_spcP {l : List Int} {m : Mo} (h : spcP l = some m) : MoOk m ∧ l = thirdL m := by
  unfold spcP at h
  rw [Option.bind_eq_some_iff] at h
  obtain ⟨⟨a, q1⟩, h1, h⟩ := h
  rw [Option.bind_eq_some_iff] at h
  obtain ⟨⟨_, q2⟩, h2, h⟩ := h
  rw [Option.bind_eq_some_iff] at h
  obtain ⟨⟨c, q3⟩, h3, h⟩ := h
  rw [Option.bind_eq_some_iff] at h
  obtain ⟨⟨_, q4⟩, h4, h⟩ := h
  rw [Option.bind_eq_some_iff] at h
  obtain ⟨⟨b, q5⟩, h5, h⟩ := h
  rw [Option.bind_eq_some_iff] at h
  obtain ⟨⟨_, q6⟩, h6, h⟩ := h
  rw [Option.bind_eq_some_iff] at h
  obtain ⟨⟨⟨x, y, z⟩, q7⟩, h7, h⟩ := h
  rw [Option.bind_eq_some_iff] at h
  obtain ⟨⟨_, q8⟩, h8, h⟩ := h
  rw [Option.bind_eq_some_iff] at h
  obtain ⟨⟨e, q9⟩, h9, h⟩ := h
  dsimp only at h2 h3 h4 h5 h6 h7 h8 h9 h
  unfold doneS at h
  split at h
  · rename_i hq
    injection h with h
    subst h
    obtain ⟨k, k1, rfl, i1⟩ := app_nameS h1
    have i2 := app_markS h2
    obtain ⟨j, j1, rfl, i3⟩ := app_nameS h3
    have i4 := app_markS h4
    have i5 := spc_day h5
    have i6 := app_markS h6
    have i7 := app_clkS h7
    have i8 := app_markS h8
    have i9 := pad_numS h9
    have k2 : k < 7 := k1
    have j2 : j < 12 := j1
    have e9 : e < 10000 := by simpa using i9.2.2
    refine ⟨⟨by dsimp only; omega, by dsimp only; omega, by dsimp only; omega, by dsimp only; omega, ⟨i7.1, i7.2.1, i7.2.2.1⟩⟩, ?_⟩
    unfold thirdL clkL
    dsimp only
    rw [i1, i2, i3, i4, i5.1, i6, i7.2.2.2, i8, i9.1, hq, show (0 + (k : Int)).toNat = k from by omega, show (1 + (j : Int) - 1).toNat = j from by omega]
    simp only [List.append_assoc, List.append_nil]
  · cases h
theorem par_first2 {m : Mo} (hm : MoOk m) (Y : Int) : parI Y (firstL m) = secI m := parI_fix (fixP_first m hm)
theorem par_no {Y : Int} {l : List Int} (h1 : ∀ m, MoOk m → l = firstL m → secI m = none) (h2 : ∀ m, MoOk m → l ≠ secondL m) (h3 : ∀ m, MoOk m → l = thirdL m → secI m = none) : parI Y l = none := by
  unfold parI
  cases hf : fixP l with
  | some m =>
    obtain ⟨hm, e⟩ := first_fixP hf
    exact h1 m hm e
  | none =>
    dsimp only
    cases hd : dashP (fyI Y) l with
    | some m' =>
      obtain ⟨m, hm, e, _⟩ := second_dashP hd
      exact absurd e (h2 m hm)
    | none =>
      dsimp only
      cases hs : spcP l with
      | some m =>
        obtain ⟨hm, e⟩ := third_spcP hs
        exact h3 m hm e
      | none => rfl
/-- What comes of a text against the First form. -/
theorem first_try {a1 a2 a3 a4 a5 a6 Y : Int} {o : Option Int} {x : ByteArray} (hF : ∀ m, MoOk m → btL x = firstL m → a1 = m.y ∧ a2 = m.mo ∧ a3 = m.d ∧ a4 = m.h ∧ a5 = m.mi ∧ a6 = m.s) (ho : rsecI a1 a2 a3 a4 a5 a6 = o) :
    (o = none → ∀ m, MoOk m → btL x = firstL m → secI m = none) ∧ (∀ n, o = some n → ∃ (t : ByteArray) (b : Bool), (t.toList == x.toList) = b ∧ (b = true → parI Y (btL x) = some n) ∧ (b = false → ∀ m, MoOk m → btL x = firstL m → secI m = none) ∧ ∀ W, Calls Tryz.prog 51 #[.agg #[.int .i64 a1, .int .i64 a2, .int .i64 a3, .int .i64 a4, .int .i64 a5, .int .i64 a6]] W fun e w' => e = .returned (.string t) ∧ Below W.heap.size W w') := by
  constructor
  · intro hn m hm hx
    obtain ⟨e1, e2, e3, e4, e5, e6⟩ := hF m hm hx
    subst e1 e2 e3 e4 e5 e6
    rw [hn] at ho
    unfold rsecI at ho
    split at ho
    · cases ho
    · rename_i hh
      unfold secI
      rw [if_neg (fun h => hh ⟨h.1, ⟨hm.clk.h, hm.clk.mi, hm.clk.s⟩⟩)]
  · intro n hn
    rw [hn] at ho
    unfold rsecI at ho
    split at ho
    · rename_i hh
      obtain ⟨hv, k1, k2, k3⟩ := hh
      have hm1 : MoOk ⟨(num a1 a2 a3 + 3) % 7, a1, a2, a3, a4, a5, a6⟩ := by
        have b := lenI_bd a1 a2
        obtain ⟨h1, h2, h3, h4, h5, h6⟩ := hv
        exact ⟨by dsimp only; omega, by dsimp only; omega, by dsimp only; omega, by dsimp only; omega, ⟨k1, k2, k3⟩⟩
      injection ho with ho
      have hb : btL (strL (firstL ⟨(num a1 a2 a3 + 3) % 7, a1, a2, a3, a4, a5, a6⟩)) = firstL ⟨(num a1 a2 a3 + 3) % 7, a1, a2, a3, a4, a5, a6⟩ := btL_strL (first_byts hm1)
      refine ⟨strL (firstL ⟨(num a1 a2 a3 + 3) % 7, a1, a2, a3, a4, a5, a6⟩), _, rfl, fun h => ?_, fun h m hm hx => ?_, fun W => rfirst_at _ a1 a2 a3 a4 a5 a6 _ hv hm1.clk rfl rfl W⟩
      · have h1 := byt_eq.1 h
        rw [hb] at h1
        rw [← h1, par_first2 hm1]
        unfold secI
        rw [if_pos ⟨hv, rfl⟩]
        unfold secN
        dsimp only
        congr 1
        omega
      · obtain ⟨e1, e2, e3, e4, e5, e6⟩ := hF m hm hx
        unfold secI
        rw [if_neg]
        intro hh
        have ew : (num a1 a2 a3 + 3) % 7 = m.wd := by rw [e1, e2, e3]; exact hh.2
        have em : (⟨(num a1 a2 a3 + 3) % 7, a1, a2, a3, a4, a5, a6⟩ : Mo) = m := by
          obtain ⟨wd, y, mo, d, hh, mi, s⟩ := m
          dsimp only at e1 e2 e3 e4 e5 e6 ew
          subst e1 e2 e3 e4 e5 e6
          rw [ew]
        have : (strL (firstL ⟨(num a1 a2 a3 + 3) % 7, a1, a2, a3, a4, a5, a6⟩)).toList == x.toList := byt_eq.2 (by rw [hb, em, hx])
        rw [this] at h
        cases h
    · cases ho
/-- What comes of a text against the Third form. -/
theorem third_try {a1 a2 a3 a4 a5 a6 Y : Int} {o : Option Int} {x : ByteArray} (hF : ∀ m, MoOk m → btL x = thirdL m → a1 = m.y ∧ a2 = m.mo ∧ a3 = m.d ∧ a4 = m.h ∧ a5 = m.mi ∧ a6 = m.s) (ho : rsecI a1 a2 a3 a4 a5 a6 = o) :
    (o = none → ∀ m, MoOk m → btL x = thirdL m → secI m = none) ∧ (∀ n, o = some n → ∃ (t : ByteArray) (b : Bool), (t.toList == x.toList) = b ∧ (b = true → parI Y (btL x) = some n) ∧ (b = false → ∀ m, MoOk m → btL x = thirdL m → secI m = none) ∧ ∀ W, Calls Tryz.prog 52 #[.agg #[.int .i64 a1, .int .i64 a2, .int .i64 a3, .int .i64 a4, .int .i64 a5, .int .i64 a6]] W fun e w' => e = .returned (.string t) ∧ Below W.heap.size W w') := by
  constructor
  · intro hn m hm hx
    obtain ⟨e1, e2, e3, e4, e5, e6⟩ := hF m hm hx
    subst e1 e2 e3 e4 e5 e6
    rw [hn] at ho
    unfold rsecI at ho
    split at ho
    · cases ho
    · rename_i hh
      unfold secI
      rw [if_neg (fun h => hh ⟨h.1, ⟨hm.clk.h, hm.clk.mi, hm.clk.s⟩⟩)]
  · intro n hn
    rw [hn] at ho
    unfold rsecI at ho
    split at ho
    · rename_i hh
      obtain ⟨hv, k1, k2, k3⟩ := hh
      have hm1 : MoOk ⟨(num a1 a2 a3 + 3) % 7, a1, a2, a3, a4, a5, a6⟩ := by
        have b := lenI_bd a1 a2
        obtain ⟨h1, h2, h3, h4, h5, h6⟩ := hv
        exact ⟨by dsimp only; omega, by dsimp only; omega, by dsimp only; omega, by dsimp only; omega, ⟨k1, k2, k3⟩⟩
      injection ho with ho
      have hb : btL (strL (thirdL ⟨(num a1 a2 a3 + 3) % 7, a1, a2, a3, a4, a5, a6⟩)) = thirdL ⟨(num a1 a2 a3 + 3) % 7, a1, a2, a3, a4, a5, a6⟩ := btL_strL (third_byts hm1)
      refine ⟨strL (thirdL ⟨(num a1 a2 a3 + 3) % 7, a1, a2, a3, a4, a5, a6⟩), _, rfl, fun h => ?_, fun h m hm hx => ?_, fun W => rthird_at _ a1 a2 a3 a4 a5 a6 _ hv hm1.clk rfl rfl W⟩
      · have h1 := byt_eq.1 h
        rw [hb] at h1
        rw [← h1, par_third hm1]
        unfold secI
        rw [if_pos ⟨hv, rfl⟩]
        unfold secN
        dsimp only
        congr 1
        omega
      · obtain ⟨e1, e2, e3, e4, e5, e6⟩ := hF m hm hx
        unfold secI
        rw [if_neg]
        intro hh
        have ew : (num a1 a2 a3 + 3) % 7 = m.wd := by rw [e1, e2, e3]; exact hh.2
        have em : (⟨(num a1 a2 a3 + 3) % 7, a1, a2, a3, a4, a5, a6⟩ : Mo) = m := by
          obtain ⟨wd, y, mo, d, hh, mi, s⟩ := m
          dsimp only at e1 e2 e3 e4 e5 e6 ew
          subst e1 e2 e3 e4 e5 e6
          rw [ew]
        have : (strL (thirdL ⟨(num a1 a2 a3 + 3) % 7, a1, a2, a3, a4, a5, a6⟩)).toList == x.toList := byt_eq.2 (by rw [hb, em, hx])
        rw [this] at h
        cases h
    · cases ho
/-- A text that is no second form: what comes of it against one. -/
theorem second_no {a1 a2 a3 a4 a5 a6 : Int} {o : Option Int} {x : ByteArray} (hx : ∀ m, MoOk m → btL x ≠ secondL m) (ho : rsecI a1 a2 a3 a4 a5 a6 = o) (n : Int) (hn : o = some n) :
    ∃ t : ByteArray, (t.toList == x.toList) = false ∧ ∀ W, Calls Tryz.prog 55 #[.agg #[.int .i64 a1, .int .i64 a2, .int .i64 a3, .int .i64 a4, .int .i64 a5, .int .i64 a6]] W fun e w' => e = .returned (.string t) ∧ Below W.heap.size W w' := by
  rw [hn] at ho
  unfold rsecI at ho
  split at ho
  · rename_i hh
    obtain ⟨hv, k1, k2, k3⟩ := hh
    have hm : MoOk ⟨(num a1 a2 a3 + 3) % 7, a1, a2, a3, a4, a5, a6⟩ := by
      have b := lenI_bd a1 a2
      obtain ⟨h1, h2, h3, h4, h5, h6⟩ := hv
      exact ⟨by dsimp only; omega, by dsimp only; omega, by dsimp only; omega, by dsimp only; omega, ⟨k1, k2, k3⟩⟩
    refine ⟨strL (secondL ⟨(num a1 a2 a3 + 3) % 7, a1, a2, a3, a4, a5, a6⟩), ?_, fun W => rsecond_at _ a1 a2 a3 a4 a5 a6 _ hv hm.clk rfl rfl W⟩
    cases hb : ((strL (secondL ⟨(num a1 a2 a3 + 3) % 7, a1, a2, a3, a4, a5, a6⟩)).toList == x.toList) with
    | false => rfl
    | true =>
      have h1 := byt_eq.1 hb
      rw [btL_strL (second_byts hm)] at h1
      exact absurd h1.symm (hx _ hm)
  · cases ho
end Go.Proofs.YtodibjpojfipoaaGreatDoor
namespace Go.Proofs.YtodibjpojfipoaaGreatDoor
open Go.RowKit
set_option linter.unusedVariables false
set_option linter.unusedSimpArgs false
set_option maxRecDepth 10000

def FirstIs (x : ByteArray) (c1 c2 c3 c4 : ByteArray) : Prop := cutB x 12 16 = c1 ∧ cutB x 8 11 = c2 ∧ cutB x 5 7 = c3 ∧ cutB x 17 25 = c4
set_option maxHeartbeats 8000000 in
theorem rparse_rest (x : ByteArray) (hz : x.size ≤ 1000000) (hns : ∀ m, MoOk m → btL x ≠ secondL m) (now Y : Int) (hY : YearIs (now / 86400) Y) (n0 : 0 ≤ now) (n1 : now ≤ 220752000000) (w : World) :
    Calls Tryz.prog 27 #[.string x, .int .i64 now] w (OptP (parI Y (btL x)) w) := by
  have e1 : decide (now < 0) = false := decide_eq_false (by omega)
  have e2 : decide (220752000000 < now) = false := decide_eq_false (by omega)
  have HNS := Lib.hid hns
  have HZ := Lib.hid hz
  have YA := Lib.hid (fun W => rat_at now Y hY n0 n1 W)
  have yb := hY.bd (by omega) (by omega)
  obtain ⟨R, hR⟩ : ∃ R, parI Y (btL x) = R := ⟨_, rfl⟩
  have HR := Lib.hid hR
  rw [hR]
  clear hR hns hz hY n0 n1
  obtain ⟨c1, hc1⟩ : ∃ c, cutB x 12 16 = c := ⟨_, rfl⟩
  have Cc1 := Lib.hid (fun W => rcut_at x c1 12 16 (by decide) hc1 W)
  have zc1 := cutB_size x 12 16
  rw [hc1] at zc1
  obtain ⟨c2, hc2⟩ : ∃ c, cutB x 8 11 = c := ⟨_, rfl⟩
  have Cc2 := Lib.hid (fun W => rcut_at x c2 8 11 (by decide) hc2 W)
  have zc2 := cutB_size x 8 11
  rw [hc2] at zc2
  obtain ⟨c3, hc3⟩ : ∃ c, cutB x 5 7 = c := ⟨_, rfl⟩
  have Cc3 := Lib.hid (fun W => rcut_at x c3 5 7 (by decide) hc3 W)
  have zc3 := cutB_size x 5 7
  rw [hc3] at zc3
  obtain ⟨c4, hc4⟩ : ∃ c, cutB x 17 25 = c := ⟨_, rfl⟩
  have Cc4 := Lib.hid (fun W => rcut_at x c4 17 25 (by decide) hc4 W)
  have zc4 := cutB_size x 17 25
  rw [hc4] at zc4
  obtain ⟨a1, ha1⟩ : ∃ c, rnumI (btL c1) = c := ⟨_, rfl⟩
  have Na1 := Lib.hid (fun W => rnum_at c1 a1 ha1 (by omega) W)
  obtain ⟨a3, ha3⟩ : ∃ c, rnumI (btL c3) = c := ⟨_, rfl⟩
  have Na3 := Lib.hid (fun W => rnum_at c3 a3 ha3 (by omega) W)
  obtain ⟨a4, ha4⟩ : ∃ c, rnumI (btL (cutB c4 0 2)) = c := ⟨_, rfl⟩
  obtain ⟨a5, ha5⟩ : ∃ c, rnumI (btL (cutB c4 3 5)) = c := ⟨_, rfl⟩
  obtain ⟨a6, ha6⟩ : ∃ c, rnumI (btL (cutB c4 6 8)) = c := ⟨_, rfl⟩
  have Ka := Lib.hid (fun q1 q2 q3 q4 q5 q6 W => rclocked_at q1 q2 q3 q4 q5 q6 a4 a5 a6 c4 ha4 ha5 ha6 W)
  have HF : Hid (∀ a2 : Int, (∀ k : Nat, k < 12 → btL c2 = monN.getD k [] → a2 = (k : Int) + 1) → ∀ m, MoOk m → btL x = firstL m → a1 = m.y ∧ a2 = m.mo ∧ a3 = m.d ∧ a4 = m.h ∧ a5 = m.mi ∧ a6 = m.s) := Lib.hid (fun a2 h2 m hm hx => by
    obtain ⟨p1, p2, p3, p4⟩ := first_parts hm hx
    rw [hc1] at p1
    rw [hc2] at p2
    rw [hc3] at p3
    rw [hc4] at p4
    obtain ⟨q1, q2, q3⟩ := clk_parts hm.clk p4
    have y := hm.y
    have mo := hm.mo
    have d := hm.d
    refine ⟨by rw [← ha1, p1]; exact rnumI_pad4 _ y.1 y.2, ?_, by rw [← ha3, p3]; exact rnumI_pad _ d.1 d.2, by rw [← ha4, q1], by rw [← ha5, q2], by rw [← ha6, q3]⟩
    have := h2 (m.mo - 1).toNat (by omega) p2
    omega)
  obtain ⟨p1, hp1⟩ : ∃ c, cutB x 20 24 = c := ⟨_, rfl⟩
  have Cp1 := Lib.hid (fun W => rcut_at x p1 20 24 (by decide) hp1 W)
  have zp1 := cutB_size x 20 24
  rw [hp1] at zp1
  obtain ⟨p2, hp2⟩ : ∃ c, cutB x 4 7 = c := ⟨_, rfl⟩
  have Cp2 := Lib.hid (fun W => rcut_at x p2 4 7 (by decide) hp2 W)
  have zp2 := cutB_size x 4 7
  rw [hp2] at zp2
  obtain ⟨p3, hp3⟩ : ∃ c, cutB x 8 10 = c := ⟨_, rfl⟩
  have Cp3 := Lib.hid (fun W => rcut_at x p3 8 10 (by decide) hp3 W)
  have zp3 := cutB_size x 8 10
  rw [hp3] at zp3
  obtain ⟨p4, hp4⟩ : ∃ c, cutB x 11 19 = c := ⟨_, rfl⟩
  have Cp4 := Lib.hid (fun W => rcut_at x p4 11 19 (by decide) hp4 W)
  have zp4 := cutB_size x 11 19
  rw [hp4] at zp4
  obtain ⟨p5, hp5⟩ : ∃ c, cutB x 9 10 = c := ⟨_, rfl⟩
  have Cp5 := Lib.hid (fun W => rcut_at x p5 9 10 (by decide) hp5 W)
  have zp5 := cutB_size x 9 10
  rw [hp5] at zp5
  obtain ⟨b1, hb1⟩ : ∃ c, rnumI (btL p1) = c := ⟨_, rfl⟩
  have Nb1 := Lib.hid (fun W => rnum_at p1 b1 hb1 (by omega) W)
  obtain ⟨b3, hb3⟩ : ∃ c, rnumI (btL p3) = c := ⟨_, rfl⟩
  have Nb3 := Lib.hid (fun W => rnum_at p3 b3 hb3 (by omega) W)
  obtain ⟨b9, hb9⟩ : ∃ c, rnumI (btL p5) = c := ⟨_, rfl⟩
  have Nb9 := Lib.hid (fun W => rnum_at p5 b9 hb9 (by omega) W)
  obtain ⟨b4, hb4⟩ : ∃ c, rnumI (btL (cutB p4 0 2)) = c := ⟨_, rfl⟩
  obtain ⟨b5, hb5⟩ : ∃ c, rnumI (btL (cutB p4 3 5)) = c := ⟨_, rfl⟩
  obtain ⟨b6, hb6⟩ : ∃ c, rnumI (btL (cutB p4 6 8)) = c := ⟨_, rfl⟩
  have Kb := Lib.hid (fun q1 q2 q3 q4 q5 q6 W => rclocked_at q1 q2 q3 q4 q5 q6 b4 b5 b6 p4 hb4 hb5 hb6 W)
  have HT : Hid (∀ b2 bd : Int, (∀ k : Nat, k < 12 → btL p2 = monN.getD k [] → b2 = (k : Int) + 1) → ((btL x)[8]? = some 32 → bd = b9) → ((btL x)[8]? ≠ some 32 → bd = b3) → ∀ m, MoOk m → btL x = thirdL m → b1 = m.y ∧ b2 = m.mo ∧ bd = m.d ∧ b4 = m.h ∧ b5 = m.mi ∧ b6 = m.s) := Lib.hid (fun b2 bd h2 h8 h9 m hm hx => by
    obtain ⟨r1, r2, r3, r4, r5, r6⟩ := third_parts hm hx
    rw [hp1] at r1
    rw [hp2] at r2
    rw [hp3] at r3
    rw [hp4] at r4
    rw [hp5] at r5
    obtain ⟨q1, q2, q3⟩ := clk_parts hm.clk r4
    have y := hm.y
    have mo := hm.mo
    have d := hm.d
    refine ⟨by rw [← hb1, r1]; exact rnumI_pad4 _ y.1 y.2, ?_, ?_, by rw [← hb4, q1], by rw [← hb5, q2], by rw [← hb6, q3]⟩
    · have := h2 (m.mo - 1).toNat (by omega) r2
      omega
    · by_cases h10 : m.d < 10
      · have hd : dayL m.d = [32] ++ padN 1 m.d.toNat := by unfold dayL; rw [if_pos h10]
        rw [hd] at r5 r6
        rw [h8 (by rw [r6]; rfl), ← hb9, r5]
        exact rnumI_pad1 _ d.1 h10
      · have hd : dayL m.d = padN 2 m.d.toNat := by unfold dayL; rw [if_neg h10]
        rw [hd] at r3 r6
        rw [h9 (by
          rw [r6, pad2_is]
          simp only [List.getElem?_cons_zero, ne_eq, Option.some.injEq]
          omega), ← hb3, r3]
        exact rnumI_pad _ d.1 d.2)
  clear hc1 hc2 hc3 hc4 ha1 ha3 ha4 ha5 ha6 hp1 hp2 hp3 hp4 hp5 hb1 hb3 hb4 hb5 hb6 hb9 zc1 zc2 zc3 zc4 zp1 zp2 zp3 zp4 zp5
  go_enter Tryz.func27, Tryz.ntmps27
  go_wp2_with fail
  refine (Cc1.out _).mono ?_
  rintro e wx ⟨rfl, hw⟩
  subst wx
  go_wp2_with fail
  refine (Na1.out _).mono ?_
  rintro e wx ⟨rfl, hw⟩
  subst wx
  go_wp2_with fail
  refine (Cc2.out _).mono ?_
  rintro e wx ⟨rfl, hw⟩
  subst wx
  go_wp2_with fail
  refine (rmonth_at c2 _).mono ?_
  rintro e w1 ⟨a2, rfl, m0, m1, B1, hj⟩
  have B1 := Lib.hid B1
  have HF2 := Lib.hid (HF.out a2 hj)
  clear hj HF m0 m1
  go_wp2_with fail
  refine (Cc3.out _).mono ?_
  rintro e wx ⟨rfl, hw⟩
  subst wx
  go_wp2_with fail
  refine (Na3.out _).mono ?_
  rintro e wx ⟨rfl, hw⟩
  subst wx
  go_wp2_with fail
  refine (Cc4.out _).mono ?_
  rintro e wx ⟨rfl, hw⟩
  subst wx
  go_wp2_with fail
  refine (Ka.out _ _ _ _ _ _ _).mono ?_
  rintro e w2 ⟨rfl, hb⟩
  have B2 := Lib.hid (B1.out.trans (hb.mono B1.out.size))
  clear hb B1
  obtain ⟨g, hg⟩ : ∃ g, w2.heap.size = g := ⟨_, rfl⟩
  obtain ⟨o1, ho1⟩ : ∃ o, rsecI a1 a2 a3 a4 a5 a6 = o := ⟨_, rfl⟩
  have TR := Lib.hid (first_try (Y := Y) HF2.out ho1)
  rw [HR.out] at TR
  clear HF2 Cc1 Cc2 Cc3 Cc4 Na1 Na3 Ka
  go_wp2_with fail
  refine calls_forget (fun wx => Hid (Box wx g #[.int .i64 a1, .int .i64 a2, .int .i64 a3, .int .i64 a4, .int .i64 a5, .int .i64 a6] 60) ∧ Hid (Below w.heap.size w wx)) ⟨Lib.hid (dBox_new hg.symm), Lib.hid (B2.out.alloc B2.out.size _)⟩ ?_
  clear hg B2
  rintro w3 ⟨X3, B3⟩
  refine (rsec_at a1 a2 a3 a4 a5 a6 o1 ho1 _).mono ?_
  rintro e w4 ⟨rfl, hb⟩
  have X4 := Lib.hid (X3.out.later hb)
  have B4 := Lib.hid (B3.out.trans (hb.mono B3.out.size))
  clear hb X3 B3 ho1
  have c := X4.out.cell
  have c0 := c 0
  have c1 := c 1
  have c2 := c 2
  have c3 := c 3
  have c4 := c 4
  have c5 := c 5
  have gl := X4.out.lt
  simp only [List.getElem?_toArray, List.getElem?_cons_zero, List.getElem?_cons_succ] at c0 c1 c2 c3 c4 c5
  clear c
  go_upto_region 7 with fail
  go_cut [7, 46] (fun nv v wx => ∃ (q : Bool) (n : Int), v = .bool q ∧ nv = .int .i64 n ∧ Hid (q = true → R = some n) ∧ Hid (q = false → ∀ m, MoOk m → btL x = firstL m → secI m = none) ∧ Hid (Below w.heap.size w wx))
  case first =>
    cases o1 with
    | none =>
      have FN := Lib.hid (TR.out.1 rfl)
      clear TR
      simp only [Option.getD_none, Option.isSome_none]
      go_wp2
      go_meet
      exact ⟨false, 0, rfl, rfl, Lib.hid (fun h => by cases h), Lib.hid (fun _ => FN.out), B4⟩
    | some n =>
      simp only [Option.getD_some, Option.isSome_some]
      obtain ⟨t, b, ht, hb1, hb2, FC⟩ := TR.out.2 n rfl
      have FC := Lib.hid FC
      have H1 := Lib.hid hb1
      have H2 := Lib.hid hb2
      clear hb1 hb2 TR
      go_wp2_with fail
      refine (FC.out _).mono ?_
      rintro e w5 ⟨rfl, hb⟩
      have B5 := Lib.hid (B4.out.trans (hb.mono B4.out.size))
      clear hb
      go_wp2
      go_meet
      exact ⟨b, n, rfl, rfl, H1, H2, B5⟩
  case rest =>
    obtain ⟨q, n, rfl, rfl, H1, H2, B5⟩ := hcut
    cases q with
    | true =>
      have HE := Lib.hid (H1.out rfl)
      clear H1 H2
      go_wp2
      go_ret2
      exact ⟨by rw [HE.out]; rfl, B5.out⟩
    | false =>
      have F1 := Lib.hid (H2.out rfl)
      clear H1 H2 c0 c1 c2 c3 c4 c5 gl X4 B4 TR
      go_wp2_with fail
      refine (Cp1.out _).mono ?_
      rintro e wx ⟨rfl, hw⟩
      subst wx
      go_wp2_with fail
      refine (Nb1.out _).mono ?_
      rintro e wx ⟨rfl, hw⟩
      subst wx
      go_wp2_with fail
      refine (Cp2.out _).mono ?_
      rintro e wx ⟨rfl, hw⟩
      subst wx
      go_wp2_with fail
      refine (rmonth_at p2 _).mono ?_
      rintro e w6 ⟨b2, rfl, m0, m1, B6, hj⟩
      have B6 := Lib.hid (B5.out.trans (B6.mono B5.out.size))
      have HT2 := Lib.hid (fun bd => HT.out b2 bd hj)
      clear hj HT m0 m1 B5
      go_wp2_with fail
      refine (Cp3.out _).mono ?_
      rintro e wx ⟨rfl, hw⟩
      subst wx
      go_wp2_with fail
      refine (Nb3.out _).mono ?_
      rintro e wx ⟨rfl, hw⟩
      subst wx
      go_wp2_with fail
      refine (Cp4.out _).mono ?_
      rintro e wx ⟨rfl, hw⟩
      subst wx
      go_wp2_with fail
      refine (Kb.out _ _ _ _ _ _ _).mono ?_
      rintro e w7 ⟨rfl, hb⟩
      have B7 := Lib.hid (B6.out.trans (hb.mono B6.out.size))
      clear hb B6
      obtain ⟨g2, hg2⟩ : ∃ g, w7.heap.size = g := ⟨_, rfl⟩
      have HG2 : Hid (w.heap.size ≤ g2) := Lib.hid (hg2 ▸ B7.out.size)
      go_upto_region 10 with fail
      refine code_forget (fun wx => Hid (Box wx g2 #[.int .i64 b1, .int .i64 b2, .int .i64 b3, .int .i64 b4, .int .i64 b5, .int .i64 b6] 60) ∧ Hid (Below w.heap.size w wx)) ⟨Lib.hid (dBox_new hg2.symm), Lib.hid (B7.out.alloc B7.out.size _)⟩ ?_
      clear hg2 B7
      rintro w8 ⟨X8, B8⟩
      obtain ⟨Q, hQ⟩ : ∃ q : Bool, decide ((btL x)[8]? = some 32) = q := ⟨_, rfl⟩
      have HQ := Lib.hid hQ
      clear hQ
      go_cut [68] (fun v wx => v = .bool Q ∧ wx = w8)
      case first =>
        by_cases h8 : 8 < x.size
        · have e8 : decide (8 < x.size) = true := decide_eq_true h8
          have e8' : decide ((8 : Int) < (x.size : Int)) = true := decide_eq_true (by omega)
          obtain ⟨z8, hz8⟩ : ∃ z : Int, (x[8].toNat : Int) = z := ⟨_, rfl⟩
          have hg : (btL x)[8]? = some z8 := by
            have := btD_cons x 8 h8
            have h2 := congrArg List.head? this
            rw [List.head?_drop] at h2
            rw [h2, hz8]
            rfl
          have eq : (z8 == 32) = Q := by rw [← HQ.out, hg]; by_cases h : z8 = 32 <;> simp [h]
          clear hg
          go_wp2
          go_meet
          exact ⟨rfl, rfl⟩
        · have e8 : decide (8 < x.size) = false := decide_eq_false h8
          have e8' : decide ((8 : Int) < (x.size : Int)) = false := decide_eq_false (by omega)
          have e : Q = false := by rw [← HQ.out, List.getElem?_eq_none (by rw [btL_length]; omega)]; rfl
          subst e
          go_wp2
          go_meet
          exact ⟨rfl, rfl⟩
      case rest =>
      obtain ⟨rfl, he⟩ := hcut
      have he := he.symm
      subst he
      have f8 := X8.out.free 2
      have f8c := X8.out.cell 2
      have gl := X8.out.lt
      simp only [List.getElem?_toArray, List.getElem?_cons_zero, List.getElem?_cons_succ] at f8c
      go_upto_if 68 with fail
      go_cut [] (fun wx => ∃ bd : Int, Hid (∀ m, MoOk m → btL x = thirdL m → b1 = m.y ∧ b2 = m.mo ∧ bd = m.d ∧ b4 = m.h ∧ b5 = m.mi ∧ b6 = m.s) ∧ Hid (Box wx g2 #[.int .i64 b1, .int .i64 b2, .int .i64 bd, .int .i64 b4, .int .i64 b5, .int .i64 b6] 60) ∧ Hid (Below w.heap.size w wx))
      case first =>
        cases Q with
        | true =>
          have FB := Lib.hid (HT2.out b9 (fun _ => rfl) (fun h => absurd (of_decide_eq_true HQ.out) h))
          clear HT2
          go_wp2_with fail
          refine (Cp5.out _).mono ?_
          rintro e wx ⟨rfl, hw⟩
          subst wx
          go_wp2_with fail
          refine (Nb9.out _).mono ?_
          rintro e wx ⟨rfl, hw⟩
          subst wx
          have X9 := Lib.hid (X8.out.set 2 (.int .i64 b9))
          have B9 := Lib.hid (B8.out.setCell (p := ⟨g2, 2, none⟩) HG2.out (.int .i64 b9))
          go_wp2
          go_meet
          exact ⟨b9, FB, X9, B9⟩
        | false =>
          have FB := Lib.hid (HT2.out b3 (fun h => absurd h (of_decide_eq_false HQ.out)) (fun _ => rfl))
          clear HT2
          go_wp2
          go_meet
          exact ⟨b3, FB, X8, B8⟩
      case rest =>
      obtain ⟨bd, FB, X9, B9⟩ := hcut
      clear f8 f8c gl X8 B8 HT2 HQ
      obtain ⟨o2, ho2⟩ : ∃ o, rsecI b1 b2 bd b4 b5 b6 = o := ⟨_, rfl⟩
      have TT := Lib.hid (third_try (Y := Y) FB.out ho2)
      rw [HR.out] at TT
      have c := X9.out.cell
      have c0 := c 0
      have c1 := c 1
      have c2 := c 2
      have c3 := c 3
      have c4 := c 4
      have c5 := c 5
      have gl := X9.out.lt
      simp only [List.getElem?_toArray, List.getElem?_cons_zero, List.getElem?_cons_succ] at c0 c1 c2 c3 c4 c5
      clear c
      go_wp2_with fail
      refine (rsec_at b1 b2 bd b4 b5 b6 o2 ho2 _).mono ?_
      rintro e w10 ⟨rfl, hb⟩
      have X10 := Lib.hid (X9.out.later hb)
      have B10 := Lib.hid (B9.out.trans (hb.mono B9.out.size))
      clear hb X9 B9 ho2 FB
      clear c0 c1 c2 c3 c4 c5 gl
      have c := X10.out.cell
      have c0 := c 0
      have c1 := c 1
      have c2 := c 2
      have c3 := c 3
      have c4 := c 4
      have c5 := c 5
      have gl := X10.out.lt
      simp only [List.getElem?_toArray, List.getElem?_cons_zero, List.getElem?_cons_succ] at c0 c1 c2 c3 c4 c5
      clear c
      go_upto_region 13 with fail
      go_cut [10, 84] (fun nv v wx => ∃ (q : Bool) (n : Int), v = .bool q ∧ nv = .int .i64 n ∧ Hid (q = true → R = some n) ∧ Hid (q = false → ∀ m, MoOk m → btL x = thirdL m → secI m = none) ∧ Hid (Below w.heap.size w wx))
      case first =>
        cases o2 with
        | none =>
          have FN := Lib.hid (TT.out.1 rfl)
          clear TT
          simp only [Option.getD_none, Option.isSome_none]
          go_wp2
          go_meet
          exact ⟨false, 0, rfl, rfl, Lib.hid (fun h => by cases h), Lib.hid (fun _ => FN.out), B10⟩
        | some n =>
          simp only [Option.getD_some, Option.isSome_some]
          obtain ⟨t, b, ht, hb1, hb2, FC⟩ := TT.out.2 n rfl
          have FC := Lib.hid FC
          have H1 := Lib.hid hb1
          have H2 := Lib.hid hb2
          clear hb1 hb2 TT
          go_wp2_with fail
          refine (FC.out _).mono ?_
          rintro e w5 ⟨rfl, hb⟩
          have B5 := Lib.hid (B10.out.trans (hb.mono B10.out.size))
          clear hb
          go_wp2
          go_meet
          exact ⟨b, n, rfl, rfl, H1, H2, B5⟩
      case rest =>
        obtain ⟨q, n, rfl, rfl, H1, H2, B11⟩ := hcut
        cases q with
        | true =>
          have HE := Lib.hid (H1.out rfl)
          clear H1 H2
          go_wp2
          go_ret2
          exact ⟨by rw [HE.out]; rfl, B11.out⟩
        | false =>
          clear c0 c1 c2 c3 c4 c5 gl X10 B10 TT
          have HNO : Hid (R = none) := Lib.hid (by rw [← HR.out]; exact par_no F1.out HNS.out (H2.out rfl))
          clear H1 H2 F1 HR
          go_wp2
          go_loop [12] (fun i => ∃ k : Nat, i = .int .i64 (k : Int) ∧ k ≤ x.size) (fun i => x.size - (intOf i).toNat)
          case atStart => exact ⟨0, rfl, by omega⟩
          case round =>
            obtain ⟨k, rfl, k1⟩ := hrel
            by_cases kx : k < x.size
            · have f1 : decide ((k : Int) < (x.size : Int)) = true := decide_eq_true (by omega)
              have f2 : decide (k < x.size) = true := decide_eq_true kx
              obtain ⟨c, hc⟩ : ∃ c : Int, (x[k].toNat : Int) = c := ⟨_, rfl⟩
              by_cases hce : c = 44
              · have hne : (c != 44) = false := by simp [hce]
                have kz := HZ.out
                obtain ⟨tt, htt⟩ : ∃ c, cutB x k x.size = c := ⟨_, rfl⟩
                have CT := Lib.hid (fun W => rcut_at x tt k x.size (by omega) htt W)
                go_wp2_with fail
                refine (CT.out _).mono ?_
                rintro e wx ⟨rfl, hw⟩
                subst wx
                clear CT f1 f2 htt hc hce hne kx
                obtain ⟨u1, hu1⟩ : ∃ u, cutB tt 9 11 = u := ⟨_, rfl⟩
                have D1 := Lib.hid (fun W => rcut_at tt u1 9 11 (by decide) hu1 W)
                have z1 := cutB_size tt 9 11
                rw [hu1] at z1
                obtain ⟨u2, hu2⟩ : ∃ u, cutB tt 5 8 = u := ⟨_, rfl⟩
                have D2 := Lib.hid (fun W => rcut_at tt u2 5 8 (by decide) hu2 W)
                have z2 := cutB_size tt 5 8
                rw [hu2] at z2
                obtain ⟨u3, hu3⟩ : ∃ u, cutB tt 2 4 = u := ⟨_, rfl⟩
                have D3 := Lib.hid (fun W => rcut_at tt u3 2 4 (by decide) hu3 W)
                have z3 := cutB_size tt 2 4
                rw [hu3] at z3
                obtain ⟨u4, hu4⟩ : ∃ u, cutB tt 12 20 = u := ⟨_, rfl⟩
                have D4 := Lib.hid (fun W => rcut_at tt u4 12 20 (by decide) hu4 W)
                have z4 := cutB_size tt 12 20
                rw [hu4] at z4
                obtain ⟨yy, hyy⟩ : ∃ c, rnumI (btL u1) = c := ⟨_, rfl⟩
                have N1 := Lib.hid (fun W => rnum_at u1 yy hyy (by omega) W)
                obtain ⟨dd, hdd⟩ : ∃ c, rnumI (btL u3) = c := ⟨_, rfl⟩
                have N3 := Lib.hid (fun W => rnum_at u3 dd hdd (by omega) W)
                obtain ⟨d4, hd4⟩ : ∃ c, rnumI (btL (cutB u4 0 2)) = c := ⟨_, rfl⟩
                obtain ⟨d5, hd5⟩ : ∃ c, rnumI (btL (cutB u4 3 5)) = c := ⟨_, rfl⟩
                obtain ⟨d6, hd6⟩ : ∃ c, rnumI (btL (cutB u4 6 8)) = c := ⟨_, rfl⟩
                have K4 := Lib.hid (fun q1 q2 q3 q4 q5 q6 W => rclocked_at q1 q2 q3 q4 q5 q6 d4 d5 d6 u4 hd4 hd5 hd6 W)
                have YB : Hid (u1.size = 2 → 0 ≤ yy → yy < 100) := Lib.hid (fun h h0 => rnumI_two (by rw [btL_length]; exact h) hyy h0)
                clear hu1 hu2 hu3 hu4 z2 z3 z4 hyy hdd hd4 hd5 hd6
                go_wp2_with fail
                refine (D1.out _).mono ?_
                rintro e wx ⟨rfl, hw⟩
                subst wx
                go_wp2_with fail
                refine (N1.out _).mono ?_
                rintro e wx ⟨rfl, hw⟩
                subst wx
                by_cases y0 : yy < 0
                · have f0 : decide (yy < 0) = true := decide_eq_true y0
                  go_wp2
                  go_ret2
                  exact ⟨by rw [HNO.out]; rfl, B11.out⟩
                · have f0 : decide (yy < 0) = false := decide_eq_false y0
                  obtain ⟨sz, hsz⟩ : ∃ n, u1.size = n := ⟨_, rfl⟩
                  rw [hsz] at YB z1
                  have HSZ := Lib.hid hsz
                  by_cases hs2 : sz = 2
                  · have yy0 : 0 ≤ yy := by omega
                    have yy1 := YB.out hs2 yy0
                    have l1 : (((u1.size : Nat) : Int) != 2) = false := by rw [hsz, hs2]; rfl
                    have l1' : (u1.size != 2) = false := by rw [hsz, hs2]; rfl
                    have YR := Lib.hid (fun W => ryear_at yy Y yy0 yy1 yb.1 yb.2 W)
                    obtain ⟨F, hF⟩ : ∃ F, fyI Y yy = F := ⟨_, rfl⟩
                    rw [hF] at YR
                    clear hF hs2 YB hsz
                    go_wp2_with fail
                    refine (D1.out _).mono ?_
                    rintro e wx ⟨rfl, hw⟩
                    subst wx
                    go_wp2_with fail
                    refine (YA.out _).mono ?_
                    rintro e wx ⟨rfl, hw⟩
                    subst wx
                    go_wp2_with fail
                    refine (YR.out _).mono ?_
                    rintro e wx ⟨rfl, hw⟩
                    subst wx
                    go_wp2_with fail
                    refine (D2.out _).mono ?_
                    rintro e wx ⟨rfl, hw⟩
                    subst wx
                    go_wp2_with fail
                    refine (rmonth_at u2 _).mono ?_
                    rintro e w12 ⟨v, rfl, v0, v1, hb, hj⟩
                    have B12 := Lib.hid (B11.out.trans (hb.mono B11.out.size))
                    clear hb hj v0 v1 B11
                    go_wp2_with fail
                    refine (D3.out _).mono ?_
                    rintro e wx ⟨rfl, hw⟩
                    subst wx
                    go_wp2_with fail
                    refine (N3.out _).mono ?_
                    rintro e wx ⟨rfl, hw⟩
                    subst wx
                    go_wp2_with fail
                    refine (D4.out _).mono ?_
                    rintro e wx ⟨rfl, hw⟩
                    subst wx
                    go_wp2_with fail
                    refine (K4.out _ _ _ _ _ _ _).mono ?_
                    rintro e w13 ⟨rfl, hb⟩
                    have B13 := Lib.hid (B12.out.trans (hb.mono B12.out.size))
                    clear hb B12
                    obtain ⟨g3, hg3⟩ : ∃ g, w13.heap.size = g := ⟨_, rfl⟩
                    obtain ⟨o3, ho3⟩ : ∃ o, rsecI F v dd d4 d5 d6 = o := ⟨_, rfl⟩
                    have SN := Lib.hid (second_no HNS.out ho3)
                    go_wp2_with fail
                    refine calls_forget (fun wx => Hid (Box wx g3 #[.int .i64 F, .int .i64 v, .int .i64 dd, .int .i64 d4, .int .i64 d5, .int .i64 d6] 60) ∧ Hid (Below w.heap.size w wx)) ⟨Lib.hid (dBox_new hg3.symm), Lib.hid (B13.out.alloc B13.out.size _)⟩ ?_
                    clear hg3 B13
                    rintro w14 ⟨X14, B14⟩
                    refine (rsec_at F v dd d4 d5 d6 o3 ho3 _).mono ?_
                    rintro e w15 ⟨rfl, hb⟩
                    have X15 := Lib.hid (X14.out.later hb)
                    have B15 := Lib.hid (B14.out.trans (hb.mono B14.out.size))
                    clear hb X14 B14 ho3
                    have c := X15.out.cell
                    have c0 := c 0
                    have c1 := c 1
                    have c2 := c 2
                    have c3 := c 3
                    have c4 := c 4
                    have c5 := c 5
                    have gl := X15.out.lt
                    simp only [List.getElem?_toArray, List.getElem?_cons_zero, List.getElem?_cons_succ] at c0 c1 c2 c3 c4 c5
                    clear c
                    cases o3 with
                    | none =>
                      clear SN
                      simp only [Option.getD_none, Option.isSome_none]
                      go_wp2
                      go_ret2
                      exact ⟨by rw [HNO.out]; rfl, B15.out⟩
                    | some n =>
                      simp only [Option.getD_some, Option.isSome_some]
                      obtain ⟨t, ht, FC⟩ := SN.out n rfl
                      have FC := Lib.hid FC
                      clear SN
                      go_wp2_with fail
                      refine (FC.out _).mono ?_
                      rintro e w16 ⟨rfl, hb⟩
                      have B16 := Lib.hid (B15.out.trans (hb.mono B15.out.size))
                      clear hb
                      go_wp2
                      go_ret2
                      exact ⟨by rw [HNO.out]; rfl, B16.out⟩
                  · have l1 : (((u1.size : Nat) : Int) != 2) = true := by rw [hsz]; exact bne_iff_ne.2 (by omega)
                    have l1' : (u1.size != 2) = true := by rw [hsz]; exact bne_iff_ne.2 hs2
                    clear hsz
                    go_wp2_with fail
                    refine (D1.out _).mono ?_
                    rintro e wx ⟨rfl, hw⟩
                    subst wx
                    go_wp2
                    go_ret2
                    exact ⟨by rw [HNO.out]; rfl, B11.out⟩
              · have hne : (c != 44) = true := bne_iff_ne.2 hce
                have kz := HZ.out
                go_wp2
                go_round
                case rel => exact ⟨k + 1, by simp, by omega⟩
                case measure => simp [intOf]; omega
            · have f1 : decide ((k : Int) < (x.size : Int)) = false := decide_eq_false (by omega)
              have f2 : decide (k < x.size) = false := decide_eq_false kx
              have kz := HZ.out
              obtain ⟨tt, htt⟩ : ∃ c, cutB x k x.size = c := ⟨_, rfl⟩
              have CT := Lib.hid (fun W => rcut_at x tt k x.size (by omega) htt W)
              go_wp2_with fail
              refine (CT.out _).mono ?_
              rintro e wx ⟨rfl, hw⟩
              subst wx
              clear CT f1 f2 htt kx
              obtain ⟨u1, hu1⟩ : ∃ u, cutB tt 9 11 = u := ⟨_, rfl⟩
              have D1 := Lib.hid (fun W => rcut_at tt u1 9 11 (by decide) hu1 W)
              have z1 := cutB_size tt 9 11
              rw [hu1] at z1
              obtain ⟨u2, hu2⟩ : ∃ u, cutB tt 5 8 = u := ⟨_, rfl⟩
              have D2 := Lib.hid (fun W => rcut_at tt u2 5 8 (by decide) hu2 W)
              have z2 := cutB_size tt 5 8
              rw [hu2] at z2
              obtain ⟨u3, hu3⟩ : ∃ u, cutB tt 2 4 = u := ⟨_, rfl⟩
              have D3 := Lib.hid (fun W => rcut_at tt u3 2 4 (by decide) hu3 W)
              have z3 := cutB_size tt 2 4
              rw [hu3] at z3
              obtain ⟨u4, hu4⟩ : ∃ u, cutB tt 12 20 = u := ⟨_, rfl⟩
              have D4 := Lib.hid (fun W => rcut_at tt u4 12 20 (by decide) hu4 W)
              have z4 := cutB_size tt 12 20
              rw [hu4] at z4
              obtain ⟨yy, hyy⟩ : ∃ c, rnumI (btL u1) = c := ⟨_, rfl⟩
              have N1 := Lib.hid (fun W => rnum_at u1 yy hyy (by omega) W)
              obtain ⟨dd, hdd⟩ : ∃ c, rnumI (btL u3) = c := ⟨_, rfl⟩
              have N3 := Lib.hid (fun W => rnum_at u3 dd hdd (by omega) W)
              obtain ⟨d4, hd4⟩ : ∃ c, rnumI (btL (cutB u4 0 2)) = c := ⟨_, rfl⟩
              obtain ⟨d5, hd5⟩ : ∃ c, rnumI (btL (cutB u4 3 5)) = c := ⟨_, rfl⟩
              obtain ⟨d6, hd6⟩ : ∃ c, rnumI (btL (cutB u4 6 8)) = c := ⟨_, rfl⟩
              have K4 := Lib.hid (fun q1 q2 q3 q4 q5 q6 W => rclocked_at q1 q2 q3 q4 q5 q6 d4 d5 d6 u4 hd4 hd5 hd6 W)
              have YB : Hid (u1.size = 2 → 0 ≤ yy → yy < 100) := Lib.hid (fun h h0 => rnumI_two (by rw [btL_length]; exact h) hyy h0)
              clear hu1 hu2 hu3 hu4 z2 z3 z4 hyy hdd hd4 hd5 hd6
              go_wp2_with fail
              refine (D1.out _).mono ?_
              rintro e wx ⟨rfl, hw⟩
              subst wx
              go_wp2_with fail
              refine (N1.out _).mono ?_
              rintro e wx ⟨rfl, hw⟩
              subst wx
              by_cases y0 : yy < 0
              · have f0 : decide (yy < 0) = true := decide_eq_true y0
                go_wp2
                go_ret2
                exact ⟨by rw [HNO.out]; rfl, B11.out⟩
              · have f0 : decide (yy < 0) = false := decide_eq_false y0
                obtain ⟨sz, hsz⟩ : ∃ n, u1.size = n := ⟨_, rfl⟩
                rw [hsz] at YB z1
                have HSZ := Lib.hid hsz
                by_cases hs2 : sz = 2
                · have yy0 : 0 ≤ yy := by omega
                  have yy1 := YB.out hs2 yy0
                  have l1 : (((u1.size : Nat) : Int) != 2) = false := by rw [hsz, hs2]; rfl
                  have l1' : (u1.size != 2) = false := by rw [hsz, hs2]; rfl
                  have YR := Lib.hid (fun W => ryear_at yy Y yy0 yy1 yb.1 yb.2 W)
                  obtain ⟨F, hF⟩ : ∃ F, fyI Y yy = F := ⟨_, rfl⟩
                  rw [hF] at YR
                  clear hF hs2 YB hsz
                  go_wp2_with fail
                  refine (D1.out _).mono ?_
                  rintro e wx ⟨rfl, hw⟩
                  subst wx
                  go_wp2_with fail
                  refine (YA.out _).mono ?_
                  rintro e wx ⟨rfl, hw⟩
                  subst wx
                  go_wp2_with fail
                  refine (YR.out _).mono ?_
                  rintro e wx ⟨rfl, hw⟩
                  subst wx
                  go_wp2_with fail
                  refine (D2.out _).mono ?_
                  rintro e wx ⟨rfl, hw⟩
                  subst wx
                  go_wp2_with fail
                  refine (rmonth_at u2 _).mono ?_
                  rintro e w12 ⟨v, rfl, v0, v1, hb, hj⟩
                  have B12 := Lib.hid (B11.out.trans (hb.mono B11.out.size))
                  clear hb hj v0 v1 B11
                  go_wp2_with fail
                  refine (D3.out _).mono ?_
                  rintro e wx ⟨rfl, hw⟩
                  subst wx
                  go_wp2_with fail
                  refine (N3.out _).mono ?_
                  rintro e wx ⟨rfl, hw⟩
                  subst wx
                  go_wp2_with fail
                  refine (D4.out _).mono ?_
                  rintro e wx ⟨rfl, hw⟩
                  subst wx
                  go_wp2_with fail
                  refine (K4.out _ _ _ _ _ _ _).mono ?_
                  rintro e w13 ⟨rfl, hb⟩
                  have B13 := Lib.hid (B12.out.trans (hb.mono B12.out.size))
                  clear hb B12
                  obtain ⟨g3, hg3⟩ : ∃ g, w13.heap.size = g := ⟨_, rfl⟩
                  obtain ⟨o3, ho3⟩ : ∃ o, rsecI F v dd d4 d5 d6 = o := ⟨_, rfl⟩
                  have SN := Lib.hid (second_no HNS.out ho3)
                  go_wp2_with fail
                  refine calls_forget (fun wx => Hid (Box wx g3 #[.int .i64 F, .int .i64 v, .int .i64 dd, .int .i64 d4, .int .i64 d5, .int .i64 d6] 60) ∧ Hid (Below w.heap.size w wx)) ⟨Lib.hid (dBox_new hg3.symm), Lib.hid (B13.out.alloc B13.out.size _)⟩ ?_
                  clear hg3 B13
                  rintro w14 ⟨X14, B14⟩
                  refine (rsec_at F v dd d4 d5 d6 o3 ho3 _).mono ?_
                  rintro e w15 ⟨rfl, hb⟩
                  have X15 := Lib.hid (X14.out.later hb)
                  have B15 := Lib.hid (B14.out.trans (hb.mono B14.out.size))
                  clear hb X14 B14 ho3
                  have c := X15.out.cell
                  have c0 := c 0
                  have c1 := c 1
                  have c2 := c 2
                  have c3 := c 3
                  have c4 := c 4
                  have c5 := c 5
                  have gl := X15.out.lt
                  simp only [List.getElem?_toArray, List.getElem?_cons_zero, List.getElem?_cons_succ] at c0 c1 c2 c3 c4 c5
                  clear c
                  cases o3 with
                  | none =>
                    clear SN
                    simp only [Option.getD_none, Option.isSome_none]
                    go_wp2
                    go_ret2
                    exact ⟨by rw [HNO.out]; rfl, B15.out⟩
                  | some n =>
                    simp only [Option.getD_some, Option.isSome_some]
                    obtain ⟨t, ht, FC⟩ := SN.out n rfl
                    have FC := Lib.hid FC
                    clear SN
                    go_wp2_with fail
                    refine (FC.out _).mono ?_
                    rintro e w16 ⟨rfl, hb⟩
                    have B16 := Lib.hid (B15.out.trans (hb.mono B15.out.size))
                    clear hb
                    go_wp2
                    go_ret2
                    exact ⟨by rw [HNO.out]; rfl, B16.out⟩
                · have l1 : (((u1.size : Nat) : Int) != 2) = true := by rw [hsz]; exact bne_iff_ne.2 (by omega)
                  have l1' : (u1.size != 2) = true := by rw [hsz]; exact bne_iff_ne.2 hs2
                  clear hsz
                  go_wp2_with fail
                  refine (D1.out _).mono ?_
                  rintro e wx ⟨rfl, hw⟩
                  subst wx
                  go_wp2
                  go_ret2
                  exact ⟨by rw [HNO.out]; rfl, B11.out⟩
theorem nowD_in {now : Int} (n0 : 0 ≤ now) (n1 : now ≤ 220752000000) : nowD now = now / 86400 := by
  unfold nowD
  split
  · omega
  · rw [if_neg (by omega)]
/-- The document's reading of any text is the program's. -/
theorem rparse_any (x : ByteArray) (hz : x.size ≤ 1000000) (now Y : Int) (hY : YearIs (nowD now) Y) (n0 : 0 ≤ now) (n1 : now ≤ 220752000000) (w : World) :
    Calls Tryz.prog 27 #[.string x, .int .i64 now] w (OptP (parI Y (btL x)) w) := by
  rw [nowD_in n0 n1] at hY
  by_cases h : ∃ m, MoOk m ∧ btL x = secondL m
  · obtain ⟨⟨wd, y, mo, d, hh, mi, s⟩, hm, hx⟩ := h
    have := rparse_second wd y mo d hh mi s hm x hx now Y hY n0 n1 w
    rw [hx, par_second hm Y]
    exact this
  · exact rparse_rest x hz (fun m hm hx => h ⟨m, hm, hx⟩) now Y hY n0 n1 w
end Go.Proofs.YtodibjpojfipoaaGreatDoor
namespace Go.Proofs.YtodibjpojfipoaaGreatDoor
open Go Go.RowKit
set_option linter.unusedVariables false
set_option linter.unusedSimpArgs false
set_option maxRecDepth 10000

theorem sec_bd {m : Mo} (hc : ClkOk m) {n : Int} (h : secI m = some n) : -100000000000000 ≤ n ∧ n ≤ 1000000000000000 := by
  unfold secI at h
  split at h
  · rename_i hh
    have r := num_range _ _ _ hh.1
    injection h with h
    rw [← h]
    unfold secN
    have h1 := hc.h
    have h2 := hc.mi
    have h3 := hc.s
    omega
  · cases h
theorem par_bd {Y n : Int} {l : List Int} (h : parI Y l = some n) : -100000000000000 ≤ n ∧ n ≤ 1000000000000000 := by
  unfold parI at h
  split at h
  · rename_i m hf
    exact sec_bd (first_fixP hf).1.clk h
  · split at h
    · rename_i m hd
      obtain ⟨k, hk, _, e⟩ := second_dashP hd
      rw [e] at h
      exact sec_bd (m := ⟨k.wd, fyI Y (k.y % 100), k.mo, k.d, k.h, k.mi, k.s⟩) ⟨hk.clk.h, hk.clk.mi, hk.clk.s⟩ h
    · split at h
      · rename_i m hs
        exact sec_bd (third_spcP hs).1.clk h
      · cases h
def retM : Option Int → Option Int
  | some s => if s < 0 then none else some (capI (mulI s 1000))
  | none => none
theorem retF_m (Y now : Int) (t : List Int) : retF Y now t = if (digP t).2 = true then some (afterI now (digP t).1) else retM (parI Y t) := by
  unfold retF
  split
  · rfl
  · unfold retM
    rfl
set_option maxHeartbeats 4000000 in
theorem rretry_at (s : ByteArray) (hs : s.size ≤ 1000000) (now Y : Int) (hY : YearIs (nowD (capI now / 1000)) Y) (w : World) :
    Calls Tryz.prog 11 #[.string s, .int .i64 now] w (OptP (retF Y now (btL (strL (trL (btL s))))) w) := by
  obtain ⟨L, hL⟩ : ∃ L, trL (btL s) = L := ⟨_, rfl⟩
  have HTR := Lib.hid (fun W : World => rtrim_at s L hL (by omega) W)
  have htl := trL_le (btL s)
  rw [btL_length] at htl
  rw [hL] at htl ⊢
  obtain ⟨t, ht⟩ : ∃ t, strL L = t := ⟨_, rfl⟩
  have htz : t.size ≤ 1000000 := by rw [← ht, strL_size]; omega
  rw [ht] at HTR ⊢
  clear ht hL htl hs
  have HY := Lib.hid hY
  have hc := capI_in now
  have MO := Lib.hid (fun W : World => rmoment7_at now W)
  have ON := Lib.hid (fun (n : Int) (W : World) => ron_at now n W)
  have HD := Lib.hid (fun W : World => rdigits_at t (by omega) W)
  obtain ⟨n, hn⟩ : ∃ n, (digP (btL t)).1 = n := ⟨_, rfl⟩
  obtain ⟨g, hg⟩ : ∃ g, (digP (btL t)).2 = g := ⟨_, rfl⟩
  rw [hn, hg] at HD
  have HP := Lib.hid (fun W : World => rparse_any t htz (capI now / 1000) Y hY (by omega) (by omega) W)
  obtain ⟨o, ho⟩ : ∃ o, parI Y (btL t) = o := ⟨_, rfl⟩
  have HO := Lib.hid ho
  rw [ho] at HP
  obtain ⟨R, hR⟩ : ∃ R, retF Y now (btL t) = R := ⟨_, rfl⟩
  have HR : Hid ((if g = true then some (afterI now n) else retM o) = R) := Lib.hid (by rw [← hR, retF_m, hn, hg, ho])
  rw [hR]
  obtain ⟨c, hcc⟩ : ∃ c, capI now = c := ⟨_, rfl⟩
  rw [hcc] at hc MO ON HP
  clear hY hn hg ho hR htz hcc
  have q1 : c.tdiv 1000 = c / 1000 := Int.tdiv_eq_ediv_of_nonneg hc.1
  have q2 : IntKind.i64.wrap (c / 1000) = c / 1000 := by rw [IntKind.wrap_i64]; omega
  obtain ⟨q, hq⟩ : ∃ q, c / 1000 = q := ⟨_, rfl⟩
  rw [hq] at HP q1 q2
  have hq3 : c / 1000 = q := hq
  go_enter Tryz.func11, Tryz.ntmps11
  go_wp2_with fail
  refine (MO.out _).mono ?_
  rintro e wx ⟨rfl, hw⟩
  subst wx
  go_wp2_with fail
  refine (HTR.out _).mono ?_
  rintro e wx ⟨rfl, hw⟩
  subst wx
  go_wp2_with fail
  refine (HD.out _).mono ?_
  rintro e w1 ⟨rfl, hb⟩
  have HB1 := Lib.hid hb
  clear hb HD
  cases g with
  | true =>
    have HE : Hid (R = some (afterI now n)) := Lib.hid (by rw [← HR.out]; rfl)
    clear HR
    go_wp2_with fail
    refine (ON.out n _).mono ?_
    rintro e wx ⟨rfl, hw⟩
    subst wx
    go_wp2
    go_ret2
    exact ⟨by rw [HE.out]; rfl, HB1.out⟩
  | false =>
    go_wp2_with fail
    refine (HP.out _).mono ?_
    rintro e w2 ⟨rfl, hb⟩
    have HB2 := Lib.hid (HB1.out.trans (hb.mono HB1.out.size))
    clear hb HB1 HP
    cases o with
    | none =>
      have HE : Hid (R = none) := Lib.hid (by rw [← HR.out]; rfl)
      clear HR
      go_wp2
      go_ret2
      exact ⟨by rw [HE.out]; rfl, HB2.out⟩
    | some z =>
      have zb := par_bd HO.out
      have HR2 : Hid ((if z < 0 then none else some (capI (mulI z 1000))) = R) := Lib.hid (by rw [← HR.out]; rfl)
      clear HR
      by_cases hz : z < 0
      · have d1 : decide (z < 0) = true := decide_eq_true hz
        have HE : Hid (R = none) := Lib.hid (by rw [← HR2.out, if_pos hz])
        clear HR2
        go_wp2
        go_ret2
        exact ⟨by rw [HE.out]; rfl, HB2.out⟩
      · have d1 : decide (z < 0) = false := decide_eq_false hz
        have hm : mulI z 1000 = z * 1000 := by
          unfold mulI
          rw [clampI_id (a := z) (by omega) (by omega), clampI_id (a := 1000) (by omega) (by omega), clampI_id (by omega) (by omega)]
        have HE : Hid (R = some (capI (z * 1000))) := Lib.hid (by rw [← HR2.out, if_neg hz, hm])
        have w1 : IntKind.i64.wrap (z * 1000) = z * 1000 := by rw [IntKind.wrap_i64]; omega
        obtain ⟨u, hu⟩ : ∃ u, z * 1000 = u := ⟨_, rfl⟩
        rw [hu] at HE w1
        have MU := Lib.hid (fun W : World => rmoment7_at u W)
        clear HR2 hm hz zb
        have w1 : IntKind.i64.wrap (z * 1000) = u := by rw [hu]; exact w1
        clear hu
        go_wp2_with fail
        refine (MU.out _).mono ?_
        rintro e wx ⟨rfl, hw⟩
        subst wx
        go_wp2
        go_ret2
        exact ⟨by rw [HE.out]; rfl, HB2.out⟩
set_option maxHeartbeats 4000000 in
theorem feedRetries_walk (s0 : ByteArray) (now : Int) (w : World) (_w0 : s0.size ≤ maxLen) (_w1 : (Lit.int .i64 now).wf = true) (hT : TabD w) :
    Calls Tryz.prog 4 #[.string s0, .int .i64 now] w fun e w' => e = .returned (.bool true) ∧ Below w.heap.size w w' := by
  have HT := Lib.hid hT
  obtain ⟨Y, hY⟩ := YearIs.some_ (nowD (capI now / 1000)) (nowD_bd _).1 (nowD_bd _).2
  have HY := Lib.hid hY
  clear hY hT
  go_enter Tryz.func4, Tryz.ntmps4
  go_upto_if 11 with fail
  go_cut [0] from 9 (fun v wx => ∃ x, v = .string x ∧ x.size ≤ 300 ∧ wx = w)
  case first =>
    by_cases h : 300 < s0.size
    · have d1 : decide ((300 : Int) < (s0.size : Int)) = true := decide_eq_true (by omega)
      have d2 : decide (300 < s0.size) = true := decide_eq_true h
      have hz : (s0.extract 0 300).size = 300 := by simp; omega
      go_wp2
      go_meet
      exact ⟨_, rfl, by omega, rfl⟩
    · have d1 : decide ((300 : Int) < (s0.size : Int)) = false := decide_eq_false (by omega)
      have d2 : decide (300 < s0.size) = false := decide_eq_false h
      go_wp2
      go_meet
      exact ⟨_, rfl, by omega, rfl⟩
  case rest =>
  obtain ⟨x, rfl, hx, he⟩ := hcut
  have he := he.symm
  subst he
  have P := Lib.hid (fretry_at x (by omega) now Y HY.out w HT.out)
  have Q := Lib.hid (fun W : World => rretry_at x (by omega) now Y HY.out W)
  have AW := Lib.hid (fun (W : World) (hW : Below w.heap.size w W) => fawake_at W (HT.out.later hW))
  obtain ⟨R, hR⟩ : ∃ R, retF Y now (btL (strL (trL (btL x)))) = R := ⟨_, rfl⟩
  rw [hR] at P Q
  obtain ⟨a, ha⟩ : ∃ a, R.getD 0 = a := ⟨_, rfl⟩
  obtain ⟨b, hb⟩ : ∃ a, R.isSome = a := ⟨_, rfl⟩
  have P2 : Hid (Calls Tryz.prog 10 #[.string x, .int .i64 now] w fun e w' => e = .returned (.tuple #[.int .i64 a, .bool b]) ∧ Below w.heap.size w w') := Lib.hid (by rw [← ha, ← hb]; exact P.out)
  have Q2 : Hid (∀ W : World, Calls Tryz.prog 11 #[.string x, .int .i64 now] W fun e w' => e = .returned (.tuple #[.int .i64 a, .bool b]) ∧ Below W.heap.size W w') := Lib.hid (fun W => by rw [← ha, ← hb]; exact Q.out W)
  clear hR ha hb P Q
  have k1 : (a == a) = true := by simp
  have k2 : (b == b) = true := by simp
  go_wp2_with fail
  refine P2.out.mono ?_
  rintro e w1 ⟨rfl, hb⟩
  have HB1 := Lib.hid hb
  clear hb P2
  go_wp2_with fail
  refine (Q2.out _).mono ?_
  rintro e w2 ⟨rfl, hb⟩
  have HB2 := Lib.hid (HB1.out.trans (hb.mono HB1.out.size))
  clear hb HB1 Q2
  go_wp2_with fail
  refine (AW.out _ HB2.out).mono ?_
  rintro e w3 ⟨rfl, hb⟩
  have HB3 := Lib.hid (HB2.out.trans (hb.mono HB2.out.size))
  clear hb HB2
  go_wp2
  go_ret
  exact ⟨rfl, HB3.out⟩
end Go.Proofs.YtodibjpojfipoaaGreatDoor
