/- The document's fields: low, in, at, quoted. -/
import Derived.Test.YtodibjpojfipoaaGreatDoorFeRfm
import Derived.Test.YtodibjpojfipoaaGreatDoorFxMath
namespace Go.Proofs.YtodibjpojfipoaaGreatDoor
open Go Go.RowKit
set_option linter.unusedVariables false
set_option linter.unusedSimpArgs false
set_option maxRecDepth 10000

set_option maxHeartbeats 1000000 in
theorem rlow_at (c : Int) (b : Bool) (hb : fLow c = b) (w : World) : Calls Tryz.prog 131 #[.int .u8 c] w fun e w' => e = .returned (.bool b) ∧ w' = w := by
  obtain ⟨p, hp⟩ : ∃ p, decide (97 ≤ c) = p := ⟨_, rfl⟩
  obtain ⟨q, hq⟩ : ∃ p, decide (c ≤ 122) = p := ⟨_, rfl⟩
  have HB : Hid ((p && q) = b) := Lib.hid (by rw [← hb, ← hp, ← hq]; rfl)
  clear hb
  go_enter Tryz.func131, Tryz.ntmps131
  cases p with
  | true =>
    cases q with
    | true =>
      go_wp2
      go_ret
      exact ⟨by rw [← HB.out]; rfl, rfl⟩
    | false =>
      go_wp2
      go_ret
      exact ⟨by rw [← HB.out]; rfl, rfl⟩
  | false =>
    go_wp2
    go_ret
    exact ⟨by rw [← HB.out]; rfl, rfl⟩
set_option maxHeartbeats 2000000 in
theorem rin_at (x : ByteArray) (hx : x.size ≤ 1000) (c : Int) (b : Bool) (hb : (btL x).contains c = b) (w : World) : Calls Tryz.prog 132 #[.string x, .int .u8 c] w fun e w' => e = .returned (.bool b) ∧ w' = w := by
  have HB := Lib.hid hb
  clear hb
  go_enter Tryz.func132, Tryz.ntmps132
  go_wp2_with fail
  go_loop [5] (fun j => ∃ i : Nat, j = .int .i64 (i : Int) ∧ i ≤ x.size ∧ Hid ((btL x).contains c = ((btL x).drop i).contains c)) (fun j => x.size - (intOf j).toNat)
  case atStart => exact ⟨0, rfl, by omega, Lib.hid (by rw [List.drop_zero])⟩
  case round =>
    obtain ⟨i, rfl, hi, HC⟩ := hrel
    by_cases hlt : i < x.size
    · have kd : decide ((i : Int) < (x.size : Int)) = true := decide_eq_true (by omega)
      have kd2 : decide (i < x.size) = true := decide_eq_true hlt
      obtain ⟨d, hd⟩ : ∃ d : Int, (x[i].toNat : Int) = d := ⟨_, rfl⟩
      have HDR : Hid ((btL x).drop i = d :: (btL x).drop (i + 1)) := Lib.hid (by rw [← hd]; exact ln_cons x i hlt)
      by_cases he : d = c
      · have e1 : (d == c) = true := beq_iff_eq.2 he
        have HE : Hid (b = true) := Lib.hid (by rw [← HB.out, HC.out, HDR.out, List.contains_cons, he]; simp)
        clear he
        go_wp2
        go_ret
        exact ⟨by rw [HE.out]; rfl, rfl⟩
      · have e1 : (d == c) = false := beq_eq_false_iff_ne.2 he
        have HE : Hid ((btL x).contains c = ((btL x).drop (i + 1)).contains c) := Lib.hid (by
          rw [HC.out, HDR.out, List.contains_cons]
          have : (c == d) = false := beq_eq_false_iff_ne.2 (fun h => he h.symm)
          rw [this, Bool.false_or])
        clear he
        go_wp2
        go_round
        case rel => exact ⟨i + 1, by go_num, by omega, HE⟩
        case measure => simp [intOf]; omega
    · have kd : decide ((i : Int) < (x.size : Int)) = false := decide_eq_false (by omega)
      have kd2 : decide (i < x.size) = false := decide_eq_false hlt
      have HE : Hid (b = false) := Lib.hid (by rw [← HB.out, HC.out, List.drop_eq_nil_of_le (by rw [btL_length]; omega)]; rfl)
      go_wp2
      go_ret
      exact ⟨by rw [HE.out]; rfl, rfl⟩
set_option maxHeartbeats 1000000 in
theorem rat7_at (s : ByteArray) (hz : s.size ≤ 1000000) (i : Nat) (hi : i ≤ 2000000) (w : World) : Calls Tryz.prog 119 #[.string s, .int .i64 (i : Int)] w fun e w' => e = .returned (.tuple #[.int .u8 (hdI ((btL s).drop i)), .bool (decide (i < s.size))]) ∧ w' = w := by
  have ix0 : decide ((i : Int) < 0) = false := decide_eq_false (by omega)
  have hge : (0 : Int) ≤ (i : Int) := by omega
  by_cases hlt : i < s.size
  · have kd : decide ((s.size : Int) ≤ (i : Int)) = false := decide_eq_false (by omega)
    have kd2 : decide (i < s.size) = true := decide_eq_true hlt
    have kd3 : decide (s.size ≤ i) = false := decide_eq_false (by omega)
    have hix : (i : Int) < (s.size : Int) := by omega
    obtain ⟨d, hd⟩ : ∃ d : Int, (s[i].toNat : Int) = d := ⟨_, rfl⟩
    have e : hdI ((btL s).drop i) = d := by rw [ln_cons s i hlt, hd]; rfl
    rw [e, kd2]
    clear e
    go_enter Tryz.func119, Tryz.ntmps119
    go_wp2
    go_ret2
    exact ⟨rfl, rfl⟩
  · have kd : decide ((s.size : Int) ≤ (i : Int)) = true := decide_eq_true (by omega)
    have kd2 : decide (i < s.size) = false := decide_eq_false hlt
    have kd3 : decide (s.size ≤ i) = true := decide_eq_true (by omega)
    have e : hdI ((btL s).drop i) = 0 := by rw [List.drop_eq_nil_of_le (by rw [btL_length]; omega)]; rfl
    rw [e, kd2]
    clear e
    go_enter Tryz.func119, Tryz.ntmps119
    go_wp2
    go_ret2
    exact ⟨rfl, rfl⟩
/-- A text between signs, and its end. -/
def QtP (s : ByteArray) (o : Option (List Int × List Int)) (w : World) (e : Ending) (w' : World) : Prop := ∃ (t : ByteArray) (r : Int), e = .returned (.tuple #[.string t, .int .i64 r]) ∧ Below w.heap.size w w' ∧ t.size ≤ s.size ∧ (o = none → r = -1 ∧ t = ⟨#[]⟩) ∧ (∀ p, o = some p → ∃ k : Nat, k ≤ s.size ∧ r = (k : Int) ∧ p.2 = (btL s).drop k ∧ p.1 = btL t)
set_option maxHeartbeats 8000000 in
theorem rquoted_at (s : ByteArray) (hz : s.size ≤ 1000000) (i0 : Nat) (hi0 : i0 < s.size) (w : World) :
    Calls Tryz.prog 120 #[.string s, .int .i64 (i0 : Int)] w (QtP s (textG ((btL s).drop (i0 + 1))) w) := by
  obtain ⟨o, ho⟩ : ∃ o, textG ((btL s).drop (i0 + 1)) = o := ⟨_, rfl⟩
  have HO := Lib.hid ho
  rw [ho]
  clear ho
  go_enter Tryz.func120, Tryz.ntmps120
  go_upto_region 2 with fail
  refine code_forget (fun W => Hid (OwnB W w.heap.size (some ⟨w.heap.size, 0, none⟩) 0 []) ∧ Hid (Below w.heap.size w W)) ⟨Lib.hid (OwnB.lit (w := w) [] (Nat.le_refl _) (by decide)), Lib.hid ((Below.refl w.heap.size w).alloc (Nat.le_refl _) _)⟩ ?_
  rintro w1 ⟨O1, HB1⟩
  obtain ⟨g0, hg0⟩ : ∃ x, w.heap.size = x := ⟨_, rfl⟩
  have HG0 := Lib.hid hg0
  rw [hg0] at O1 ⊢
  clear hg0
  go_wp2_with fail
  go_loopw [1, 6] (fun j b wr => ∃ (i : Nat) (acc : List Int) (n : Nat) (a : Option Addr) (cap : Nat), j = .int .i64 (i : Int) ∧ b = .slice a n cap ∧ i ≤ s.size ∧ n ≤ i ∧ Hid (acc.length = n) ∧ Hid (Byts acc) ∧ Hid (OwnB wr w.heap.size a cap acc) ∧ Hid (o = (textG ((btL s).drop i)).map fun p => (acc ++ p.1, p.2)) ∧ Hid (Below w.heap.size w wr)) (fun j _ _ => s.size - (intOf j).toNat)
  case atStart => exact ⟨i0 + 1, [], 0, some ⟨g0, 0, none⟩, 0, by go_num, rfl, by omega, by omega, Lib.hid rfl, Lib.hid Byts.nil, Lib.hid (by rw [HG0.out]; exact O1.out), Lib.hid (by rw [← HO.out]; simp), HB1⟩
  case round =>
    obtain ⟨i, acc, n, a, cap, rfl, rfl, hi, hni, HN, HBY, HOW, HT, HB⟩ := hrel
    clear O1 HB1 HO
    by_cases hlt : i < s.size
    · have kd : decide ((i : Int) < (s.size : Int)) = true := decide_eq_true (by omega)
      have kd2 : decide (i < s.size) = true := decide_eq_true hlt
      obtain ⟨c, hc⟩ : ∃ d : Int, (s[i].toNat : Int) = d := ⟨_, rfl⟩
      have hcb : 0 ≤ c ∧ c < 256 := by rw [← hc]; exact ⟨by omega, by have := s[i].toNat_lt; omega⟩
      have HDR : Hid ((btL s).drop i = c :: (btL s).drop (i + 1)) := Lib.hid (by rw [← hc]; exact ln_cons s i hlt)
      by_cases c34 : c = 34
      · have d1 : (c == 34) = true := by rw [c34]; rfl
        have HF : Hid (o = some (acc, (btL s).drop (i + 1))) := Lib.hid (by rw [HT.out, HDR.out, c34, tx_q]; simp)
        have hcv := HOW.out.rd.text 78 5 9 (P := Tryz.prog) Tryz.underlying78 Tryz.underlying5 Tryz.underlying9 (fun _ => by
          rcases HOW.out.form with ⟨h, _⟩ | ⟨g, h, _⟩
          · exact Or.inl h
          · exact Or.inr ⟨g, 0, h⟩) cap
        rw [HN.out] at hcv
        obtain ⟨t, ht⟩ : ∃ t, strL acc = t := ⟨_, rfl⟩
        have HTT := Lib.hid ht
        rw [ht] at hcv
        clear c34 ht
        go_wp2
        go_ret2
        exact ⟨t, (i : Int) + 1, rfl, HB.out, by rw [← HTT.out, strL_size, HN.out]; omega, fun h => (by rw [HF.out] at h; cases h), fun p hp => ⟨i + 1, by omega, by omega, by rw [HF.out] at hp; injection hp with hp; rw [← hp], by rw [HF.out] at hp; injection hp with hp; rw [← hp, ← HTT.out, btL_strL HBY.out]⟩⟩
      · have d1 : (c == 34) = false := by simpa using c34
        have HC34 := Lib.hid c34
        clear c34
        by_cases c92 : c = 92
        · have d2 : (c == 92) = true := by rw [c92]; rfl
          have HC92 := Lib.hid c92
          clear c92
          by_cases hl2 : i + 1 < s.size
          · have ld : decide ((s.size : Int) ≤ (i : Int) + 1) = false := decide_eq_false (by omega)
            have ld2 : decide (s.size ≤ i + 1) = false := decide_eq_false (by omega)
            have ld3 : decide (i + 1 < s.size) = true := decide_eq_true hl2
            obtain ⟨d, hd⟩ : ∃ d : Int, (s[i + 1].toNat : Int) = d := ⟨_, rfl⟩
            have hdb : 0 ≤ d ∧ d < 256 := by rw [← hd]; exact ⟨by omega, by have := s[i + 1].toNat_lt; omega⟩
            have HD2 : Hid ((btL s).drop (i + 1) = d :: (btL s).drop (i + 2)) := Lib.hid (by rw [← hd]; exact ln_cons s (i + 1) hl2)
            obtain ⟨j, hj⟩ : ∃ j, i + 1 = j := ⟨_, rfl⟩
            have HJ := Lib.hid hj
            have hji : (i : Int) + 1 = (j : Int) := by omega
            have hwj : IntKind.i64.wrap ((i : Int) + 1) = (j : Int) := by rw [hji]; exact IntWalk.i64_in _ (by omega)
            have jx0 : (0 : Int) ≤ (j : Int) := by omega
            have jx1 : (j : Int) < (s.size : Int) := by omega
            have jx2 : j < s.size := by omega
            have ld : decide ((s.size : Int) ≤ (j : Int)) = false := decide_eq_false (by omega)
            have ld2 : decide (s.size ≤ j) = false := decide_eq_false (by omega)
            have hd : (s[j].toNat : Int) = d := by subst hj; exact hd
            by_cases hok : d = 34 ∨ d = 92
            · have HEQ : Hid (o = (textG ((btL s).drop (j + 1))).map fun p => ((acc ++ [d]) ++ p.1, p.2)) := Lib.hid (by
                rw [HT.out, HDR.out, HC92.out, HD2.out, tx_b d _ hok, Option.map_map, ← HJ.out]
                congr 1
                funext p
                simp)
              have HLN : Hid ((acc ++ [d]).length = n + 1) := Lib.hid (by rw [List.length_append, HN.out]; rfl)
              have HBN : Hid (Byts (acc ++ [d])) := Lib.hid (HBY.out.append (Byts.mk hdb Byts.nil))
              obtain ⟨q34, hq34⟩ : ∃ q, (d != 34) = q := ⟨_, rfl⟩
              obtain ⟨q92, hq92⟩ : ∃ q, (d != 92) = q := ⟨_, rfl⟩
              have HQ : Hid (q34 = false ∨ q92 = false) := Lib.hid (by
                rcases hok with h | h
                · left; rw [← hq34, h]; rfl
                · right; rw [← hq92, h]; rfl)
              clear hok ld3 hji hj
              cases q34 with
              | false =>
                go_wp2_with (at_builtin; refine wpList_app3 rfl _ _ rfl w.heap.size a n cap acc [d] (acc ++ [d]) 1 (n + 1) rfl HN.out rfl HLN.out (by omega) rfl (HOW.out.alloc _) _ 0 1 rfl (RdB.new _ [d] _ _) (by omega) (Nat.le_trans HB.out.size (by simp)) ?_; rintro g9 cap9 w9 own9 bel9; have HOW9 := Lib.hid own9; have HB9 : Hid (Below w.heap.size w w9) := Lib.hid ((HB.out.alloc HB.out.size _).trans bel9); clear own9 bel9)
                go_roundw
                case rel => exact ⟨j + 1, acc ++ [d], n + 1, some ⟨g9, 0, none⟩, cap9, by go_num, rfl, (by have := HJ.out; omega), (by have := HJ.out; omega), HLN, HBN, HOW9, HEQ, HB9⟩
                case measure => simp [intOf]; have := HJ.out; omega
              | true =>
                obtain rfl : q92 = false := by rcases HQ.out with h | h; (· cases h); (· exact h)
                go_wp2_with (at_builtin; refine wpList_app3 rfl _ _ rfl w.heap.size a n cap acc [d] (acc ++ [d]) 1 (n + 1) rfl HN.out rfl HLN.out (by omega) rfl (HOW.out.alloc _) _ 0 1 rfl (RdB.new _ [d] _ _) (by omega) (Nat.le_trans HB.out.size (by simp)) ?_; rintro g9 cap9 w9 own9 bel9; have HOW9 := Lib.hid own9; have HB9 : Hid (Below w.heap.size w w9) := Lib.hid ((HB.out.alloc HB.out.size _).trans bel9); clear own9 bel9)
                go_roundw
                case rel => exact ⟨j + 1, acc ++ [d], n + 1, some ⟨g9, 0, none⟩, cap9, by go_num, rfl, (by have := HJ.out; omega), (by have := HJ.out; omega), HLN, HBN, HOW9, HEQ, HB9⟩
                case measure => simp [intOf]; have := HJ.out; omega
            · have HF : Hid (o = none) := Lib.hid (by rw [HT.out, HDR.out, HC92.out, HD2.out, tx_bn d _ hok]; rfl)
              have x1 : (d != 34) = true := by simp; omega
              have x2 : (d != 92) = true := by simp; omega
              clear hok ld3 hji hj
              go_wp2
              go_ret2
              exact ⟨⟨#[]⟩, -1, rfl, HB.out, Nat.zero_le _, fun _ => ⟨rfl, rfl⟩, fun p hp => (by rw [HF.out] at hp; cases hp)⟩
          · have ld : decide ((s.size : Int) ≤ (i : Int) + 1) = true := decide_eq_true (by omega)
            have ld2 : decide (s.size ≤ i + 1) = true := decide_eq_true (by omega)
            have HF : Hid (o = none) := Lib.hid (by rw [HT.out, HDR.out, HC92.out, List.drop_eq_nil_of_le (by rw [btL_length]; omega), tx_b0]; rfl)
            go_wp2
            go_ret2
            exact ⟨⟨#[]⟩, -1, rfl, HB.out, Nat.zero_le _, fun _ => ⟨rfl, rfl⟩, fun p hp => (by rw [HF.out] at hp; cases hp)⟩
        · have d2 : (c == 92) = false := by simpa using c92
          have HC92 := Lib.hid c92
          clear c92
          by_cases hr : c < 32 ∨ 126 < c
          · have HF : Hid (o = none) := Lib.hid (by rw [HT.out, HDR.out, tx_no c _ HC34.out HC92.out hr]; rfl)
            by_cases h32 : c < 32
            · have x1 : decide (c < 32) = true := decide_eq_true h32
              go_wp2
              go_ret2
              exact ⟨⟨#[]⟩, -1, rfl, HB.out, Nat.zero_le _, fun _ => ⟨rfl, rfl⟩, fun p hp => (by rw [HF.out] at hp; cases hp)⟩
            · have x1 : decide (c < 32) = false := decide_eq_false h32
              have x2 : decide (126 < c) = true := decide_eq_true (by omega)
              go_wp2
              go_ret2
              exact ⟨⟨#[]⟩, -1, rfl, HB.out, Nat.zero_le _, fun _ => ⟨rfl, rfl⟩, fun p hp => (by rw [HF.out] at hp; cases hp)⟩
          · have x1 : decide (c < 32) = false := decide_eq_false (by omega)
            have x2 : decide (126 < c) = false := decide_eq_false (by omega)
            have HEQ : Hid (o = (textG ((btL s).drop (i + 1))).map fun p => ((acc ++ [c]) ++ p.1, p.2)) := Lib.hid (by
              rw [HT.out, HDR.out, tx_c c _ HC34.out HC92.out hr, Option.map_map]
              congr 1
              funext p
              simp)
            have HLN : Hid ((acc ++ [c]).length = n + 1) := Lib.hid (by rw [List.length_append, HN.out]; rfl)
            have HBN : Hid (Byts (acc ++ [c])) := Lib.hid (HBY.out.append (Byts.mk hcb Byts.nil))
            clear hr
            go_wp2_with (at_builtin; refine wpList_app3 rfl _ _ rfl w.heap.size a n cap acc [c] (acc ++ [c]) 1 (n + 1) rfl HN.out rfl HLN.out (by omega) rfl (HOW.out.alloc _) _ 0 1 rfl (RdB.new _ [c] _ _) (by omega) (Nat.le_trans HB.out.size (by simp)) ?_; rintro g9 cap9 w9 own9 bel9; have HOW9 := Lib.hid own9; have HB9 : Hid (Below w.heap.size w w9) := Lib.hid ((HB.out.alloc HB.out.size _).trans bel9); clear own9 bel9)
            go_roundw
            case rel => exact ⟨i + 1, acc ++ [c], n + 1, some ⟨g9, 0, none⟩, cap9, by go_num, rfl, by omega, by omega, HLN, HBN, HOW9, HEQ, HB9⟩
            case measure => simp [intOf]; omega
    · have kd : decide ((i : Int) < (s.size : Int)) = false := decide_eq_false (by omega)
      have kd2 : decide (i < s.size) = false := decide_eq_false hlt
      have HF : Hid (o = none) := Lib.hid (by rw [HT.out, List.drop_eq_nil_of_le (by rw [btL_length]; omega)]; rfl)
      go_wp2
      go_ret2
      exact ⟨⟨#[]⟩, -1, rfl, HB.out, Nat.zero_le _, fun _ => ⟨rfl, rfl⟩, fun p hp => (by rw [HF.out] at hp; cases hp)⟩
end Go.Proofs.YtodibjpojfipoaaGreatDoor
