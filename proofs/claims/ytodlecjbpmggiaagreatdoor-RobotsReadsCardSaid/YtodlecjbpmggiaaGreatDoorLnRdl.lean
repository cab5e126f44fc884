/- The document's delay. -/
import Derived.Test.YtodlecjbpmggiaaGreatDoorLnDly
namespace Go.Proofs.YtodlecjbpmggiaaGreatDoor
open Go.RowKit
set_option linter.unusedVariables false
set_option linter.unusedSimpArgs false
set_option maxRecDepth 10000

def t3 (q : List Int) : Int := numL 0 ((q ++ [48, 48, 48]).take 3)
theorem numL_three (n : Int) (l : List Int) (h : l.length = 3) : numL n l = 1000 * n + numL 0 l := by
  match l, h with
  | [x, y, z], _ =>
    show 10 * (10 * (10 * n + (x - 48)) + (y - 48)) + (z - 48) = 1000 * n + (10 * (10 * (10 * 0 + (x - 48)) + (y - 48)) + (z - 48))
    omega
theorem t3_len (q : List Int) : ((q ++ [48, 48, 48]).take 3).length = 3 := by rw [List.length_take, List.length_append]; simp
theorem numL_t3 (a q : List Int) : numL 0 (a ++ (q ++ [48, 48, 48]).take 3) = 1000 * numL 0 a + t3 q := by
  rw [numL_app, numL_three _ _ (t3_len q)]
  rfl
theorem t3_snoc (q : List Int) (c : Int) : t3 (q ++ [c]) = t3 q + (if q.length = 0 then 100 * (c - 48) else if q.length = 1 then 10 * (c - 48) else if q.length = 2 then c - 48 else 0) := by
  match q with
  | [] => show 10 * (10 * (10 * 0 + (c - 48)) + (48 - 48)) + (48 - 48) = 10 * (10 * (10 * 0 + (48 - 48)) + (48 - 48)) + (48 - 48) + _; rw [if_pos (show ([] : List Int).length = 0 from rfl)]; omega
  | [x] => show 10 * (10 * (10 * 0 + (x - 48)) + (c - 48)) + (48 - 48) = 10 * (10 * (10 * 0 + (x - 48)) + (48 - 48)) + (48 - 48) + _; rw [if_neg (by simp), if_pos (show ([x] : List Int).length = 1 from rfl)]; omega
  | [x, y] => show 10 * (10 * (10 * 0 + (x - 48)) + (y - 48)) + (c - 48) = 10 * (10 * (10 * 0 + (x - 48)) + (y - 48)) + (48 - 48) + _; rw [if_neg (by simp), if_neg (by simp), if_pos (show ([x, y] : List Int).length = 2 from rfl)]; omega
  | x :: y :: z :: t =>
    rw [if_neg (by simp), if_neg (by simp), if_neg (by simp), Int.add_zero]
    rfl
/-- Where the reading stands. -/
structure RD (v : List Int) (k ds dt bh : Nat) (ms : Int) : Prop where
  is : (dt = 0 ∧ bh = 0 ∧ ds = k ∧ (v.take k).all dgI = true ∧ fi 46 v = k + fi 46 (v.drop k) ∧ ms = 1000 * numL 0 (v.take k)) ∨
    (dt = 1 ∧ fi 46 v < k ∧ ds = fi 46 v ∧ bh = k - fi 46 v - 1 ∧ (v.take (fi 46 v)).all dgI = true ∧ ((v.drop (fi 46 v + 1)).take bh).all dgI = true ∧ ms = 1000 * numL 0 (v.take (fi 46 v)) + t3 ((v.drop (fi 46 v + 1)).take bh))
def RdlyP (o : Option Int) (w : World) (e : Ending) (w' : World) : Prop := ∃ z : Int, e = .returned (.tuple #[.int .i64 z, .bool o.isSome]) ∧ (∀ y, o = some y → z = y) ∧ w' = w
theorem del_bad {v : List Int} {c : Int} (h : c ∈ v.take (fi 46 v) ++ v.drop (fi 46 v + 1)) (hc : dgI c = false) : delL v = none := by
  unfold delL
  rw [if_pos]
  right
  rw [List.all_eq_false]
  exact ⟨c, h, by rw [hc]; decide⟩
theorem del_long {v : List Int} (h : 9 < fi 46 v) (h2 : fi 46 v ≤ v.length) : delL v = none := by
  unfold delL
  rw [if_pos]
  left
  right
  rw [List.length_take]
  omega
theorem mem_take_at {v : List Int} {k n : Nat} {c : Int} (h : v[k]? = some c) (hk : k < n) : c ∈ v.take n := by
  have : (v.take n)[k]? = some c := by rw [List.getElem?_take, if_pos hk, h]
  exact List.mem_of_getElem? this
theorem mem_drop_at {v : List Int} {k n : Nat} {c : Int} (h : v[k]? = some c) (hk : n ≤ k) : c ∈ v.drop n := by
  have : (v.drop n)[k - n]? = some c := by rw [List.getElem?_drop, show n + (k - n) = k by omega, h]
  exact List.mem_of_getElem? this
theorem take_snoc {v : List Int} {k : Nat} {c : Int} (h : v[k]? = some c) : v.take (k + 1) = v.take k ++ [c] := by
  rw [List.take_add_one, h]
  rfl
theorem fi_hit {c : Int} {l : List Int} {k : Nat} (h : fi c l = k) (hk : k < l.length) : l[k]? = some c := by
  induction l generalizing k with
  | nil => simp at hk
  | cons x t ih =>
    unfold fi at h
    split at h
    · rename_i hx
      subst h
      simp [hx]
    · subst h
      rw [List.getElem?_cons_succ]
      exact ih rfl (by simpa using hk)
set_option maxHeartbeats 4000000 in
theorem rdelay_at (s : ByteArray) (hs : s.size ≤ 1000000000000000) (o : Option Int) (ho : delL (btL s) = o) (w : World) :
    Calls Tryz.prog 35 #[.string s] w (RdlyP o w) := by
  obtain ⟨v, hv⟩ : ∃ v, btL s = v := ⟨_, rfl⟩
  have HV := Lib.hid hv
  have HL : Hid (v.length = s.size) := Lib.hid (by rw [← hv, btL_length])
  rw [hv] at ho
  have HO := Lib.hid ho
  clear hv ho
  go_enter Tryz.func35, Tryz.ntmps35
  go_wp2
  go_loop [4, 5, 6, 7, 8] (fun m d t b i => ∃ (k ds dt bh : Nat) (ms : Int), m = .int .i64 ms ∧ d = .int .i64 (ds : Int) ∧ t = .int .i64 (dt : Int) ∧ b = .int .i64 (bh : Int) ∧ i = .int .i64 (k : Int) ∧ k ≤ s.size ∧ ds ≤ 9 ∧ dt ≤ 1 ∧ bh ≤ k ∧ 0 ≤ ms ∧ ms < 1000000000000 ∧ Hid (RD v k ds dt bh ms)) (fun _ _ _ _ i => s.size - (intOf i).toNat)
  case atStart => exact ⟨0, 0, 0, 0, 0, rfl, rfl, rfl, rfl, rfl, by omega, by omega, by omega, by omega, by omega, by omega, Lib.hid ⟨Or.inl ⟨rfl, rfl, rfl, rfl, by simp, rfl⟩⟩⟩
  case round =>
    obtain ⟨k, ds, dt, bh, ms, rfl, rfl, rfl, rfl, rfl, hk, hds, hdt, hbh, ms0, ms1, HR⟩ := hrel
    by_cases hlt : k < s.size
    · have hkd : decide ((k : Int) < (s.size : Int)) = true := decide_eq_true (by omega)
      have hkd' : decide (k < s.size) = true := decide_eq_true hlt
      obtain ⟨c, hc⟩ : ∃ c : Int, (s[k].toNat : Int) = c := ⟨_, rfl⟩
      have HC : Hid (v[k]? = some c) := Lib.hid (by rw [← HV.out, ln_at s k hlt, hc])
      have hfl := Lib.hid (fi_le 46 v)
      by_cases h46 : c = 46 ∧ dt = 0
      · obtain ⟨h46, rfl⟩ := h46
        have d1 : (c == 46) = true := beq_iff_eq.2 h46
        have HN : Hid (RD v (k + 1) ds 1 bh ms) := Lib.hid ⟨Or.inr (by
          rcases HR.out.is with ⟨_, h1, h2, h3, h4, h5⟩ | ⟨h1, _⟩
          · rw [fi_drop HC.out, if_pos h46, Nat.add_zero] at h4
            rw [h4]
            subst h1
            refine ⟨rfl, by omega, h2, by omega, h3, rfl, ?_⟩
            rw [h5, List.take_zero]
            show _ = _ + 0
            omega
          · cases h1)⟩
        go_wp2
        go_round
        case rel => exact ⟨k + 1, ds, 1, bh, ms, rfl, rfl, rfl, rfl, by go_num, by omega, hds, by omega, by omega, ms0, ms1, HN⟩
        case measure => simp [intOf]; omega
      · by_cases hdg : 48 ≤ c ∧ c ≤ 57
        · obtain ⟨hd1, hd2⟩ := hdg
          have d1 : (c == 46) = false := beq_eq_false_iff_ne.2 (by omega)
          have d2 : decide (c < 48) = false := decide_eq_false (by omega)
          have d3 : decide (57 < c) = false := decide_eq_false (by omega)
          have e1 : IntKind.u8.wrap (c - 48) = c - 48 := by rw [IntKind.wrap_u8]; omega
          by_cases h0 : dt = 0
          · subst h0
            by_cases h9 : 9 < ds + 1
            · have d4 : decide (9 < (ds : Int) + 1) = true := decide_eq_true (by omega)
              have HE : Hid (o = none) := Lib.hid (by
                rw [← HO.out]
                rcases HR.out.is with ⟨_, h1, h2, h3, h4, h5⟩ | ⟨h1, _⟩
                · have := hfl.out
                  rw [fi_drop HC.out, if_neg (by omega)] at h4
                  exact del_long (by omega) this
                · cases h1)
              go_wp2
              go_ret2
              exact ⟨0, by rw [HE.out]; rfl, (fun y hy => by rw [HE.out] at hy; cases hy), rfl⟩
            · have d4 : decide (9 < (ds : Int) + 1) = false := decide_eq_false (by omega)
              obtain ⟨m2, hm2⟩ : ∃ m2, 10 * ms + 1000 * (c - 48) = m2 := ⟨_, rfl⟩
              have HN : Hid (RD v (k + 1) (ds + 1) 0 bh m2 ∧ 0 ≤ m2 ∧ m2 < 1000000000000) := Lib.hid (by
                rcases HR.out.is with ⟨_, h1, h2, h3, h4, h5⟩ | ⟨h1, _⟩
                · have hall : (v.take (k + 1)).all dgI = true := by
                    rw [take_snoc HC.out, List.all_append, h3, Bool.true_and]
                    show (dgI c && true) = true
                    rw [dgI_yes ⟨hd1, hd2⟩]
                    rfl
                  have hnum : m2 = 1000 * numL 0 (v.take (k + 1)) := by
                    rw [take_snoc HC.out, numL_app, ← hm2, h5]
                    show _ = 1000 * (10 * numL 0 (v.take k) + (c - 48))
                    omega
                  refine ⟨⟨Or.inl ⟨rfl, h1, by omega, hall, ?_, hnum⟩⟩, ?_⟩
                  · rw [h4, fi_drop HC.out, if_neg (by omega)]
                    omega
                  · have hb := numL_bd (v.take (k + 1)) 0 9 hall (by rw [List.length_take]; omega) (by omega)
                    rw [hnum]
                    have : ((0 : Int) + 1) * 10 ^ 9 = 1000000000 := by decide
                    omega
                · cases h1)
              obtain ⟨HN1, q0, q1⟩ := HN.out
              have HN1 := Lib.hid HN1
              go_wp2
              go_round
              case rel => exact ⟨k + 1, ds + 1, 0, bh, m2, by rw [← hm2], by go_num, rfl, rfl, by go_num, by omega, by omega, by omega, by omega, q0, q1, HN1⟩
              case measure => simp [intOf]; omega
          · obtain rfl : dt = 1 := by omega
            obtain ⟨ad, had⟩ : ∃ ad, (if bh = 0 then 100 * (c - 48) else if bh = 1 then 10 * (c - 48) else if bh = 2 then c - 48 else 0) = ad := ⟨_, rfl⟩
            have HN : Hid (RD v (k + 1) ds 1 (bh + 1) (ms + ad) ∧ 0 ≤ ms + ad ∧ ms + ad < 1000000000000) := Lib.hid (by
              rcases HR.out.is with ⟨h1, _⟩ | ⟨_, h1, h2, h3, h4, h5, h6⟩
              · cases h1
              · have hll := HL.out
                have hq : (v.drop (fi 46 v + 1))[bh]? = some c := by rw [List.getElem?_drop, show fi 46 v + 1 + bh = k by omega]; exact HC.out
                have hql : ((v.drop (fi 46 v + 1)).take bh).length = bh := by rw [List.length_take, List.length_drop]; omega
                have hall : ((v.drop (fi 46 v + 1)).take (bh + 1)).all dgI = true := by
                  rw [take_snoc hq, List.all_append, h5, Bool.true_and]
                  show (dgI c && true) = true
                  rw [dgI_yes ⟨hd1, hd2⟩]
                  rfl
                have hnum : ms + ad = 1000 * numL 0 (v.take (fi 46 v)) + t3 ((v.drop (fi 46 v + 1)).take (bh + 1)) := by
                  rw [take_snoc hq, t3_snoc, hql, had, h6]
                  omega
                refine ⟨⟨Or.inr ⟨rfl, by omega, h2, by omega, h4, hall, hnum⟩⟩, ?_⟩
                have hb := numL_bd (v.take (fi 46 v)) 0 9 h4 (by rw [List.length_take]; omega) (by omega)
                have hx : (((((v.drop (fi 46 v + 1)).take (bh + 1)) ++ [48, 48, 48]).take 3)).all dgI = true := by
                  rw [List.all_eq_true]
                  intro y hy
                  rcases List.mem_append.1 (List.mem_of_mem_take hy) with h | h
                  · exact List.all_eq_true.1 hall y h
                  · have : y = 48 := by simpa using h
                    rw [this]
                    rfl
                have hb2 := numL_bd _ 0 3 hx (by rw [t3_len]; omega) (by omega)
                have e9 : ((0 : Int) + 1) * 10 ^ 9 = 1000000000 := by decide
                have e3 : ((0 : Int) + 1) * 10 ^ 3 = 1000 := by decide
                rw [hnum]
                unfold t3
                omega)
            obtain ⟨HN1, q0, q1⟩ := HN.out
            have HN1 := Lib.hid HN1
            by_cases b0 : bh = 0
            · subst b0
              have had2 : 100 * (c - 48) = ad := had
              go_wp2
              go_round
              case rel => exact ⟨k + 1, ds, 1, 1, ms + ad, by rw [← had2], rfl, rfl, rfl, by go_num, by omega, hds, by omega, by omega, q0, q1, HN1⟩
              case measure => simp [intOf]; omega
            · by_cases b1 : bh = 1
              · subst b1
                have had2 : 10 * (c - 48) = ad := had
                go_wp2
                go_round
                case rel => exact ⟨k + 1, ds, 1, 2, ms + ad, by rw [← had2], rfl, rfl, rfl, by go_num, by omega, hds, by omega, by omega, q0, q1, HN1⟩
                case measure => simp [intOf]; omega
              · by_cases b2 : bh = 2
                · subst b2
                  have had2 : c - 48 = ad := had
                  go_wp2
                  go_round
                  case rel => exact ⟨k + 1, ds, 1, 3, ms + ad, by rw [← had2], rfl, rfl, rfl, by go_num, by omega, hds, by omega, by omega, q0, q1, HN1⟩
                  case measure => simp [intOf]; omega
                · have had2 : ad = 0 := by rw [← had, if_neg b0, if_neg b1, if_neg b2]
                  have x1 : ((bh : Int) + 1 == 1) = false := beq_eq_false_iff_ne.2 (by omega)
                  have x2 : ((bh : Int) + 1 == 2) = false := beq_eq_false_iff_ne.2 (by omega)
                  have x3 : ((bh : Int) + 1 == 3) = false := beq_eq_false_iff_ne.2 (by omega)
                  rw [had2, Int.add_zero] at HN1
                  clear had had2
                  go_wp2
                  go_round
                  case rel => exact ⟨k + 1, ds, 1, bh + 1, ms, rfl, rfl, rfl, by go_num, by go_num, by omega, hds, by omega, by omega, ms0, ms1, HN1⟩
                  case measure => simp [intOf]; omega
        · have HE : Hid (o = none) := Lib.hid (by
            rw [← HO.out]
            refine del_bad (c := c) ?_ (dgI_no hdg)
            rcases HR.out.is with ⟨h0, h1, h2, h3, h4, h5⟩ | ⟨_, h1, h2, h3, h4, h5, h6⟩
            · refine List.mem_append.2 (Or.inl (mem_take_at HC.out ?_))
              rw [fi_drop HC.out, if_neg (fun e => h46 ⟨e, h0⟩)] at h4
              omega
            · exact List.mem_append.2 (Or.inr (mem_drop_at HC.out (by omega))))
          by_cases h1 : c = 46
          · have d1 : (c == 46) = true := beq_iff_eq.2 h1
            have h0 : dt = 1 := by
              have : ¬ dt = 0 := fun e => h46 ⟨h1, e⟩
              omega
            subst h0
            have d2 : decide (c < 48) = true := decide_eq_true (by omega)
            go_wp2
            go_ret2
            exact ⟨0, by rw [HE.out]; rfl, (fun y hy => by rw [HE.out] at hy; cases hy), rfl⟩
          · have d1 : (c == 46) = false := beq_eq_false_iff_ne.2 h1
            by_cases h2 : c < 48
            · have d2 : decide (c < 48) = true := decide_eq_true h2
              go_wp2
              go_ret2
              exact ⟨0, by rw [HE.out]; rfl, (fun y hy => by rw [HE.out] at hy; cases hy), rfl⟩
            · have d2 : decide (c < 48) = false := decide_eq_false h2
              have d3 : decide (57 < c) = true := decide_eq_true (by omega)
              go_wp2
              go_ret2
              exact ⟨0, by rw [HE.out]; rfl, (fun y hy => by rw [HE.out] at hy; cases hy), rfl⟩
    · have hkd : decide ((k : Int) < (s.size : Int)) = false := decide_eq_false (by omega)
      have hkd' : decide (k < s.size) = false := decide_eq_false hlt
      have hll := Lib.hid HL.out
      by_cases h0 : dt = 0
      · subst h0
        have HB : Hid (bh = 0 ∧ ds = k ∧ fi 46 v = v.length ∧ v.all dgI = true ∧ ms = 1000 * numL 0 v) := Lib.hid (by
          have := hll.out
          rcases HR.out.is with ⟨_, h1, h2, h3, h4, h5⟩ | ⟨h1, _⟩
          · rw [List.take_of_length_le (by omega)] at h3 h5
            rw [List.drop_eq_nil_of_le (by omega)] at h4
            exact ⟨h1, h2, by rw [h4]; show k + 0 = _; omega, h3, h5⟩
          · cases h1)
        obtain ⟨rfl, rfl⟩ : bh = 0 ∧ ds = k := ⟨HB.out.1, HB.out.2.1⟩
        by_cases hz : ds = 0
        · subst hz
          have HE : Hid (o = none) := Lib.hid (by
            have h1 := hll.out
            have : v = [] := List.eq_nil_of_length_eq_zero (by omega)
            rw [← HO.out, this]
            rfl)
          clear HB
          go_wp2
          go_ret2
          exact ⟨ms, by rw [HE.out]; rfl, (fun y hy => by rw [HE.out] at hy; cases hy), rfl⟩
        · have HE : Hid (o = some ms) := Lib.hid (by
            have h1 := hll.out
            obtain ⟨_, _, h4, h3, h5⟩ := HB.out
            rw [← HO.out]
            unfold delL
            rw [h4, if_neg (Nat.lt_irrefl _), List.take_length, List.drop_eq_nil_of_le (Nat.le_succ _), List.append_nil, if_neg]
            · rw [numL_t3, ← h5]
              show some (ms + 0) = _
              rw [Int.add_zero]
            · rintro ((h | h) | h)
              · rw [h] at h1
                simp at h1
                omega
              · omega
              · rw [h3] at h
                cases h)
          have d1 : decide ((0 : Int) < (ds : Int) + (0 : Nat)) = true := decide_eq_true (by omega)
          have d2 : decide ((0 : Int) < (ds : Int)) = true := decide_eq_true (by omega)
          have d3 : decide (0 < ds) = true := decide_eq_true (by omega)
          clear HB
          go_wp2
          go_ret2
          exact ⟨ms, by rw [HE.out]; rfl, (fun y hy => by rw [HE.out] at hy; injection hy), rfl⟩
      · obtain rfl : dt = 1 := by omega
        have HB : Hid (fi 46 v < v.length ∧ ds = fi 46 v ∧ bh = (v.drop (fi 46 v + 1)).length ∧ (v.take (fi 46 v)).all dgI = true ∧ (v.drop (fi 46 v + 1)).all dgI = true ∧ ms = 1000 * numL 0 (v.take (fi 46 v)) + t3 (v.drop (fi 46 v + 1))) := Lib.hid (by
          have := hll.out
          rcases HR.out.is with ⟨h1, _⟩ | ⟨_, h1, h2, h3, h4, h5, h6⟩
          · cases h1
          · have e : (v.drop (fi 46 v + 1)).take bh = v.drop (fi 46 v + 1) := List.take_of_length_le (by rw [List.length_drop]; omega)
            rw [e] at h5 h6
            exact ⟨by omega, h2, by rw [List.length_drop]; omega, h4, h5, h6⟩)
        by_cases hz : bh = 0
        · subst hz
          have HE : Hid (o = none) := Lib.hid (by
            obtain ⟨h1, h2, h3, _⟩ := HB.out
            rw [← HO.out]
            unfold delL
            rw [if_pos h1, if_pos]
            left
            left
            exact List.eq_nil_of_length_eq_zero h3.symm)
          clear HB
          by_cases hd0 : ds = 0
          · subst hd0
            go_wp2
            go_ret2
            exact ⟨ms, by rw [HE.out]; rfl, (fun y hy => by rw [HE.out] at hy; cases hy), rfl⟩
          · have d1 : decide ((0 : Int) < (ds : Int) + (0 : Nat)) = true := decide_eq_true (by omega)
            have d2 : decide ((0 : Int) < (ds : Int)) = true := decide_eq_true (by omega)
            have d3 : decide (0 < ds) = true := decide_eq_true (by omega)
            go_wp2
            go_ret2
            exact ⟨ms, by rw [HE.out]; rfl, (fun y hy => by rw [HE.out] at hy; cases hy), rfl⟩
        · have HE : Hid (o = some ms) := Lib.hid (by
            obtain ⟨h1, h2, h3, h4, h5, h6⟩ := HB.out
            rw [← HO.out]
            unfold delL
            rw [if_pos h1, if_neg]
            · rw [numL_t3, ← h6]
            · rintro ((h | h) | h)
              · rw [h] at h3
                simp at h3
                exact hz h3
              · rw [List.length_take] at h
                omega
              · rw [List.all_append, h4, h5] at h
                cases h)
          have d1 : decide ((0 : Int) < (ds : Int) + (bh : Int)) = true := decide_eq_true (by omega)
          have d2 : decide ((0 : Int) < (bh : Int)) = true := decide_eq_true (by omega)
          have d3 : decide (0 < bh) = true := decide_eq_true (by omega)
          clear HB
          go_wp2
          go_ret2
          exact ⟨ms, by rw [HE.out]; rfl, (fun y hy => by rw [HE.out] at hy; injection hy), rfl⟩
end Go.Proofs.YtodlecjbpmggiaaGreatDoor
