/- Package feed: Retry, oldLimit. -/
import Derived.Test.YtodibjpojfipoaaGreatDoorFdPrs
import Derived.Test.YtodibjpojfipoaaGreatDoorTickMul
import Derived.Test.YtodibjpojfipoaaGreatDoorDtPrs
/- Package feed: clamp, after, trimmed, Class; field's number. -/
namespace Go.Proofs.YtodibjpojfipoaaGreatDoor
open Go.RowKit
set_option linter.unusedVariables false
set_option linter.unusedSimpArgs false
set_option maxRecDepth 10000

def capI (t : Int) : Int := max 0 (min t 1099511627776)
theorem capI_in (t : Int) : 0 ≤ capI t ∧ capI t ≤ 1099511627776 := by unfold capI; omega
set_option maxHeartbeats 1000000 in
theorem fclamp_at (t : Int) (w : World) : Calls Tryz.prog 21 #[.int .i64 t] w fun e w' => e = .returned (.int .i64 (capI t)) ∧ w' = w := by
  unfold capI
  by_cases h1 : 1099511627776 < t
  · have e1 : max 0 (min t 1099511627776) = 1099511627776 := by omega
    rw [e1]
    go_enter Tryz.func21, Tryz.ntmps21
    go_wp2
    go_ret
    exact ⟨rfl, rfl⟩
  · by_cases h2 : 0 < t
    · have e1 : max 0 (min t 1099511627776) = t := by omega
      rw [e1]
      go_enter Tryz.func21, Tryz.ntmps21
      go_wp2
      go_ret
      exact ⟨rfl, rfl⟩
    · have e1 : max 0 (min t 1099511627776) = 0 := by omega
      rw [e1]
      go_enter Tryz.func21, Tryz.ntmps21
      go_wp2
      go_ret
      exact ⟨rfl, rfl⟩
def afterI (now s : Int) : Int := capI (addI (capI now) (mulI 1000 s))
set_option maxHeartbeats 1000000 in
theorem fafter_at (now s : Int) (w : World) : Calls Tryz.prog 19 #[.int .i64 now, .int .i64 s] w fun e w' => e = .returned (.int .i64 (afterI now s)) ∧ w' = w := by
  unfold afterI
  obtain ⟨c, hc⟩ : ∃ c, capI now = c := ⟨_, rfl⟩
  obtain ⟨m, hm⟩ : ∃ m, mulI 1000 s = m := ⟨_, rfl⟩
  obtain ⟨a, ha⟩ : ∃ a, addI c m = a := ⟨_, rfl⟩
  have HC := Lib.hid hc
  have HM := Lib.hid hm
  have HA := Lib.hid ha
  rw [hc, hm, ha]
  clear hc hm ha
  go_enter Tryz.func19, Tryz.ntmps19
  go_wp2_with fail
  refine (fclamp_at now _).mono ?_
  rintro e w1 ⟨rfl, hw⟩
  subst w1
  rw [HC.out]
  go_wp2_with fail
  refine (mul_any 1000 s _).mono ?_
  rintro e w1 ⟨rfl, hw⟩
  subst w1
  rw [HM.out]
  go_wp2_with fail
  refine (add_any c m _).mono ?_
  rintro e w1 ⟨rfl, hw⟩
  subst w1
  rw [HA.out]
  go_wp2_with fail
  refine (fclamp_at a _).mono ?_
  rintro e w1 ⟨rfl, hw⟩
  subst w1
  go_wp2
  go_ret
  exact ⟨rfl, rfl⟩
theorem ftrimmed_at (s : ByteArray) (hs : s.size ≤ 1000000000000000) (w : World) : Calls Tryz.prog 17 #[.string s] w fun e w' => e = .returned (.string (strL (trL (btL s)))) ∧ Below w.heap.size w w' := by
  go_enter Tryz.func17, Tryz.ntmps17
  go_wp2_with fail
  refine (ltrim_at s hs _).mono ?_
  rintro e w1 ⟨rfl, hb⟩
  have HB := Lib.hid hb
  clear hb
  go_wp2
  go_ret
  exact ⟨rfl, HB.out⟩
def classI (s : Int) : Int := if s = 429 ∨ s = 503 then 3 else if 200 ≤ s ∧ s < 400 then 1 else if 400 ≤ s ∧ s < 500 then 2 else 4
set_option maxHeartbeats 2000000 in
theorem fclass_at (s : Int) (w : World) : Calls Tryz.prog 8 #[.int .i64 s] w fun e w' => e = .returned (.int .i64 (classI s)) ∧ w' = w := by
  unfold classI
  by_cases h1 : s = 429
  · have d1 : (s == 429) = true := by simpa using h1
    rw [if_pos (Or.inl h1)]
    clear h1
    go_enter Tryz.func8, Tryz.ntmps8
    go_wp2
    go_ret
    exact ⟨rfl, rfl⟩
  have d1 : (s == 429) = false := by simpa using h1
  by_cases h2 : s = 503
  · have d2 : (s == 503) = true := by simpa using h2
    rw [if_pos (Or.inr h2)]
    clear h1 h2
    go_enter Tryz.func8, Tryz.ntmps8
    go_wp2
    go_ret
    exact ⟨rfl, rfl⟩
  have d2 : (s == 503) = false := by simpa using h2
  rw [if_neg (by omega)]
  clear h1 h2
  by_cases h3 : 200 ≤ s
  · by_cases h4 : s < 400
    · have d3 : decide (200 ≤ s) = true := decide_eq_true h3
      have d4 : decide (s < 400) = true := decide_eq_true h4
      rw [if_pos ⟨h3, h4⟩]
      clear h3 h4
      go_enter Tryz.func8, Tryz.ntmps8
      go_wp2
      go_ret
      exact ⟨rfl, rfl⟩
    · have d3 : decide (200 ≤ s) = true := decide_eq_true h3
      have d4 : decide (s < 400) = false := decide_eq_false h4
      have h5 : 400 ≤ s := by omega
      have d5 : decide (400 ≤ s) = true := decide_eq_true h5
      rw [if_neg (by omega)]
      by_cases h6 : s < 500
      · have d6 : decide (s < 500) = true := decide_eq_true h6
        rw [if_pos ⟨h5, h6⟩]
        clear h3 h4 h5 h6
        go_enter Tryz.func8, Tryz.ntmps8
        go_wp2
        go_ret
        exact ⟨rfl, rfl⟩
      · have d6 : decide (s < 500) = false := decide_eq_false h6
        rw [if_neg (by omega)]
        clear h3 h4 h5 h6
        go_enter Tryz.func8, Tryz.ntmps8
        go_wp2
        go_ret
        exact ⟨rfl, rfl⟩
  · have d3 : decide (200 ≤ s) = false := decide_eq_false h3
    have d5 : decide (400 ≤ s) = false := decide_eq_false (by omega)
    rw [if_neg (by omega), if_neg (by omega)]
    clear h3
    go_enter Tryz.func8, Tryz.ntmps8
    go_wp2
    go_ret
    exact ⟨rfl, rfl⟩
set_option maxHeartbeats 1000000 in
theorem fnum_at (k n : Int) (t : ByteArray) (w : World) : Calls Tryz.prog 95 #[.agg #[.int .i64 k, .int .i64 n, .string t]] w fun e w' => e = .returned (.tuple #[.int .i64 (if k = 1 then n else 0), .bool (decide (k = 1))]) ∧ Below w.heap.size w w' := by
  by_cases h : k = 1
  · have d : (k == 1) = true := by simpa using h
    rw [if_pos h, decide_eq_true h]
    clear h
    go_enter Tryz.func95, Tryz.ntmps95
    go_wp2
    go_ret2
    exact ⟨rfl, (Below.refl _ _).alloc (Nat.le_refl _) _⟩
  · have d : (k == 1) = false := by simpa using h
    rw [if_neg h, decide_eq_false h]
    clear h
    go_enter Tryz.func95, Tryz.ntmps95
    go_wp2
    go_ret2
    exact ⟨rfl, (Below.refl _ _).alloc (Nat.le_refl _) _⟩
/-- The number of digits, held within its range at each step. -/
def dgN : Int → List Int → Option Int
  | v, [] => some v
  | v, c :: r => if fNum c = true then dgN (addI (mulI v 10) (c - 48)) r else none
theorem dgN_cons (v c : Int) (r : List Int) : dgN v (c :: r) = if fNum c = true then dgN (addI (mulI v 10) (c - 48)) r else none := rfl
theorem below_iterAt {w wr : World} (h : Below w.heap.size w wr) (x : ByteArray) (pos : Nat) : Below w.heap.size w (wr.iterAt w.heap.size x pos) := by
  have g := d_iterAt (row := none) (a := w) (w := wr) ⟨h.os, h.tape, h.output, h.size, fun i hi _ => h.block i hi⟩ (Nat.le_refl _) x pos
  exact ⟨g.os, g.tape, g.output, g.size, fun i hi => g.block i hi (by simp)⟩
def digP (l : List Int) : Int × Bool := match dgN 0 l with
  | some v => (v, decide (l ≠ []))
  | none => (0, false)
structure DgF (x : ByteArray) (w wr : World) (pos : Nat) (v : Int) : Prop where
  it : wr.heap[w.heap.size]? = some (.stringIter x pos)
  bel : Below w.heap.size w wr
  eq : dgN 0 (btL x) = dgN v ((btL x).drop pos)
set_option maxHeartbeats 4000000 in
theorem fdigits_at (x : ByteArray) (w : World) : Calls Tryz.prog 18 #[.string x] w fun e w' => e = .returned (.tuple #[.int .i64 (digP (btL x)).1, .bool (digP (btL x)).2]) ∧ Below w.heap.size w w' := by
  obtain ⟨p, hp⟩ : ∃ p, digP (btL x) = p := ⟨_, rfl⟩
  have HP := Lib.hid hp
  have HE0 := Lib.hid (emp_size x)
  rw [hp]
  clear hp
  go_enter Tryz.func18, Tryz.ntmps18
  go_wp2
  go_loopw [4] (fun n wr => ∃ (pos : Nat) (v : Int), n = .int .i64 v ∧ pos ≤ x.size ∧ w.heap.size < wr.heap.size ∧ Hid (DgF x w wr pos v)) (fun _ wr => x.size - wr.iterPos w.heap.size)
  case atStart =>
    refine ⟨0, 0, rfl, by omega, by simp [World.iter], Lib.hid ⟨World.iter_heap w x 0, (Below.refl _ _).alloc (Nat.le_refl _) _, by rw [List.drop_zero]⟩⟩
  case round =>
    obtain ⟨pos, v, rfl, hp, hsz, HL⟩ := hrel
    by_cases hlt : pos < x.size
    · obtain ⟨rn, wd, h1, h2, h3, h3', h4, h5, h6⟩ := runeD x pos hlt
      have hnx : ∀ ty, (Instr.next (.pointer (some ⟨w.heap.size, 0, none⟩)) true ty).run Tryz.prog wr = .ok (.tuple #[.bool true, .int .i64 pos, .int .i32 rn]) (wr.iterAt w.heap.size x (pos + wd)) := fun ty => by
        rw [Lib.run_next_any_at wr w.heap.size x pos ty HL.out.it hlt, h1, h2]
      obtain ⟨wi, hwi⟩ : ∃ wi, wr.iterAt w.heap.size x (pos + wd) = wi := ⟨_, rfl⟩
      have it2 : wi.heap[w.heap.size]? = some (.stringIter x (pos + wd)) := by rw [← hwi]; exact Lib.iterAt_heap wr w.heap.size x pos (pos + wd) HL.out.it
      have BL : Hid (Below w.heap.size w wi) := Lib.hid (by rw [← hwi]; exact below_iterAt HL.out.bel x _)
      have sz : w.heap.size < wi.heap.size := by rw [← hwi, Lib.iterAt_size]; exact hsz
      rw [hwi] at hnx
      have hw48 : fNum rn = true → IntKind.i32.wrap (rn - 48) = rn - 48 ∧ IntKind.i64.wrap (rn - 48) = rn - 48 := fun h => by
        have := fNum_is h
        constructor
        · rw [IntKind.wrap_i32]; omega
        · rw [IntKind.wrap_i64]; omega
      cases hf : fNum rn with
      | true =>
        have hdg := fNum_is hf
        obtain ⟨e1, rfl⟩ : rn = (x[pos].toNat : Int) ∧ wd = 1 := by
          rcases h6 with ⟨e1, _, e3⟩ | ⟨_, e2⟩
          · exact ⟨e1, e3⟩
          · omega
        have w1 := (hw48 hf).1
        have w2 := (hw48 hf).2
        obtain ⟨m, hm⟩ : ∃ m, mulI v 10 = m := ⟨_, rfl⟩
        obtain ⟨z, hz⟩ : ∃ z, addI m (rn - 48) = z := ⟨_, rfl⟩
        have HM := Lib.hid hm
        have HZ := Lib.hid hz
        have NX : Hid (DgF x w wi (pos + 1) z) := Lib.hid ⟨it2, BL.out, by
          rw [HL.out.eq, ln_cons x pos hlt, dgN_cons]
          rw [← e1, if_pos hf, hm, hz]⟩
        have IT := Lib.hid it2
        have HDG := Lib.hid (fun W : World => fdig_at rn true hf W)
        clear h1 h2 h3 h3' h4 h5 h6 hdg e1 it2 hwi hm hz hf hw48
        go_wp2_with fail
        refine (HDG.out _).mono ?_
        rintro e w3 ⟨rfl, hw⟩
        subst w3
        go_wp2_with fail
        refine (mul_any v 10 _).mono ?_
        rintro e w3 ⟨rfl, hw⟩
        subst w3
        rw [HM.out]
        go_wp2_with fail
        refine (add_any m (rn - 48) _).mono ?_
        rintro e w3 ⟨rfl, hw⟩
        subst w3
        rw [HZ.out]
        go_wp2
        go_roundw
        case rel => exact ⟨pos + 1, z, rfl, by omega, sz, NX⟩
        case measure =>
          simp only [World.iterPos, IT.out, HL.out.it]
          omega
      | false =>
        have HPN : Hid (p = (0, false)) := Lib.hid (by
          rw [← HP.out]
          unfold digP
          rw [HL.out.eq, ln_cons x pos hlt, dgN_cons]
          have hc : fNum (x[pos].toNat : Int) = false := by
            rcases h6 with ⟨e1, _, _⟩ | ⟨_, e2⟩
            · rw [← e1]; exact hf
            · unfold fNum; simp; omega
          rw [if_neg (by rw [hc]; decide)])
        have HDG := Lib.hid (fun W : World => fdig_at rn false hf W)
        clear h1 h2 h3 h3' h4 h5 h6 it2 hwi hf hw48
        go_wp2_with fail
        refine (HDG.out _).mono ?_
        rintro e w3 ⟨rfl, hw⟩
        subst w3
        go_wp2
        go_ret2
        exact ⟨by rw [HPN.out]; rfl, BL.out⟩
    · have hnx : ∀ ty, (Instr.next (.pointer (some ⟨w.heap.size, 0, none⟩)) true ty).run Tryz.prog wr = _ := fun ty => Lib.run_next_end_at wr w.heap.size x pos ty HL.out.it hlt
      have HPN : Hid (p = (v, decide (btL x ≠ []))) := Lib.hid (by
        rw [← HP.out]
        unfold digP
        rw [HL.out.eq, List.drop_eq_nil_of_le (by rw [btL_length]; omega)]
        rfl)
      have BE := Lib.hid HL.out.bel
      by_cases h0 : x.size = 0
      · have he : x.toList.isEmpty = true := by rw [HE0.out]; exact decide_eq_true h0
        have hne : decide (btL x ≠ []) = false := decide_eq_false (by rw [Decidable.not_not, ← List.length_eq_zero_iff, btL_length]; exact h0)
        go_wp2
        go_ret2
        exact ⟨by rw [HPN.out, hne]; rfl, BE.out⟩
      · have he : x.toList.isEmpty = false := by rw [HE0.out]; exact decide_eq_false h0
        have hne : decide (btL x ≠ []) = true := decide_eq_true (by rw [Ne, ← List.length_eq_zero_iff, btL_length]; exact h0)
        go_wp2
        go_ret2
        exact ⟨by rw [HPN.out, hne]; rfl, BE.out⟩
end Go.Proofs.YtodibjpojfipoaaGreatDoor
namespace Go.Proofs.YtodibjpojfipoaaGreatDoor
open Go.RowKit
set_option linter.unusedVariables false
set_option linter.unusedSimpArgs false
set_option maxRecDepth 10000

def retF (Y now : Int) (t : List Int) : Option Int := if (digP t).2 = true then some (afterI now (digP t).1) else match parI Y t with
  | some s => if s < 0 then none else some (capI (mulI s 1000))
  | none => none
set_option maxHeartbeats 4000000 in
theorem fretry_at (s : ByteArray) (hs : s.size ≤ 1000000000000000) (now Y : Int) (hY : YearIs (nowD (capI now / 1000)) Y) (w : World) (hT : TabD w) :
    Calls Tryz.prog 10 #[.string s, .int .i64 now] w (OptP (retF Y now (btL (strL (trL (btL s))))) w) := by
  have HTR := Lib.hid (fun W : World => ftrimmed_at s hs W)
  have HT := Lib.hid hT
  have HY := Lib.hid hY
  clear hs hT hY
  obtain ⟨t, ht⟩ : ∃ t, strL (trL (btL s)) = t := ⟨_, rfl⟩
  rw [ht] at HTR ⊢
  clear ht
  go_enter Tryz.func10, Tryz.ntmps10
  go_wp2_with fail
  refine (HTR.out _).mono ?_
  rintro e w1 ⟨rfl, hb⟩
  have HB1 := Lib.hid hb
  clear hb HTR
  have HD := Lib.hid (fun W : World => fdigits_at t W)
  obtain ⟨n, hn⟩ : ∃ n, (digP (btL t)).1 = n := ⟨_, rfl⟩
  obtain ⟨g, hg⟩ : ∃ g, (digP (btL t)).2 = g := ⟨_, rfl⟩
  have HN := Lib.hid hn
  have HG := Lib.hid hg
  rw [hn, hg] at HD
  clear hn hg
  go_wp2_with fail
  refine (HD.out _).mono ?_
  rintro e w2 ⟨rfl, hb⟩
  have HB2 := Lib.hid (HB1.out.trans (hb.mono HB1.out.size))
  clear hb HB1 HD
  cases g with
  | true =>
    have HR : Hid (retF Y now (btL t) = some (afterI now n)) := Lib.hid (by unfold retF; rw [if_pos HG.out, HN.out])
    go_wp2_with fail
    refine (fafter_at now n _).mono ?_
    rintro e w3 ⟨rfl, hw⟩
    subst w3
    go_wp2
    go_ret2
    exact ⟨by rw [HR.out]; rfl, HB2.out⟩
  | false =>
    have HR : Hid (retF Y now (btL t) = match parI Y (btL t) with
      | some s => if s < 0 then none else some (capI (mulI s 1000))
      | none => none) := Lib.hid (by unfold retF; rw [if_neg (by rw [HG.out]; decide)])
    have HC := Lib.hid (fun W : World => fclamp_at now W)
    have hc := capI_in now
    obtain ⟨c, hcc⟩ : ∃ c, capI now = c := ⟨_, rfl⟩
    rw [hcc] at HC HY hc
    obtain ⟨c0, c1⟩ := hc
    clear hcc
    have q1 : c.tdiv 1000 = c / 1000 := Int.tdiv_eq_ediv_of_nonneg c0
    have q2 : IntKind.i64.wrap (c / 1000) = c / 1000 := by rw [IntKind.wrap_i64]; omega
    go_wp2_with fail
    refine (HC.out _).mono ?_
    rintro e w3 ⟨rfl, hw⟩
    subst w3
    obtain ⟨q, hq⟩ : ∃ q, c / 1000 = q := ⟨_, rfl⟩
    have q0 : 0 ≤ q ∧ q ≤ 1099511627 := by omega
    rw [hq] at HY q1 q2
    clear hq
    have HP := Lib.hid (parse_at t q Y HY.out (by omega) (by omega) w2 (HT.out.later HB2.out))
    obtain ⟨o, ho⟩ : ∃ o, parI Y (btL t) = o := ⟨_, rfl⟩
    rw [ho] at HP HR
    clear ho
    go_wp2_with fail
    refine HP.out.mono ?_
    rintro e w3 ⟨rfl, hb⟩
    have HB3 := Lib.hid (HB2.out.trans (hb.mono HB2.out.size))
    clear hb HB2 HP
    cases o with
    | none =>
      go_wp2
      go_ret2
      exact ⟨by rw [HR.out]; rfl, HB3.out⟩
    | some z =>
      by_cases hz : z < 0
      · have d1 : decide (z < 0) = true := decide_eq_true hz
        have HR2 : Hid (retF Y now (btL t) = none) := Lib.hid (by rw [HR.out]; exact if_pos hz)
        clear hz HR
        go_wp2
        go_ret2
        exact ⟨by rw [HR2.out]; rfl, HB3.out⟩
      · have d1 : decide (z < 0) = false := decide_eq_false hz
        have HR2 : Hid (retF Y now (btL t) = some (capI (mulI z 1000))) := Lib.hid (by rw [HR.out]; exact if_neg hz)
        clear hz HR
        obtain ⟨m, hm⟩ : ∃ m, mulI z 1000 = m := ⟨_, rfl⟩
        have HM := Lib.hid hm
        rw [hm] at HR2
        clear hm
        go_wp2_with fail
        refine (mul_any z 1000 _).mono ?_
        rintro e w4 ⟨rfl, hw⟩
        subst w4
        rw [HM.out]
        go_wp2_with fail
        refine (fclamp_at m _).mono ?_
        rintro e w4 ⟨rfl, hw⟩
        subst w4
        go_wp2
        go_ret2
        exact ⟨by rw [HR2.out]; rfl, HB3.out⟩
def oldF (a b : List Int) : Option Int := if (digP a).2 = true ∧ (digP b).2 = true ∧ (digP a).1 = 0 then some (digP b).1 else none
set_option maxHeartbeats 2000000 in
theorem fold_at (x y : ByteArray) (w : World) : Calls Tryz.prog 30 #[.string x, .string y] w (OptP (oldF (btL x) (btL y)) w) := by
  have HX := Lib.hid (fun W : World => fdigits_at x W)
  have HY := Lib.hid (fun W : World => fdigits_at y W)
  unfold oldF
  obtain ⟨n, hn⟩ : ∃ n, (digP (btL x)).1 = n := ⟨_, rfl⟩
  obtain ⟨g, hg⟩ : ∃ g, (digP (btL x)).2 = g := ⟨_, rfl⟩
  obtain ⟨m, hm⟩ : ∃ n, (digP (btL y)).1 = n := ⟨_, rfl⟩
  obtain ⟨h, hh⟩ : ∃ g, (digP (btL y)).2 = g := ⟨_, rfl⟩
  rw [hn, hg] at HX
  rw [hm, hh] at HY
  rw [hn, hg, hm, hh]
  clear hn hg hm hh
  obtain ⟨o, ho⟩ : ∃ o, (if g = true ∧ h = true ∧ n = 0 then some m else none) = o := ⟨_, rfl⟩
  have HO := Lib.hid ho
  rw [ho]
  clear ho
  go_enter Tryz.func30, Tryz.ntmps30
  go_wp2_with fail
  refine (HX.out _).mono ?_
  rintro e w1 ⟨rfl, hb⟩
  have HB1 := Lib.hid hb
  clear hb HX
  go_wp2_with fail
  refine (HY.out _).mono ?_
  rintro e w2 ⟨rfl, hb⟩
  have HB2 := Lib.hid (HB1.out.trans (hb.mono HB1.out.size))
  clear hb HB1 HY
  cases g with
  | false =>
    go_wp2
    go_ret2
    exact ⟨by rw [← HO.out]; rfl, HB2.out⟩
  | true =>
    cases h with
    | false =>
      go_wp2
      go_ret2
      exact ⟨by rw [← HO.out]; rfl, HB2.out⟩
    | true =>
      by_cases h0 : n = 0
      · have d0 : (n == 0) = true := by simpa using h0
        have HO2 : Hid (o = some m) := Lib.hid (by rw [← HO.out, if_pos ⟨rfl, rfl, h0⟩])
        clear h0 HO
        go_wp2
        go_ret2
        exact ⟨by rw [HO2.out]; rfl, HB2.out⟩
      · have d0 : (n == 0) = false := by simpa using h0
        have HO2 : Hid (o = none) := Lib.hid (by rw [← HO.out, if_neg (fun h => h0 h.2.2)])
        clear h0 HO
        go_wp2
        go_ret2
        exact ⟨by rw [HO2.out]; rfl, HB2.out⟩
end Go.Proofs.YtodibjpojfipoaaGreatDoor
