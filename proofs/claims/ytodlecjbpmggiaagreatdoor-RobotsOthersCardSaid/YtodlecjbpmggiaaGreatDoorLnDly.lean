/- Package lines: Delay. -/
import Derived.Test.YtodlecjbpmggiaaGreatDoorLnFn
import Derived.BigQuiet
import Derived.Deep.QuietTactic
import Derived.Deep.RegionWith
import Derived.Deep.Cut
import Derived.Deep.CutRange
import Derived.Deep.DeepCutAuto
namespace Go.Proofs.YtodlecjbpmggiaaGreatDoor
open Go.RowKit
set_option linter.unusedVariables false
set_option linter.unusedSimpArgs false
set_option maxRecDepth 10000

def dgI (c : Int) : Bool := decide (48 ≤ c) && decide (c ≤ 57)
theorem dgI_yes {c : Int} (h : 48 ≤ c ∧ c ≤ 57) : dgI c = true := by unfold dgI; rw [decide_eq_true h.1, decide_eq_true h.2]; rfl
theorem dgI_no {c : Int} (h : ¬ (48 ≤ c ∧ c ≤ 57)) : dgI c = false := by
  unfold dgI
  rw [Bool.and_eq_false_iff, decide_eq_false_iff_not, decide_eq_false_iff_not]
  omega
theorem dgI_is {c : Int} (h : dgI c = true) : 48 ≤ c ∧ c ≤ 57 := by
  unfold dgI at h
  simpa using h
/-- What digits tell. -/
def numL : Int → List Int → Int
  | n, [] => n
  | n, c :: t => numL (10 * n + (c - 48)) t
theorem numL_app (a b : List Int) : ∀ n, numL n (a ++ b) = numL (numL n a) b := by
  induction a with
  | nil => intro n; rfl
  | cons c t ih => intro n; exact ih _
theorem numL_bd : ∀ (l : List Int) (n : Int) (k : Nat), l.all dgI = true → l.length ≤ k → 0 ≤ n → 0 ≤ numL n l ∧ numL n l < (n + 1) * 10 ^ k
  | [], n, k, _, _, h0 => by
    refine ⟨h0, ?_⟩
    show n < (n + 1) * 10 ^ k
    have : (1 : Int) ≤ 10 ^ k := Int.pow_pos (by omega)
    have h2 : (n + 1) * 1 ≤ (n + 1) * 10 ^ k := Int.mul_le_mul_of_nonneg_left this (by omega)
    omega
  | c :: t, n, 0, _, h, _ => by simp at h
  | c :: t, n, k + 1, ha, h, h0 => by
    rw [List.all_cons, Bool.and_eq_true] at ha
    have hc := dgI_is ha.1
    have ih := numL_bd t (10 * n + (c - 48)) k ha.2 (by simpa using h) (by omega)
    refine ⟨ih.1, Int.lt_of_lt_of_le ih.2 ?_⟩
    rw [Int.pow_succ, Int.mul_comm (10 ^ k) 10, ← Int.mul_assoc]
    exact Int.mul_le_mul_of_nonneg_right (by omega) (Int.le_of_lt (Int.pow_pos (by omega)))
def delL (v : List Int) : Option Int :=
  if ((if fi 46 v < v.length then v.drop (fi 46 v + 1) else v.take (fi 46 v)) = [] ∨ 9 < (v.take (fi 46 v)).length) ∨ (v.take (fi 46 v) ++ v.drop (fi 46 v + 1)).all dgI = false then none
  else some (numL 0 (v.take (fi 46 v) ++ (v.drop (fi 46 v + 1) ++ [48, 48, 48]).take 3))
def notDg (n : Nat) : Bool := !(decide (48 ≤ n) && decide (n ≤ 57))
theorem idx_all (s : ByteArray) : ∀ (f pos : Nat), s.size ≤ pos + f → pos ≤ s.size → (Lib.idxFuncFrom notDg true s f pos < 0 ↔ ((btL s).drop pos).all dgI = true)
  | f, pos, hf, hp => by
    by_cases hlt : pos < s.size
    · obtain ⟨f, rfl⟩ : ∃ g, f = g + 1 := ⟨f - 1, by omega⟩
      obtain ⟨rn, wd, h1, h2, _, h4, h5, h6⟩ := runeL s pos hlt
      unfold Lib.idxFuncFrom
      rw [if_pos hlt, h1, h2, ln_cons s pos hlt, List.all_cons]
      by_cases hd : 48 ≤ rn ∧ rn ≤ 57
      · have hnd : notDg rn = false := by unfold notDg; rw [decide_eq_true hd.1, decide_eq_true hd.2]; rfl
        have h7 : rn = s[pos].toNat ∧ wd = 1 := by
          rcases h6 with ⟨e1, _, e3⟩ | ⟨e1, _⟩
          · exact ⟨e1, e3⟩
          · omega
        obtain ⟨e1, e3⟩ := h7
        rw [hnd, if_neg Bool.false_ne_true, e3, idx_all s f (pos + 1) (by omega) (by omega), dgI_yes (by omega), Bool.true_and]
      · have hnd : notDg rn = true := by
          unfold notDg
          rw [Bool.not_eq_true', Bool.and_eq_false_iff, decide_eq_false_iff_not, decide_eq_false_iff_not]
          omega
        have h7 : dgI (s[pos].toNat : Int) = false := by
          apply dgI_no
          rcases h6 with ⟨e1, _, e3⟩ | ⟨e1, e2⟩
          · omega
          · have := e2 0 (by omega) (by omega)
            simp only [Nat.add_zero] at this
            omega
        rw [hnd, if_pos rfl, h7, Bool.false_and]
        constructor
        · intro h; omega
        · intro h; cases h
    · rw [Lib.idxFuncFrom_end _ _ _ _ _ hlt, List.drop_eq_nil_of_le (by rw [btL_length]; omega)]
      exact ⟨fun _ => rfl, fun _ => by decide⟩
/-- ascii.Digit, and the predicate over it. -/
theorem ldigit_at (c : Int) (w : World) : Calls Tryz.prog 87 #[.int .i32 c] w fun e w' => e = .returned (.bool (decide (48 ≤ c) && decide (c ≤ 57))) ∧ w' = w := by
  go_enter Tryz.func87, Tryz.ntmps87
  by_cases h : 48 ≤ c
  · have d1 : decide (48 ≤ c) = true := decide_eq_true h
    obtain ⟨b, hb⟩ : ∃ b, decide (c ≤ 57) = b := ⟨_, rfl⟩
    go_wp2
    go_ret
    exact ⟨by rw [d1, hb]; rfl, rfl⟩
  · have d1 : decide (48 ≤ c) = false := decide_eq_false h
    go_wp2
    go_ret
    exact ⟨rfl, rfl⟩
theorem lnot_at (c : Int) (w : World) : Calls Tryz.prog 86 #[.int .i32 c] w fun e w' => e = .returned (.bool (!(decide (48 ≤ c) && decide (c ≤ 57)))) ∧ w' = w := by
  have D := Lib.hid (ldigit_at c w)
  obtain ⟨b, hb⟩ : ∃ b, (decide (48 ≤ c) && decide (c ≤ 57)) = b := ⟨_, rfl⟩
  rw [hb] at D ⊢
  clear hb
  go_enter Tryz.func86, Tryz.ntmps86
  go_wp2_with fail
  refine D.out.mono ?_
  rintro e wx ⟨rfl, hw⟩
  subst wx
  go_wp2
  go_ret
  exact ⟨rfl, rfl⟩
theorem lnot_grows (w : World) : PredGrows Tryz.prog 86 #[] notDg w := by
  intro W x hx hb
  refine (lnot_at (x : Int) W).mono ?_
  rintro e w' ⟨rfl, rfl⟩
  refine ⟨?_, Below.refl _ _⟩
  unfold notDg
  congr 3
  congr 1 <;> (rw [decide_eq_decide]; omega)
theorem ldigits_at (s : ByteArray) (b : Bool) (hb : (btL s).all dgI = b) (w : World) :
    Calls Tryz.prog 65 #[.string s] w fun e w' => e = .returned (.bool b) ∧ Below w.heap.size w w' := by
  have eg : ∀ args w, (callFunc 86 args).run Tryz.prog w = .ok (.enter 86 args) w := enters_of Tryz.func86 (by kernel_rfl) rfl
  have I : Hid (∀ W : World, Calls Tryz.prog 85 #[.string s, .func (.func 86) #[] #[]] W fun e w' => e = .returned (.int .i64 (Lib.idxFunc notDg true s)) ∧ Below W.heap.size W w') := Lib.hid (fun W => Any.strings_IndexFunc_grows Tryz.laysGw15 86 #[] eg notDg s W (lnot_grows W))
  have h1 := idx_all s s.size 0 (by omega) (by omega)
  rw [List.drop_zero, hb] at h1
  obtain ⟨z, hz⟩ : ∃ z, Lib.idxFunc notDg true s = z := ⟨_, rfl⟩
  have h2 : decide (z < 0) = b := by
    rw [← hz, Bool.eq_iff_iff, decide_eq_true_eq]
    exact h1
  rw [hz] at I
  clear h1 hz hb eg
  go_enter Tryz.func65, Tryz.ntmps65
  go_wp2_with fail
  refine (I.out _).mono ?_
  rintro e w' ⟨rfl, hb⟩
  go_wp2
  go_ret
  exact ⟨rfl, hb⟩
structure NuP (s : ByteArray) (N : Int) (w wr : World) (pos : Nat) (v : Int) : Prop where
  it : wr.heap[w.heap.size]? = some (.stringIter s pos)
  bel : Below w.heap.size w wr
  eq : N = numL v ((btL s).drop pos)
  v0 : 0 ≤ v
  v1 : v < 10 ^ pos
theorem ln_iter {B : Nat} {a w : World} (h : Below B a w) {k : Nat} (hk : B ≤ k) (s : ByteArray) (pos : Nat) : Below B a (w.iterAt k s pos) :=
  ⟨h.os, h.tape, h.output, by rw [Lib.iterAt_size]; exact h.size, fun i hi => (Lib.iterAt_other w k i s pos (by omega)).trans (h.block i hi)⟩
set_option maxHeartbeats 2000000 in
theorem lnumber_at (s : ByteArray) (hd : (btL s).all dgI = true) (hs : s.size ≤ 12) (N : Int) (hN : numL 0 (btL s) = N) (w : World) :
    Calls Tryz.prog 67 #[.string s] w fun e w' => e = .returned (.int .i64 N) ∧ Below w.heap.size w w' := by
  have HD : Hid (∀ pos (h : pos < s.size), 48 ≤ (s[pos].toNat : Int) ∧ (s[pos].toNat : Int) ≤ 57) := Lib.hid (fun pos h => dgI_is (List.all_eq_true.1 hd _ (List.mem_of_getElem? (ln_at s pos h))))
  have HN : Hid (N = numL 0 (btL s)) := Lib.hid hN.symm
  clear hd hN
  go_enter Tryz.func67, Tryz.ntmps67
  go_wp2
  go_loopw [3, 5] (fun n _ wr => ∃ (pos : Nat) (v : Int), n = .int .i64 v ∧ pos ≤ s.size ∧ 0 ≤ v ∧ v < 1000000000000 ∧ w.heap.size < wr.heap.size ∧ Hid (NuP s N w wr pos v)) (fun _ _ wr => s.size - wr.iterPos w.heap.size)
  case atStart => exact ⟨0, 0, rfl, by omega, by omega, by omega, by simp [World.iter], Lib.hid ⟨World.iter_heap w s 0, (Below.refl _ _).alloc (Nat.le_refl _) _, by rw [List.drop_zero]; exact HN.out, by omega, by decide⟩⟩
  case round =>
    obtain ⟨pos, v, rfl, hp, v0, v1, hsz, HL⟩ := hrel
    by_cases hlt : pos < s.size
    · obtain ⟨rn, wd, h1, h2, h3, h4, h5, h6⟩ := runeL s pos hlt
      have hdg := HD.out pos hlt
      have h7 : rn = s[pos].toNat ∧ wd = 1 := by
        rcases h6 with ⟨e1, _, e3⟩ | ⟨e1, e2⟩
        · exact ⟨e1, e3⟩
        · have := e2 0 (by omega) (by omega)
          simp only [Nat.add_zero] at this
          omega
      obtain ⟨e1, rfl⟩ := h7
      obtain ⟨c, hc⟩ : ∃ c : Int, (rn : Int) = c := ⟨_, rfl⟩
      have hnx : ∀ ty, (Instr.next (.pointer (some ⟨w.heap.size, 0, none⟩)) true ty).run Tryz.prog wr = .ok (.tuple #[.bool true, .int .i64 pos, .int .i32 c]) (wr.iterAt w.heap.size s (pos + 1)) := fun ty => by
        rw [Lib.run_next_any_at wr w.heap.size s pos ty HL.out.it hlt, h1, h2, hc]
      obtain ⟨z, hz⟩ : ∃ z, 10 * v + (c - 48) = z := ⟨_, rfl⟩
      have HP : Hid (v < 10 ^ pos) := Lib.hid HL.out.v1
      have hpw : (10 : Int) ^ (pos + 1) ≤ 1000000000000 := by
        have h := Nat.pow_le_pow_right (n := 10) (by omega) (show pos + 1 ≤ 12 by omega)
        have h' : ((10 ^ (pos + 1) : Nat) : Int) ≤ ((10 ^ 12 : Nat) : Int) := Int.ofNat_le.2 h
        rw [Int.natCast_pow, Int.natCast_pow] at h'
        exact h'
      have hv2 : 10 * v + 10 ≤ 10 ^ (pos + 1) := by
        have := HP.out
        rw [Int.pow_succ]
        omega
      have c0 : 48 ≤ c := by omega
      have c1 : c ≤ 57 := by omega
      have z0 : 0 ≤ z := by omega
      have z1 : z < 1000000000000 := by omega
      have it2 : (wr.iterAt w.heap.size s (pos + 1)).heap[w.heap.size]? = some (.stringIter s (pos + 1)) := Lib.iterAt_heap wr w.heap.size s pos (pos + 1) HL.out.it
      have NX : Hid (NuP s N w (wr.iterAt w.heap.size s (pos + 1)) (pos + 1) z) := Lib.hid ⟨it2, ln_iter HL.out.bel (Nat.le_refl _) s _, by
        rw [HL.out.eq, ln_cons s pos hlt]
        show numL (10 * v + ((s[pos].toNat : Int) - 48)) _ = _
        rw [← hz, ← hc, e1], z0, by omega⟩
      have IT := Lib.hid it2
      have sz : w.heap.size < (wr.iterAt w.heap.size s (pos + 1)).heap.size := by rw [Lib.iterAt_size]; exact hsz
      clear hpw hv2 h1 h2 h3 h4 h5 h6 hdg e1 it2 hc
      go_wp2
      go_roundw
      case rel => exact ⟨pos + 1, z, rfl, by omega, z0, z1, sz, NX⟩
      case measure =>
        simp only [World.iterPos, IT.out, HL.out.it]
        omega
    · have hnx : ∀ ty, (Instr.next (.pointer (some ⟨w.heap.size, 0, none⟩)) true ty).run Tryz.prog wr = _ := fun ty => Lib.run_next_end_at wr w.heap.size s pos ty HL.out.it hlt
      have HE : Hid (v = N) := Lib.hid (by
        rw [HL.out.eq, List.drop_eq_nil_of_le (by rw [btL_length]; omega)]
        rfl)
      go_wp2
      go_ret
      exact ⟨by rw [← HE.out]; rfl, HL.out.bel⟩
theorem ln_append (a b : ByteArray) : btL (a ++ b) = btL a ++ btL b := by
  unfold btL
  rw [ByteArray.data_append, Array.toList_append, List.map_append]
theorem lrep_at (w : World) : Calls Tryz.prog 66 #[.string ⟨#[48]⟩, .int .i64 3] w fun e w' => e = .returned (.string ⟨#[48, 48, 48]⟩) ∧ Below w.heap.size w w' := by
  refine (Any.strings_Repeat_main Tryz.lays105 Tryz.Builder_Extra_105 ⟨#[48]⟩ 3 w (by omega) (by omega) (by decide) (by decide)).mono ?_
  rintro e w' ⟨rfl, hb⟩
  exact ⟨rfl, hb⟩
def DlyP (o : Option Int) (w : World) (e : Ending) (w' : World) : Prop := e = .returned (.tuple #[.int .i64 (o.getD 0), .bool o.isSome]) ∧ Below w.heap.size w w'
theorem emp_is {t : ByteArray} {l : List Int} (h : btL t = l) : t.toList.isEmpty = decide (l = []) := by
  rw [← h, Lib.toList_data]
  unfold btL
  cases t.data.toList with
  | nil => rfl
  | cons x t => rfl
set_option maxHeartbeats 2000000 in
theorem ldelay_at (s : ByteArray) (hs : s.size ≤ 1000000000000000) (o : Option Int) (ho : delL (btL s) = o) (w : World) (hT : TabL w) :
    Calls Tryz.prog 45 #[.string s] w (DlyP o w) := by
  have HT := Lib.hid hT
  have hl := btL_length s
  have hb0 := btL_byts s
  obtain ⟨v, hv⟩ : ∃ v, btL s = v := ⟨_, rfl⟩
  have C1 := Lib.hid (fun (W : World) (hW : TabL W) => lcut_at s 46 46 rfl hs W hW)
  rw [hv] at C1 ho hl hb0
  unfold delL at ho
  obtain ⟨f, hf⟩ : ∃ f, decide (fi 46 v < v.length) = f := ⟨_, rfl⟩
  obtain ⟨a, ha⟩ : ∃ a, v.take (fi 46 v) = a := ⟨_, rfl⟩
  obtain ⟨b, hb⟩ : ∃ b, v.drop (fi 46 v + 1) = b := ⟨_, rfl⟩
  have ba : Byts a := by rw [← ha]; exact hb0.take _
  have bb : Byts b := by rw [← hb]; exact hb0.drop _
  have la : a.length ≤ 1000000000000000 := by rw [← ha, List.length_take]; omega
  rw [hf, ha, hb] at C1
  rw [ha, hb] at ho
  obtain ⟨ta, hta⟩ : ∃ t, strL a = t := ⟨_, rfl⟩
  obtain ⟨tb, htb⟩ : ∃ t, strL b = t := ⟨_, rfl⟩
  have ea : btL ta = a := by rw [← hta, btL_strL ba]
  have eb : btL tb = b := by rw [← htb, btL_strL bb]
  have za : ta.size = a.length := by rw [← hta, strL_size]
  rw [hta, htb] at C1
  obtain ⟨tl, htl⟩ : ∃ tl, (if f = true then tb else ta) = tl := ⟨_, rfl⟩
  obtain ⟨em, hem⟩ : ∃ em, tl.toList.isEmpty = em := ⟨_, rfl⟩
  have hem2 : em = decide ((if fi 46 v < v.length then b else a) = []) := by
    rw [← hem, ← htl, ← hf]
    by_cases h : fi 46 v < v.length
    · rw [decide_eq_true h, if_pos rfl, if_pos h, emp_is eb]
    · rw [decide_eq_false h, if_neg Bool.false_ne_true, if_neg h, emp_is ea]
  obtain ⟨d, hd⟩ : ∃ d, (a ++ b).all dgI = d := ⟨_, rfl⟩
  have DG := Lib.hid (fun W : World => ldigits_at (ta ++ tb) d (by rw [ln_append, ea, eb, hd]) W)
  rw [hd] at ho
  have HO : Hid (o = if em = true then none else if 9 < ta.size then none else if d = true then some (numL 0 (a ++ (b ++ [48, 48, 48]).take 3)) else none) := Lib.hid (by
    rw [← ho, hem2, za]
    by_cases h1 : (if fi 46 v < v.length then b else a) = []
    · simp [h1]
    · by_cases h2 : 9 < a.length
      · simp [h1, h2]
      · cases d <;> simp [h1, h2])
  obtain ⟨tz, htz⟩ : ∃ t, (tb ++ (⟨#[48, 48, 48]⟩ : ByteArray)).extract 0 3 = t := ⟨_, rfl⟩
  have ez : btL tz = (b ++ [48, 48, 48]).take 3 := by
    rw [← htz, ln_extract, ln_append, eb, List.drop_zero]
    rfl
  have hz3 : 3 ≤ (tb ++ (⟨#[48, 48, 48]⟩ : ByteArray)).size := by
    rw [ByteArray.size_append]
    have : (⟨#[48, 48, 48]⟩ : ByteArray).size = 3 := rfl
    omega
  have NB : Hid (d = true → ta.size ≤ 9 → ∀ W : World, Calls Tryz.prog 67 #[.string (ta ++ tz)] W fun e w' => e = .returned (.int .i64 (numL 0 (a ++ (b ++ [48, 48, 48]).take 3))) ∧ Below W.heap.size W w') := Lib.hid (fun h1 h2 W => by
    refine lnumber_at (ta ++ tz) ?_ ?_ _ (by rw [ln_append, ea, ez]) W
    · rw [ln_append, ea, ez, List.all_append]
      rw [h1, List.all_append, Bool.and_eq_true] at hd
      rw [hd.1, Bool.true_and, List.all_eq_true]
      intro c hc
      have := List.mem_of_mem_take hc
      rcases List.mem_append.1 this with h | h
      · exact List.all_eq_true.1 hd.2 c h
      · have : c = 48 := by simpa using h
        rw [this]
        rfl
    · have h3 := btL_length tz
      rw [ez, List.length_take] at h3
      rw [ByteArray.size_append]
      omega)
  have HTL : Hid ((if f = true then tb else ta) = tl) := Lib.hid htl
  have ya : ta.size ≤ 1000000000000000 := by omega
  have yb : tb.size ≤ 1000000000000000 := by rw [← htb, strL_size, ← hb, List.length_drop]; omega
  have yz : tz.size ≤ 3 := by
    have h3 := btL_length tz
    rw [ez, List.length_take] at h3
    omega
  clear hT hl hb0 hv hf ha hb ba bb la hta htb ea eb htl hem2 hd ho ez za
  go_enter Tryz.func45, Tryz.ntmps45
  go_wp2_with fail
  refine (C1.out _ HT.out).mono ?_
  rintro e w1 ⟨rfl, hb1⟩
  have B1 := Lib.hid hb1
  clear hb1
  go_upto_if 15 with fail
  go_cut [7] from 8 (fun x wx => x = .string tl ∧ wx = w1)
  case first =>
    cases f with
    | true =>
      have HE : Hid (tb = tl) := Lib.hid HTL.out
      go_wp2
      go_meet
      exact ⟨by rw [HE.out], rfl⟩
    | false =>
      have HE : Hid (ta = tl) := Lib.hid HTL.out
      go_wp2
      go_meet
      exact ⟨by rw [HE.out], rfl⟩
  case rest =>
    obtain ⟨rfl, he⟩ := hcut
    have he := he.symm
    subst he
    cases em with
    | true =>
      have HE : Hid (o = none) := Lib.hid (by rw [HO.out, if_pos rfl])
      clear HO
      go_wp2
      go_ret2
      exact ⟨by rw [HE.out]; rfl, B1.out⟩
    | false =>
      by_cases h9 : 9 < ta.size
      · have d9 : decide ((9 : Int) < (ta.size : Int)) = true := decide_eq_true (by omega)
        have d9' : decide (9 < ta.size) = true := decide_eq_true h9
        have HE : Hid (o = none) := Lib.hid (by rw [HO.out, if_neg Bool.false_ne_true, if_pos h9])
        clear HO
        go_wp2
        go_ret2
        exact ⟨by rw [HE.out]; rfl, B1.out⟩
      · have d9 : decide ((9 : Int) < (ta.size : Int)) = false := decide_eq_false (by omega)
        have d9' : decide (9 < ta.size) = false := decide_eq_false h9
        have HO2 : Hid (o = if d = true then some (numL 0 (a ++ (b ++ [48, 48, 48]).take 3)) else none) := Lib.hid (by rw [HO.out, if_neg Bool.false_ne_true, if_neg h9])
        clear HO
        go_wp2_with fail
        refine (DG.out _).mono ?_
        rintro e w2 ⟨rfl, hb2⟩
        have B2 := Lib.hid (B1.out.trans (hb2.mono B1.out.size))
        clear hb2
        cases d with
        | false =>
          have HE : Hid (o = none) := Lib.hid (by rw [HO2.out, if_neg Bool.false_ne_true])
          clear HO2
          go_wp2
          go_ret2
          exact ⟨by rw [HE.out]; rfl, B2.out⟩
        | true =>
          have HE : Hid (o = some (numL 0 (a ++ (b ++ [48, 48, 48]).take 3))) := Lib.hid (by rw [HO2.out, if_pos rfl])
          have NB2 := Lib.hid (NB.out rfl (by omega))
          obtain ⟨N, hN⟩ : ∃ N, numL 0 (a ++ (b ++ [48, 48, 48]).take 3) = N := ⟨_, rfl⟩
          rw [hN] at HE NB2
          clear HO2 NB hN
          go_wp2_with fail
          refine (lrep_at _).mono ?_
          rintro e w3 ⟨rfl, hb3⟩
          have B3 := Lib.hid (B2.out.trans (hb3.mono B2.out.size))
          clear hb3
          have hz3' : decide ((3 : Int) ≤ ((tb ++ (⟨#[48, 48, 48]⟩ : ByteArray)).size : Int)) = true := decide_eq_true (by omega)
          go_wp2_with fail
          refine (NB2.out _).mono ?_
          rintro e w4 ⟨rfl, hb4⟩
          have B4 := Lib.hid (B3.out.trans (hb4.mono B3.out.size))
          clear hb4
          go_wp2
          go_ret2
          exact ⟨by rw [HE.out]; rfl, B4.out⟩
end Go.Proofs.YtodlecjbpmggiaaGreatDoor
