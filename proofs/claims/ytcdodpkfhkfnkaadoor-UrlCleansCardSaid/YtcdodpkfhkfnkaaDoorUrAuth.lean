/- The scheme; name and port: the program's functions. -/
import Derived.Test.YtcdodpkfhkfnkaaDoorUrFns
namespace Go.Proofs.YtcdodpkfhkfnkaaDoor
open Go.RowKit
set_option linter.unusedVariables false
set_option linter.unusedSimpArgs false
set_option maxRecDepth 10000

theorem lw_byts {l : List Int} (h : Byts l) : Byts (l.map lwI) := by
  intro c hc
  obtain ⟨x, hx, rfl⟩ := List.mem_map.1 hc
  have := h x hx
  unfold lwI
  split <;> omega
theorem iv_inj {a b : List UInt8} (e : iv a = iv b) : a = b := by
  have := congrArg strL e
  rw [← mk_iv, ← mk_iv] at this
  injection this with h1
  have h2 := congrArg Array.toList h1
  simpa using h2
theorem tl_eq {l : List Int} (h : Byts l) (u : List UInt8) : ((strL l).toList == u) = (l == iv u) := by
  have e : iv (strL l).data.toList = l := by rw [← iv_bt, btL_strL h]
  rw [Lib.toList_data, Bool.eq_iff_iff, beq_iff_eq, beq_iff_eq]
  constructor
  · intro h2
    rw [← h2, e]
  · intro h2
    exact iv_inj (e.trans h2)
def SchR (s : ByteArray) (w : World) (e : Ending) (w' : World) : Prop := ∃ (a r : ByteArray) (b : Bool), e = .returned (.tuple #[.string a, .string r, .bool b]) ∧ r.size ≤ s.size ∧ Below w.heap.size w w' ∧
  (schA (btL s) = none → b = false) ∧ (∀ sec q, schA (btL s) = some (sec, q) → b = true ∧ a = strL (schI sec) ∧ r = strL q)
set_option maxHeartbeats 2000000 in
theorem cutScheme_at (s : ByteArray) (hs : s.size ≤ 10000) (w : World) (hT : TabsM w) :
    Calls Tryd.prog 49 #[.string s] w (SchR s w) := by
  have HT := Lib.hid hT
  clear hT
  go_enter Tryd.func49, Tryd.ntmps49
  go_wp2_with fail
  refine (cutm_at s (by omega) _ HT.out).mono ?_
  rintro e w1 ⟨b, r, f, rfl, z1, z2, hb1, k1, k2⟩
  have B1 := Lib.hid hb1
  have K1 := Lib.hid k1
  have K2 := Lib.hid k2
  clear hb1 k1 k2
  obtain ⟨t, ht⟩ : ∃ t, lowB b = t := ⟨_, rfl⟩
  have HT2 := Lib.hid ht
  have key : ∀ u, Hid ((t.toList == u) = ((btL b).map lwI == iv u)) := fun u => Lib.hid (by rw [← ht]; exact tl_eq (lw_byts (btL_byts b)) u)
  clear ht
  go_wp2_with fail
  refine (lower_at b t HT2.out (by omega) _).mono ?_
  rintro e w2 ⟨rfl, hb2⟩
  have B2 : Hid (Below w.heap.size w w2) := Lib.hid (B1.out.trans (hb2.mono B1.out.size))
  obtain ⟨x1, hx1⟩ : ∃ x, (t.toList == [104, 116, 116, 112]) = x := ⟨_, rfl⟩
  obtain ⟨x2, hx2⟩ : ∃ x, (t.toList == [104, 116, 116, 112, 115]) = x := ⟨_, rfl⟩
  have HR : Hid (SchR s w (.returned (.tuple #[.string t, .string r, .bool (f && (x1 || x2))])) w2) := Lib.hid (by
    refine ⟨_, _, _, rfl, z2, B2.out, fun h => ?_, fun sec q h => ?_⟩
    · have := K1.out h
      unfold schP at this
      rw [← hx1, ← hx2, (key _).out, (key _).out]
      exact this
    · obtain ⟨e1, e2, e3⟩ := K2.out sec q h
      refine ⟨?_, ?_, e3⟩
      · rw [e1, ← hx1, ← hx2, (key _).out, (key _).out, e2]
        cases sec <;> decide
      · have := HT2.out
        unfold lowB at this
        rw [← this, e2])
  clear hb2 key z1 z2
  cases f with
  | false =>
    clear hx1 hx2
    go_wp2
    go_ret3
    exact HR.out
  | true =>
    cases x1 with
    | true =>
      have hx3 : t.toList = [104, 116, 116, 112] := beq_iff_eq.1 hx1
      clear hx2
      go_wp2
      go_ret3
      exact HR.out
    | false =>
      cases x2 with
      | true =>
        go_wp2
        go_ret3
        exact HR.out
      | false =>
        go_wp2
        go_ret3
        exact HR.out
set_option maxHeartbeats 2000000 in
theorem parseAuth_at (s : ByteArray) (us : Int) (o : Option (List Int × Int)) (ho : authI us (btL s) = o) (hs : s.size ≤ 10000) (w : World) (hT : TabsM w) :
    Calls Tryd.prog 51 #[.string s, .int .i64 us] w fun e w' => e = .returned (.tuple #[.string (strL (o.elim [] Prod.fst)), .int .i64 (o.elim 0 Prod.snd), .bool o.isSome]) ∧ Below w.heap.size w w' := by
  have HT := Lib.hid hT
  obtain ⟨l, hl⟩ : ∃ l, btL s = l := ⟨_, rfl⟩
  have hbl : Byts l := by rw [← hl]; exact btL_byts s
  have hll : l.length = s.size := by rw [← hl, btL_length]
  obtain ⟨k, hk⟩ : ∃ k, fndI [58] l = k := ⟨_, rfl⟩
  obtain ⟨nm, hnm⟩ : ∃ x, strL (l.take k) = x := ⟨_, rfl⟩
  obtain ⟨dg, hdg⟩ : ∃ x, strL (l.drop (k + 1)) = x := ⟨_, rfl⟩
  obtain ⟨y, hy⟩ : ∃ y, nmOk (l.take k) = y := ⟨_, rfl⟩
  obtain ⟨p, hp⟩ : ∃ p, portD (l.drop (k + 1)) = p := ⟨_, rfl⟩
  obtain ⟨t, ht⟩ : ∃ t, lowB nm = t := ⟨_, rfl⟩
  have HT2 := Lib.hid ht
  have HTV : Hid (t = strL ((l.take k).map lwI)) := Lib.hid (by rw [← ht, ← hnm]; unfold lowB; rw [btL_strL (hbl.take k)])
  have zn : nm.size ≤ 10000 := by rw [← hnm, strL_size, List.length_take]; omega
  have HN : Hid (nmOk (btL nm) = y) := Lib.hid (by rw [← hnm, btL_strL (hbl.take k)]; exact hy)
  have HP : Hid (portD (btL dg) = p) := Lib.hid (by rw [← hdg, btL_strL (hbl.drop (k + 1))]; exact hp)
  have HO : Hid (o = if y then (if k < s.size then (if p = 0 then none else some ((l.take k).map lwI, p)) else some ((l.take k).map lwI, us)) else none) := Lib.hid (by
    rw [← ho, hl]
    unfold authI
    rw [hk, hy, hp, hll])
  have HC : Hid (∀ W : World, TabsM W → Calls Tryd.prog 53 #[.string s, .string ⟨#[58]⟩] W fun e w' => e = .returned (.tuple #[.string nm, .string dg, .bool (decide (k < s.size))]) ∧ Below W.heap.size W w') := Lib.hid (fun W hW => by
    have := cut1_at s 58 58 k rfl (by rw [hl]; exact hk) (by omega) W hW
    rw [hl, hnm, hdg] at this
    exact this)
  clear hT hl hbl hll hk hnm hdg hy hp ht ho
  go_enter Tryd.func51, Tryd.ntmps51
  go_wp2_with fail
  refine (HC.out _ HT.out).mono ?_
  rintro e w1 ⟨rfl, hb1⟩
  have B1 := Lib.hid hb1
  clear hb1
  go_wp2_with fail
  refine (isName_at nm y HN.out (by omega) _).mono ?_
  rintro e w2 ⟨rfl, hb2⟩
  have B2 : Hid (Below w.heap.size w w2) := Lib.hid (B1.out.trans (hb2.mono B1.out.size))
  clear hb2
  cases y with
  | false =>
    have HO2 : Hid (o = none) := Lib.hid (by rw [HO.out]; rfl)
    go_wp2
    go_ret3
    rw [HO2.out]
    exact ⟨rfl, B2.out⟩
  | true =>
    obtain ⟨gv, hgv⟩ : ∃ x, decide (k < s.size) = x := ⟨_, rfl⟩
    rw [hgv]
    cases gv with
    | false =>
      have HO2 : Hid (o = some ((l.take k).map lwI, us)) := Lib.hid (by rw [HO.out, if_pos rfl, if_neg (of_decide_eq_false hgv)])
      clear hgv
      go_wp2_with fail
      refine (lower_at nm t HT2.out (by omega) _).mono ?_
      rintro e w3 ⟨rfl, hb3⟩
      have B3 : Hid (Below w.heap.size w w3) := Lib.hid (B2.out.trans (hb3.mono B2.out.size))
      clear hb3
      go_wp2
      go_ret3
      rw [HO2.out]
      exact ⟨by rw [HTV.out]; rfl, B3.out⟩
    | true =>
      have HO1 : Hid (o = if p = 0 then none else some ((l.take k).map lwI, p)) := Lib.hid (by rw [HO.out, if_pos rfl, if_pos (of_decide_eq_true hgv)])
      clear hgv
      go_wp2_with fail
      refine (parsePort_at dg p HP.out _).mono ?_
      rintro e w3 ⟨v, rfl, hv, hb3⟩
      have B3 : Hid (Below w.heap.size w w3) := Lib.hid (B2.out.trans (hb3.mono B2.out.size))
      clear hb3
      by_cases h0 : p = 0
      · have HO2 : Hid (o = none) := Lib.hid (by rw [HO1.out, if_pos h0])
        rw [decide_eq_false (show ¬ (p ≠ 0) from fun e => e h0)]
        clear hv h0
        go_wp2
        go_ret3
        rw [HO2.out]
        exact ⟨rfl, B3.out⟩
      · have HO2 : Hid (o = some ((l.take k).map lwI, p)) := Lib.hid (by rw [HO1.out, if_neg h0])
        obtain rfl : v = p := hv h0
        rw [decide_eq_true h0]
        clear hv h0
        go_wp2_with fail
        refine (lower_at nm t HT2.out (by omega) _).mono ?_
        rintro e w4 ⟨rfl, hb4⟩
        have B4 : Hid (Below w.heap.size w w4) := Lib.hid (B3.out.trans (hb4.mono B3.out.size))
        clear hb4
        go_wp2
        go_ret3
        rw [HO2.out]
        exact ⟨by rw [HTV.out]; rfl, B4.out⟩
end Go.Proofs.YtcdodpkfhkfnkaaDoor
