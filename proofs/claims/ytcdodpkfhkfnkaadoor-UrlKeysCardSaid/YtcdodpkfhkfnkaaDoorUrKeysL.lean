/- UrlKeys: the walk. -/
import Derived.Test.YtcdodpkfhkfnkaaDoorUrOkM
import Derived.Test.YtcdodpkfhkfnkaaDoorUrEq
import Derived.Test.YtcdodpkfhkfnkaaDoorUrParsesL
import Derived.BigRegion
namespace Go.Proofs.YtcdodpkfhkfnkaaDoor
open Go.RowKit
set_option linter.unusedVariables false
set_option linter.unusedSimpArgs false
set_option maxRecDepth 10000

set_option maxHeartbeats 1000000 in
theorem target_big (sc ho pa qu t : ByteArray) (po : Int) (ak : Bool) (ht : tgtB pa qu ak = t) (h1 : pa.size ≤ 1000000) (h2 : qu.size ≤ 1000000) (w : World) :
    Calls Tryd.prog 27 #[.agg #[.string sc, .string ho, .int .i64 po, .string pa, .string qu, .bool ak]] w fun e w' => e = .returned (.string t) ∧ Below w.heap.size w w' := by
  obtain ⟨a, ha⟩ : ∃ a, pa ++ (⟨#[63]⟩ : ByteArray) = a := ⟨_, rfl⟩
  have s1 : (⟨#[63]⟩ : ByteArray).size = 1 := rfl
  have za : a.size ≤ 1000001 := by rw [← ha, ByteArray.size_append]; show pa.size + 1 ≤ 1000001; omega
  have A1 : ∀ wx : World, (Op.stringOp .add pa ⟨#[63]⟩).run Tryd.prog wx = .ok (.string a) wx := fun wx => by rw [run_string_add_sum wx _ _ (by omega), ha]
  have A2 : ∀ wx : World, (Op.stringOp .add a qu).run Tryd.prog wx = .ok (.string (a ++ qu)) wx := fun wx => run_string_add_sum wx _ _ (by omega)
  unfold tgtB at ht
  rw [ha] at ht
  clear s1 za ha h1 h2
  have HT := Lib.hid ht
  clear ht
  cases ak
  all_goals
    go_enter Tryd.func27, Tryd.ntmps27
    go_wp2
    go_ret
    rw [← HT.out]
    exact ⟨rfl, (Below.refl _ _).alloc (Nat.le_refl _) _⟩
set_option maxHeartbeats 2000000 in
theorem string_big (sc ho pa qu t1 t2 : ByteArray) (po : Nat) (ak : Bool) (ht1 : keyB sc ho po = t1) (ht2 : tgtB pa qu ak = t2) (h1 : sc.size ≤ 10000) (h2 : ho.size ≤ 10000) (h3 : pa.size ≤ 1000000) (h4 : qu.size ≤ 1000000) (hp : po ≤ 9223372036854775807) (w : World) (hT : TabsU w) :
    Calls Tryd.prog 29 #[.agg #[.string sc, .string ho, .int .i64 (po : Int), .string pa, .string qu, .bool ak]] w fun e w' => e = .returned (.string (t1 ++ t2)) ∧ Below w.heap.size w w' := by
  have z1 : t1.size ≤ 30000 := by
    rw [← ht1]
    unfold keyB
    have h3 : (10 : Nat) ^ (18 + 1) = 10000000000000000000 := by decide
    have hd := decD_len 18 po (by rw [h3]; omega)
    have s1 : (⟨#[58, 47, 47]⟩ : ByteArray).size = 3 := rfl
    have s2 : (⟨#[58]⟩ : ByteArray).size = 1 := rfl
    split <;> simp only [ByteArray.size_append, strL_size] <;> omega
  have z2 : t2.size ≤ 2000001 := by
    rw [← ht2]
    unfold tgtB
    have s1 : (⟨#[63]⟩ : ByteArray).size = 1 := rfl
    split
    · simp only [ByteArray.size_append]; omega
    · omega
  have A1 : ∀ wx : World, (Op.stringOp .add t1 t2).run Tryd.prog wx = .ok (.string (t1 ++ t2)) wx := fun wx => run_string_add_sum wx _ _ (by omega)
  have HT := Lib.hid hT
  have C1 : Hid (∀ W : World, TabsU W → Calls Tryd.prog 25 #[.agg #[.string sc, .string ho, .int .i64 (po : Int), .string pa, .string qu, .bool ak]] W fun e w' => e = .returned (.string t1) ∧ Below W.heap.size W w') := Lib.hid (fun W hW => key_at sc ho pa qu t1 po ak ht1 h1 h2 hp W hW)
  have C2 : Hid (∀ W : World, Calls Tryd.prog 27 #[.agg #[.string sc, .string ho, .int .i64 (po : Int), .string pa, .string qu, .bool ak]] W fun e w' => e = .returned (.string t2) ∧ Below W.heap.size W w') := Lib.hid (fun W => target_big sc ho pa qu t2 po ak ht2 h3 h4 W)
  clear hT ht1 ht2 h1 h2 h3 h4 hp z1 z2
  go_enter Tryd.func29, Tryd.ntmps29
  go_upto_region 1 with fail
  refine code_forget (fun w1 => Hid (Box w1 w.heap.size #[.string sc, .string ho, .int .i64 (po : Int), .string pa, .string qu, .bool ak] 41) ∧ Hid (Below w.heap.size w w1)) ⟨Lib.hid (Box.new w _ _), Lib.hid ((Below.refl _ _).alloc (Nat.le_refl _) _)⟩ ?_
  rintro w1 ⟨X1, B1⟩
  refine wp_region_last 5 (fun w' => Box w' w.heap.size #[.string sc, .string ho, .int .i64 (po : Int), .string pa, .string qu, .bool ak] 41 ∧ Below w.heap.size w w') (by kernel_rfl) (⟨X1.out.drew, B1.out.drew⟩) (fun hHeld hClosed => ?_)
  refine wpAnyL_take (i := 0) (v := (.agg #[.string sc, .string ho, .int .i64 (po : Int), .string pa, .string qu, .bool ak])) rfl (by kernel_rfl) (by kernel_rfl) (by kernel_rfl) (by kernel_rfl) (fun _ _ _ h => h) (by kernel_rfl) hClosed (Or.inl ⟨by rfl, ?_⟩) hHeld (fun hClosed => ?_)
  · intro wv hSw; exact exec_load_box (by rfl) (by rfl) hSw.1 Tryd.underlying41 rfl (by kernel_rfl)
  (try simp only [List.getElem_toArray, List.getElem_cons_zero, put_at, List.set])
  refine wpAnyL_take (i := 2) (v := (.agg #[.string sc, .string ho, .int .i64 (po : Int), .string pa, .string qu, .bool ak])) rfl (by kernel_rfl) (by kernel_rfl) (by kernel_rfl) (by kernel_rfl) (fun _ _ _ h => h) (by kernel_rfl) hClosed (Or.inl ⟨by rfl, ?_⟩) hHeld (fun hClosed => ?_)
  · intro wv hSw; exact exec_load_box (by rfl) (by rfl) hSw.1 Tryd.underlying41 rfl (by kernel_rfl)
  (try simp only [List.getElem_toArray, List.getElem_cons_succ, List.getElem_cons_zero, put_at, List.set])
  refine wpAnyL_one (i := 1) rfl (by kernel_rfl) (by kernel_rfl) hClosed (fun KK hK => ?_)
  go_simp
  refine (C1.out _ (HT.out.later hHeld.2)).mono ?_
  rintro e w2 ⟨rfl, hb2⟩
  go_wp2_with fail
  refine hK.out _ _ ?_ (fun hClosed hHeld => ?_)
  · exact ⟨hHeld.1.later hb2, hHeld.2.trans (hb2.mono hHeld.2.size)⟩
  clear hK KK
  (first | simp only [List.getElem_toArray, List.getElem_cons_succ, List.getElem_cons_zero, put_at, List.set] | (try simp only [put_at, List.set]))
  refine wpAnyL_one (i := 3) rfl (by kernel_rfl) (by kernel_rfl) hClosed (fun KK hK => ?_)
  go_simp
  refine (C2.out _).mono ?_
  rintro e w3 ⟨rfl, hb3⟩
  go_wp2_with fail
  refine hK.out _ _ ?_ (fun hClosed hHeld => ?_)
  · exact ⟨hHeld.1.later hb3, hHeld.2.trans (hb3.mono hHeld.2.size)⟩
  clear hK KK
  (first | simp only [List.getElem_toArray, List.getElem_cons_succ, List.getElem_cons_zero, put_at, List.set] | (try simp only [put_at, List.set]))
  refine wpAnyL_take (i := 4) (v := ?_) rfl (by kernel_rfl) (by kernel_rfl) (by kernel_rfl) (by kernel_rfl) (fun _ _ _ h => h) (by kernel_rfl) hClosed (Or.inl ⟨by rfl, ?_⟩) hHeld (fun hClosed => ?_)
  rotate_left
  · intro wv hSw; go_simp; all_goals (with_reducible rfl)
  (try simp only [List.getElem_toArray, List.getElem_cons_succ, List.getElem_cons_zero, put_at, List.set])
  refine wpAnyL_last rfl (by kernel_rfl) (by kernel_rfl) (fun KK hK => ?_)
  go_simp
  refine hK.out _ _ ?_
  (try simp only [put_at, List.set])
  go_wp2
  go_ret
  exact ⟨rfl, hHeld.2⟩
/-- A place that was read, or none. -/
theorem pr_cases (l : List Int) (hb : Byts l) : (∃ (v : Array Value) (e : Int), prV (parI l) = .tuple #[.agg v, .int .i64 e] ∧ e ≠ 0 ∧ ∃ a b c d p k, v = #[.string a, .string b, .int .i64 p, .string c, .string d, .bool k]) ∨
    ∃ (s k : Bool) (h x y : List Int) (p : Nat), parI l = .ok s h p x y k ∧ POk h p x y k := by
  cases h : parI l with
  | over => exact Or.inl ⟨_, _, rfl, by decide, _, _, _, _, _, _, rfl⟩
  | form => exact Or.inl ⟨_, _, rfl, by decide, _, _, _, _, _, _, rfl⟩
  | host => exact Or.inl ⟨_, _, rfl, by decide, _, _, _, _, _, _, rfl⟩
  | ok s hh p x y k =>
    have o := par_ok hb h
    obtain ⟨n, rfl⟩ : ∃ n : Nat, p = n := ⟨p.toNat, by have := o.p0; omega⟩
    exact Or.inr ⟨s, k, hh, x, y, n, rfl, o⟩
set_option maxHeartbeats 4000000 in
theorem keys_main (s1 s2 k1 k2 : Bool) (h1 h2 x1 x2 y1 y2 : List Int) (p1 p2 : Nat) (o1 : POk h1 p1 x1 y1 k1) (o2 : POk h2 p2 x2 y2 k2) (sa sb : ByteArray) (e1 : parI (btL sa) = .ok s1 h1 p1 x1 y1 k1) (e2 : parI (btL sb) = .ok s2 h2 p2 x2 y2 k2) (w : World) (hT : TabsU w) :
    Calls Tryd.prog 11 #[.string sa, .string sb] w fun e w' => e = .returned (.bool true) ∧ Below w.heap.size w w' := by
  have HT := Lib.hid hT
  clear hT
  obtain ⟨a1, ha1⟩ : ∃ v, strL (schI s1) = v := ⟨_, rfl⟩
  obtain ⟨a2, ha2⟩ : ∃ v, strL (schI s2) = v := ⟨_, rfl⟩
  obtain ⟨b1, hb1⟩ : ∃ v, strL h1 = v := ⟨_, rfl⟩
  obtain ⟨b2, hb2⟩ : ∃ v, strL h2 = v := ⟨_, rfl⟩
  obtain ⟨c1, hc1⟩ : ∃ v, strL x1 = v := ⟨_, rfl⟩
  obtain ⟨c2, hc2⟩ : ∃ v, strL x2 = v := ⟨_, rfl⟩
  obtain ⟨d1, hd1⟩ : ∃ v, strL y1 = v := ⟨_, rfl⟩
  obtain ⟨d2, hd2⟩ : ∃ v, strL y2 = v := ⟨_, rfl⟩
  obtain ⟨t1, ht1⟩ : ∃ v, keyB a1 b1 p1 = v := ⟨_, rfl⟩
  obtain ⟨t2, ht2⟩ : ∃ v, keyB a2 b2 p2 = v := ⟨_, rfl⟩
  obtain ⟨r1, hr1⟩ : ∃ v, tgtB c1 d1 k1 = v := ⟨_, rfl⟩
  obtain ⟨r2, hr2⟩ : ∃ v, tgtB c2 d2 k2 = v := ⟨_, rfl⟩
  obtain ⟨q1, hq1⟩ : ∃ v, t1 ++ r1 = v := ⟨_, rfl⟩
  obtain ⟨q2, hq2⟩ : ∃ v, t2 ++ r2 = v := ⟨_, rfl⟩
  have za : a1.size ≤ 10000 ∧ a2.size ≤ 10000 := by
    rw [← ha1, ← ha2, strL_size, strL_size]
    constructor
    · cases s1 <;> decide
    · cases s2 <;> decide
  have zb : b1.size ≤ 10000 ∧ b2.size ≤ 10000 := by rw [← hb1, ← hb2, strL_size, strL_size]; have := o1.hl; have := o2.hl; omega
  have zc : c1.size ≤ 1000000 ∧ c2.size ≤ 1000000 := by rw [← hc1, ← hc2, strL_size, strL_size]; have := o1.xl; have := o2.xl; omega
  have zd : d1.size ≤ 1000000 ∧ d2.size ≤ 1000000 := by rw [← hd1, ← hd2, strL_size, strL_size]; have := o1.yl; have := o2.yl; omega
  have zp : p1 ≤ 9223372036854775807 ∧ p2 ≤ 9223372036854775807 := by have := o1.p1; have := o2.p1; omega
  have P1 : Hid (∀ W : World, TabsU W → Calls Tryd.prog 22 #[.string sa] W fun e w' => e = .returned (.tuple #[.agg #[.string a1, .string b1, .int .i64 (p1 : Int), .string c1, .string d1, .bool k1], .int .i64 0]) ∧ Below W.heap.size W w') := Lib.hid (fun W hW => by
    have := parse_any sa _ e1 W hW
    subst ha1; subst hb1; subst hc1; subst hd1
    exact this)
  have P2 : Hid (∀ W : World, TabsU W → Calls Tryd.prog 22 #[.string sb] W fun e w' => e = .returned (.tuple #[.agg #[.string a2, .string b2, .int .i64 (p2 : Int), .string c2, .string d2, .bool k2], .int .i64 0]) ∧ Below W.heap.size W w') := Lib.hid (fun W hW => by
    have := parse_any sb _ e2 W hW
    subst ha2; subst hb2; subst hc2; subst hd2
    exact this)
  have C0 : Hid (∀ W : World, TabsU W → Calls Tryd.prog 24 #[] W fun e w' => e = .returned (.bool true) ∧ Below W.heap.size W w') := Lib.hid (fun W hW => awake_at W hW)
  have C1 : Hid (∀ W : World, TabsU W → Calls Tryd.prog 25 #[.agg #[.string a1, .string b1, .int .i64 (p1 : Int), .string c2, .string d2, .bool k2]] W fun e w' => e = .returned (.string t1) ∧ Below W.heap.size W w') := Lib.hid (fun W hW => key_at a1 b1 c2 d2 t1 p1 k2 ht1 za.1 zb.1 zp.1 W hW)
  have C2 : Hid (∀ W : World, TabsU W → Calls Tryd.prog 25 #[.agg #[.string a1, .string b1, .int .i64 (p1 : Int), .string c1, .string d1, .bool k1]] W fun e w' => e = .returned (.string t1) ∧ Below W.heap.size W w') := Lib.hid (fun W hW => key_at a1 b1 c1 d1 t1 p1 k1 ht1 za.1 zb.1 zp.1 W hW)
  have C3 : Hid (∀ W : World, TabsU W → Calls Tryd.prog 27 #[.agg #[.string a1, .string b1, .int .i64 (p1 : Int), .string c2, .string d2, .bool k2]] W fun e w' => e = .returned (.string r2) ∧ Below W.heap.size W w') := Lib.hid (fun W _ => target_big a1 b1 c2 d2 r2 p1 k2 hr2 zc.2 zd.2 W)
  have C4 : Hid (∀ W : World, TabsU W → Calls Tryd.prog 27 #[.agg #[.string a2, .string b2, .int .i64 (p2 : Int), .string c2, .string d2, .bool k2]] W fun e w' => e = .returned (.string r2) ∧ Below W.heap.size W w') := Lib.hid (fun W _ => target_big a2 b2 c2 d2 r2 p2 k2 hr2 zc.2 zd.2 W)
  have C5 : Hid (∀ W : World, TabsU W → Calls Tryd.prog 29 #[.agg #[.string a1, .string b1, .int .i64 (p1 : Int), .string c1, .string d1, .bool k1]] W fun e w' => e = .returned (.string q1) ∧ Below W.heap.size W w') := Lib.hid (fun W hW => by
    have := string_big a1 b1 c1 d1 t1 r1 p1 k1 ht1 hr1 za.1 zb.1 zc.1 zd.1 zp.1 W hW
    rw [hq1] at this
    exact this)
  have C6 : Hid (∀ W : World, TabsU W → Calls Tryd.prog 29 #[.agg #[.string a2, .string b2, .int .i64 (p2 : Int), .string c2, .string d2, .bool k2]] W fun e w' => e = .returned (.string q2) ∧ Below W.heap.size W w') := Lib.hid (fun W hW => by
    have := string_big a2 b2 c2 d2 t2 r2 p2 k2 ht2 hr2 za.2 zb.2 zc.2 zd.2 zp.2 W hW
    rw [hq2] at this
    exact this)
  -- the two comparisons agree
  have HB : ∃ b : Bool, (q1.toList == q2.toList) = b ∧ ∀ W : World, (binOp .eql 41 (.agg #[.string a1, .string b1, .int .i64 (p1 : Int), .string c1, .string d1, .bool k1]) (.agg #[.string a2, .string b2, .int .i64 (p2 : Int), .string c2, .string d2, .bool k2])).run Tryd.prog W = .ok (.bool b) W := by
    by_cases h : a1 = a2 ∧ b1 = b2 ∧ (p1 : Int) = p2 ∧ c1 = c2 ∧ d1 = d2 ∧ k1 = k2
    · refine ⟨true, ?_, fun W => ?_⟩
      · obtain ⟨f1, f2, f3, f4, f5, f6⟩ := h
        have f3' : p1 = p2 := by omega
        rw [beq_iff_eq, ← hq1, ← hq2, ← ht1, ← ht2, ← hr1, ← hr2, f1, f2, f3', f4, f5, f6]
      · obtain ⟨f1, f2, f3, f4, f5, f6⟩ := h
        rw [f1, f2, f3, f4, f5, f6]
        exact url_same _ _ _ _ _ _ W
    · refine ⟨false, ?_, fun W => url_other h W⟩
      rw [beq_eq_false_iff_ne]
      intro e
      have e := tl_inj e
      rw [← hq1, ← hq2, ← ht1, ← ht2, ← hr1, ← hr2, ← ha1, ← ha2, ← hb1, ← hb2, ← hc1, ← hc2, ← hd1, ← hd2] at e
      obtain ⟨f1, f2, f3, f4, f5, f6⟩ := text_same o1 o2 e
      exact h ⟨by rw [← ha1, ← ha2, f1], by rw [← hb1, ← hb2, f2], by rw [f3], by rw [← hc1, ← hc2, f4], by rw [← hd1, ← hd2, f5], f6⟩
  obtain ⟨b, EQ1, EQ2⟩ := HB
  clear ha1 ha2 hb1 hb2 hc1 hc2 hd1 hd2 ht1 ht2 hr1 hr2 hq1 hq2 za zb zc zd zp e1 e2 o1 o2
  go_enter Tryd.func11, Tryd.ntmps11
  go_wp2_with fail
  refine (P1.out _ HT.out).mono ?_
  rintro e w1 ⟨rfl, hb1⟩
  have B1 := Lib.hid hb1
  have T1 := Lib.hid (HT.out.later hb1)
  clear hb1
  obtain ⟨g1, hg1⟩ : ∃ g, w1.heap.size = g := ⟨_, rfl⟩
  go_wp2_with fail
  refine calls_forget (fun w2 => Hid (Box w2 g1 #[.string a1, .string b1, .int .i64 (p1 : Int), .string c1, .string d1, .bool k1] 41) ∧ Hid (TabsU w2) ∧ Hid (Below w.heap.size w w2)) ⟨Lib.hid (box_new_at hg1.symm), Lib.hid (T1.out.later ((Below.refl _ _).alloc (Nat.le_refl _) _)), Lib.hid (B1.out.alloc B1.out.size _)⟩ ?_
  clear hg1
  rintro w2 ⟨X2, T2, B2⟩
  clear T1 B1
  refine (P2.out _ T2.out).mono ?_
  rintro e w3 ⟨rfl, hb3⟩
  have X3 := Lib.hid (X2.out.later hb3)
  have T3 := Lib.hid (T2.out.later hb3)
  have B3 := Lib.hid (B2.out.trans (hb3.mono B2.out.size))
  clear hb3 X2 T2 B2
  obtain ⟨g2, hg2⟩ : ∃ g, w3.heap.size = g := ⟨_, rfl⟩
  go_upto_region 5 with fail
  refine code_forget (fun w4 => Hid (Box w4 g1 #[.string a1, .string b1, .int .i64 (p1 : Int), .string c1, .string d1, .bool k1] 41) ∧ Hid (Box w4 g2 #[.string a2, .string b2, .int .i64 (p2 : Int), .string c2, .string d2, .bool k2] 41) ∧ Hid (TabsU w4) ∧ Hid (Below w.heap.size w w4)) ⟨Lib.hid (X3.out.alloc _), Lib.hid (box_new_at hg2.symm), Lib.hid (T3.out.later ((Below.refl _ _).alloc (Nat.le_refl _) _)), Lib.hid (B3.out.alloc B3.out.size _)⟩ ?_
  have HNE : Hid (g1 < g2) := Lib.hid (by rw [← hg2]; exact X3.out.lt)
  clear hg2
  rintro w4 ⟨X4, Y4, T4, B4⟩
  clear X3 T3 B3
  obtain ⟨⟨u0, u1, u2, u3, u4, u5⟩, _, _⟩ := box6 X4.out
  obtain ⟨⟨v0, v1, v2, v3, v4, v5⟩, _, _⟩ := box6 Y4.out
  obtain ⟨g3, hg3⟩ : ∃ g, w4.heap.size = g := ⟨_, rfl⟩
  go_upto_region 6 with fail
  refine code_forget (fun w5 => Hid (Box w5 g1 #[.string a1, .string b1, .int .i64 (p1 : Int), .string c1, .string d1, .bool k1] 41) ∧ Hid (Box w5 g2 #[.string a2, .string b2, .int .i64 (p2 : Int), .string c2, .string d2, .bool k2] 41) ∧ Hid (Box w5 g3 #[.string a1, .string b1, .int .i64 (p1 : Int), .string c1, .string d1, .bool k1] 41) ∧ Hid (TabsU w5) ∧ Hid (Below w.heap.size w w5)) ⟨Lib.hid (X4.out.alloc _), Lib.hid (Y4.out.alloc _), Lib.hid (box_new_at hg3.symm), Lib.hid (T4.out.later ((Below.refl _ _).alloc (Nat.le_refl _) _)), Lib.hid (B4.out.alloc B4.out.size _)⟩ ?_
  have HN3 : Hid (g1 < g3 ∧ g2 < g3 ∧ w.heap.size ≤ g3) := Lib.hid (by rw [← hg3]; exact ⟨X4.out.lt, Y4.out.lt, B4.out.size⟩)
  clear hg3
  rintro w5 ⟨X5, Y5, Z5, T5, B5⟩
  clear X4 Y4 T4 B4 u0 u1 u2 u3 u4 u5 v0 v1 v2 v3 v4 v5
  obtain ⟨⟨v0, v1, v2, v3, v4, v5⟩, _, lt2⟩ := box6 Y5.out
  obtain ⟨⟨z0, z1, z2, z3, z4, z5⟩, ⟨f0, f1, f2, f3, f4, f5⟩, lt3⟩ := box6 Z5.out
  have n23 : g2 ≠ g3 := by have := HN3.out; omega
  have n32 : g3 ≠ g2 := by have := HN3.out; omega
  go_region
  go_upto_region 7 with fail
  refine code_forget (fun w6 => Hid (Box w6 g1 #[.string a1, .string b1, .int .i64 (p1 : Int), .string c1, .string d1, .bool k1] 41) ∧ Hid (Box w6 g2 #[.string a2, .string b2, .int .i64 (p2 : Int), .string c2, .string d2, .bool k2] 41) ∧ Hid (Box w6 g3 #[.string a1, .string b1, .int .i64 (p1 : Int), .string c2, .string d2, .bool k2] 41) ∧ Hid (TabsU w6) ∧ Hid (Below w.heap.size w w6)) ⟨Lib.hid ?_, Lib.hid ?_, Lib.hid ?_, Lib.hid ?_, Lib.hid ?_⟩ ?_
  · exact (((X5.out.other (a := ⟨g3, 3, none⟩) (by show g1 ≠ g3; have := HN3.out; omega) _).other (a := ⟨g3, 4, none⟩) (by show g1 ≠ g3; have := HN3.out; omega) _).other (a := ⟨g3, 5, none⟩) (by show g1 ≠ g3; have := HN3.out; omega) _)
  · exact (((Y5.out.other (a := ⟨g3, 3, none⟩) n23 _).other (a := ⟨g3, 4, none⟩) n23 _).other (a := ⟨g3, 5, none⟩) n23 _)
  · have := ((Z5.out.set 3 (.string c2)).set 4 (.string d2)).set 5 (.bool k2)
    have := this.drew
    simpa using this
  · refine HT.out.later ?_
    exact (((B5.out.setCell (p := ⟨g3, 3, none⟩) HN3.out.2.2 _).setCell (p := ⟨g3, 4, none⟩) HN3.out.2.2 _).setCell (p := ⟨g3, 5, none⟩) HN3.out.2.2 _).drew
  · exact (((B5.out.setCell (p := ⟨g3, 3, none⟩) HN3.out.2.2 _).setCell (p := ⟨g3, 4, none⟩) HN3.out.2.2 _).setCell (p := ⟨g3, 5, none⟩) HN3.out.2.2 _).drew
  clear X5 Y5 Z5 T5 B5 v0 v1 v2 v3 v4 v5 lt2 z0 z1 z2 z3 z4 z5 f0 f1 f2 f3 f4 f5 lt3 n23 n32 P1 P2
  rintro w6 ⟨X1, Y1, Z1, T1, B1⟩
  cases b with
  | true =>
    have EQ3 : q1.toList = q2.toList := beq_iff_eq.1 EQ1
    refine wp_region_last 26 (fun w' => Box w' g1 #[.string a1, .string b1, .int .i64 (p1 : Int), .string c1, .string d1, .bool k1] 41 ∧ Box w' g2 #[.string a2, .string b2, .int .i64 (p2 : Int), .string c2, .string d2, .bool k2] 41 ∧ Box w' g3 #[.string a1, .string b1, .int .i64 (p1 : Int), .string c2, .string d2, .bool k2] 41 ∧ TabsU w' ∧ Below w.heap.size w w') (by kernel_rfl) (⟨X1.out.drew, Y1.out.drew, Z1.out.drew, T1.out.later ((Below.refl _ _).drew), B1.out.drew⟩) (fun hHeld hClosed => ?_)
    refine wpAnyL_one (i := 0) rfl (by kernel_rfl) (by kernel_rfl) hClosed (fun KK hK => ?_)
    go_simp
    refine (C0.out _ hHeld.2.2.2.1).mono ?_
    rintro e wq ⟨rfl, hbq⟩
    go_wp2_with fail
    refine hK.out _ _ ?_ (fun hClosed hHeld => ?_)
    · exact ⟨hHeld.1.later hbq, hHeld.2.1.later hbq, hHeld.2.2.1.later hbq, hHeld.2.2.2.1.later hbq, hHeld.2.2.2.2.trans (hbq.mono hHeld.2.2.2.2.size)⟩
    clear hK KK
    (first | simp only [List.getElem_toArray, List.getElem_cons_zero, put_at, List.set] | (try simp only [put_at, List.set]))
    refine wpAnyL_take (i := 1) (v := ?_) rfl (by kernel_rfl) (by kernel_rfl) (by kernel_rfl) (by kernel_rfl) (fun _ _ _ h => h) (by kernel_rfl) hClosed (Or.inl ⟨by rfl, ?_⟩) hHeld (fun hClosed => ?_)
    rotate_left
    · intro wv hSw; go_simp; all_goals (with_reducible rfl)
    (try simp only [List.getElem_toArray, List.getElem_cons_succ, List.getElem_cons_zero, put_at, List.set])
    refine wpAnyL_take (i := 2) (v := (.agg #[.string a1, .string b1, .int .i64 (p1 : Int), .string c2, .string d2, .bool k2])) rfl (by kernel_rfl) (by kernel_rfl) (by kernel_rfl) (by kernel_rfl) (fun _ _ _ h => h) (by kernel_rfl) hClosed (Or.inl ⟨by rfl, ?_⟩) hHeld (fun hClosed => ?_)
    · intro wv hSw; exact exec_load_box (by rfl) (by rfl) hSw.2.2.1 Tryd.underlying41 rfl (by kernel_rfl)
    (try simp only [List.getElem_toArray, List.getElem_cons_succ, List.getElem_cons_zero, put_at, List.set])
    refine wpAnyL_take (i := 4) (v := (.agg #[.string a1, .string b1, .int .i64 (p1 : Int), .string c1, .string d1, .bool k1])) rfl (by kernel_rfl) (by kernel_rfl) (by kernel_rfl) (by kernel_rfl) (fun _ _ _ h => h) (by kernel_rfl) hClosed (Or.inl ⟨by rfl, ?_⟩) hHeld (fun hClosed => ?_)
    · intro wv hSw; exact exec_load_box (by rfl) (by rfl) hSw.1 Tryd.underlying41 rfl (by kernel_rfl)
    (try simp only [List.getElem_toArray, List.getElem_cons_succ, List.getElem_cons_zero, put_at, List.set])
    refine wpAnyL_one (i := 3) rfl (by kernel_rfl) (by kernel_rfl) hClosed (fun KK hK => ?_)
    go_simp
    refine (C1.out _ hHeld.2.2.2.1).mono ?_
    rintro e wq ⟨rfl, hbq⟩
    go_wp2_with fail
    refine hK.out _ _ ?_ (fun hClosed hHeld => ?_)
    · exact ⟨hHeld.1.later hbq, hHeld.2.1.later hbq, hHeld.2.2.1.later hbq, hHeld.2.2.2.1.later hbq, hHeld.2.2.2.2.trans (hbq.mono hHeld.2.2.2.2.size)⟩
    clear hK KK
    (first | simp only [List.getElem_toArray, List.getElem_cons_succ, List.getElem_cons_zero, put_at, List.set] | (try simp only [put_at, List.set]))
    refine wpAnyL_one (i := 5) rfl (by kernel_rfl) (by kernel_rfl) hClosed (fun KK hK => ?_)
    go_simp
    refine (C2.out _ hHeld.2.2.2.1).mono ?_
    rintro e wq ⟨rfl, hbq⟩
    go_wp2_with fail
    refine hK.out _ _ ?_ (fun hClosed hHeld => ?_)
    · exact ⟨hHeld.1.later hbq, hHeld.2.1.later hbq, hHeld.2.2.1.later hbq, hHeld.2.2.2.1.later hbq, hHeld.2.2.2.2.trans (hbq.mono hHeld.2.2.2.2.size)⟩
    clear hK KK
    (first | simp only [List.getElem_toArray, List.getElem_cons_succ, List.getElem_cons_zero, put_at, List.set] | (try simp only [put_at, List.set]))
    refine wpAnyL_take (i := 6) (v := ?_) rfl (by kernel_rfl) (by kernel_rfl) (by kernel_rfl) (by kernel_rfl) (fun _ _ _ h => h) (by kernel_rfl) hClosed (Or.inl ⟨by rfl, ?_⟩) hHeld (fun hClosed => ?_)
    rotate_left
    · intro wv hSw; go_simp; all_goals (with_reducible rfl)
    (try simp only [List.getElem_toArray, List.getElem_cons_succ, List.getElem_cons_zero, put_at, List.set])
    refine wpAnyL_take (i := 7) (v := ?_) rfl (by kernel_rfl) (by kernel_rfl) (by kernel_rfl) (by kernel_rfl) (fun _ _ _ h => h) (by kernel_rfl) hClosed (Or.inl ⟨by rfl, ?_⟩) hHeld (fun hClosed => ?_)
    rotate_left
    · intro wv hSw; go_simp; all_goals (with_reducible rfl)
    (try simp only [List.getElem_toArray, List.getElem_cons_succ, List.getElem_cons_zero, put_at, List.set])
    refine wpAnyL_take (i := 8) (v := ?_) rfl (by kernel_rfl) (by kernel_rfl) (by kernel_rfl) (by kernel_rfl) (fun _ _ _ h => h) (by kernel_rfl) hClosed (Or.inl ⟨by rfl, ?_⟩) hHeld (fun hClosed => ?_)
    rotate_left
    · intro wv hSw; go_simp; all_goals (with_reducible rfl)
    (try simp only [List.getElem_toArray, List.getElem_cons_succ, List.getElem_cons_zero, put_at, List.set])
    refine wpAnyL_take (i := 9) (v := (.agg #[.string a1, .string b1, .int .i64 (p1 : Int), .string c2, .string d2, .bool k2])) rfl (by kernel_rfl) (by kernel_rfl) (by kernel_rfl) (by kernel_rfl) (fun _ _ _ h => h) (by kernel_rfl) hClosed (Or.inl ⟨by rfl, ?_⟩) hHeld (fun hClosed => ?_)
    · intro wv hSw; exact exec_load_box (by rfl) (by rfl) hSw.2.2.1 Tryd.underlying41 rfl (by kernel_rfl)
    (try simp only [List.getElem_toArray, List.getElem_cons_succ, List.getElem_cons_zero, put_at, List.set])
    refine wpAnyL_take (i := 11) (v := (.agg #[.string a2, .string b2, .int .i64 (p2 : Int), .string c2, .string d2, .bool k2])) rfl (by kernel_rfl) (by kernel_rfl) (by kernel_rfl) (by kernel_rfl) (fun _ _ _ h => h) (by kernel_rfl) hClosed (Or.inl ⟨by rfl, ?_⟩) hHeld (fun hClosed => ?_)
    · intro wv hSw; exact exec_load_box (by rfl) (by rfl) hSw.2.1 Tryd.underlying41 rfl (by kernel_rfl)
    (try simp only [List.getElem_toArray, List.getElem_cons_succ, List.getElem_cons_zero, put_at, List.set])
    refine wpAnyL_one (i := 10) rfl (by kernel_rfl) (by kernel_rfl) hClosed (fun KK hK => ?_)
    go_simp
    refine (C3.out _ hHeld.2.2.2.1).mono ?_
    rintro e wq ⟨rfl, hbq⟩
    go_wp2_with fail
    refine hK.out _ _ ?_ (fun hClosed hHeld => ?_)
    · exact ⟨hHeld.1.later hbq, hHeld.2.1.later hbq, hHeld.2.2.1.later hbq, hHeld.2.2.2.1.later hbq, hHeld.2.2.2.2.trans (hbq.mono hHeld.2.2.2.2.size)⟩
    clear hK KK
    (first | simp only [List.getElem_toArray, List.getElem_cons_succ, List.getElem_cons_zero, put_at, List.set] | (try simp only [put_at, List.set]))
    refine wpAnyL_one (i := 12) rfl (by kernel_rfl) (by kernel_rfl) hClosed (fun KK hK => ?_)
    go_simp
    refine (C4.out _ hHeld.2.2.2.1).mono ?_
    rintro e wq ⟨rfl, hbq⟩
    go_wp2_with fail
    refine hK.out _ _ ?_ (fun hClosed hHeld => ?_)
    · exact ⟨hHeld.1.later hbq, hHeld.2.1.later hbq, hHeld.2.2.1.later hbq, hHeld.2.2.2.1.later hbq, hHeld.2.2.2.2.trans (hbq.mono hHeld.2.2.2.2.size)⟩
    clear hK KK
    (first | simp only [List.getElem_toArray, List.getElem_cons_succ, List.getElem_cons_zero, put_at, List.set] | (try simp only [put_at, List.set]))
    refine wpAnyL_take (i := 13) (v := ?_) rfl (by kernel_rfl) (by kernel_rfl) (by kernel_rfl) (by kernel_rfl) (fun _ _ _ h => h) (by kernel_rfl) hClosed (Or.inl ⟨by rfl, ?_⟩) hHeld (fun hClosed => ?_)
    rotate_left
    · intro wv hSw; go_simp; all_goals (with_reducible rfl)
    (try simp only [List.getElem_toArray, List.getElem_cons_succ, List.getElem_cons_zero, put_at, List.set])
    refine wpAnyL_take (i := 14) (v := ?_) rfl (by kernel_rfl) (by kernel_rfl) (by kernel_rfl) (by kernel_rfl) (fun _ _ _ h => h) (by kernel_rfl) hClosed (Or.inl ⟨by rfl, ?_⟩) hHeld (fun hClosed => ?_)
    rotate_left
    · intro wv hSw; go_simp; all_goals (with_reducible rfl)
    (try simp only [List.getElem_toArray, List.getElem_cons_succ, List.getElem_cons_zero, put_at, List.set])
    refine wpAnyL_take (i := 15) (v := ?_) rfl (by kernel_rfl) (by kernel_rfl) (by kernel_rfl) (by kernel_rfl) (fun _ _ _ h => h) (by kernel_rfl) hClosed (Or.inl ⟨by rfl, ?_⟩) hHeld (fun hClosed => ?_)
    rotate_left
    · intro wv hSw; go_simp; all_goals (with_reducible rfl)
    (try simp only [List.getElem_toArray, List.getElem_cons_succ, List.getElem_cons_zero, put_at, List.set])
    refine wpAnyL_take (i := 16) (v := (.agg #[.string a1, .string b1, .int .i64 (p1 : Int), .string c1, .string d1, .bool k1])) rfl (by kernel_rfl) (by kernel_rfl) (by kernel_rfl) (by kernel_rfl) (fun _ _ _ h => h) (by kernel_rfl) hClosed (Or.inl ⟨by rfl, ?_⟩) hHeld (fun hClosed => ?_)
    · intro wv hSw; exact exec_load_box (by rfl) (by rfl) hSw.1 Tryd.underlying41 rfl (by kernel_rfl)
    (try simp only [List.getElem_toArray, List.getElem_cons_succ, List.getElem_cons_zero, put_at, List.set])
    refine wpAnyL_take (i := 18) (v := (.agg #[.string a2, .string b2, .int .i64 (p2 : Int), .string c2, .string d2, .bool k2])) rfl (by kernel_rfl) (by kernel_rfl) (by kernel_rfl) (by kernel_rfl) (fun _ _ _ h => h) (by kernel_rfl) hClosed (Or.inl ⟨by rfl, ?_⟩) hHeld (fun hClosed => ?_)
    · intro wv hSw; exact exec_load_box (by rfl) (by rfl) hSw.2.1 Tryd.underlying41 rfl (by kernel_rfl)
    (try simp only [List.getElem_toArray, List.getElem_cons_succ, List.getElem_cons_zero, put_at, List.set])
    refine wpAnyL_take (i := 21) (v := (.agg #[.string a1, .string b1, .int .i64 (p1 : Int), .string c1, .string d1, .bool k1])) rfl (by kernel_rfl) (by kernel_rfl) (by kernel_rfl) (by kernel_rfl) (fun _ _ _ h => h) (by kernel_rfl) hClosed (Or.inl ⟨by rfl, ?_⟩) hHeld (fun hClosed => ?_)
    · intro wv hSw; exact exec_load_box (by rfl) (by rfl) hSw.1 Tryd.underlying41 rfl (by kernel_rfl)
    (try simp only [List.getElem_toArray, List.getElem_cons_succ, List.getElem_cons_zero, put_at, List.set])
    refine wpAnyL_take (i := 22) (v := (.agg #[.string a2, .string b2, .int .i64 (p2 : Int), .string c2, .string d2, .bool k2])) rfl (by kernel_rfl) (by kernel_rfl) (by kernel_rfl) (by kernel_rfl) (fun _ _ _ h => h) (by kernel_rfl) hClosed (Or.inl ⟨by rfl, ?_⟩) hHeld (fun hClosed => ?_)
    · intro wv hSw; exact exec_load_box (by rfl) (by rfl) hSw.2.1 Tryd.underlying41 rfl (by kernel_rfl)
    (try simp only [List.getElem_toArray, List.getElem_cons_succ, List.getElem_cons_zero, put_at, List.set])
    refine wpAnyL_take (i := 23) (v := ?_) rfl (by kernel_rfl) (by kernel_rfl) (by kernel_rfl) (by kernel_rfl) (fun _ _ _ h => h) (by kernel_rfl) hClosed (Or.inl ⟨by rfl, ?_⟩) hHeld (fun hClosed => ?_)
    rotate_left
    · intro wv hSw; go_simp; all_goals (with_reducible rfl)
    (try simp only [List.getElem_toArray, List.getElem_cons_succ, List.getElem_cons_zero, put_at, List.set])
    refine wpAnyL_one (i := 17) rfl (by kernel_rfl) (by kernel_rfl) hClosed (fun KK hK => ?_)
    go_simp
    refine (C5.out _ hHeld.2.2.2.1).mono ?_
    rintro e wq ⟨rfl, hbq⟩
    go_wp2_with fail
    refine hK.out _ _ ?_ (fun hClosed hHeld => ?_)
    · exact ⟨hHeld.1.later hbq, hHeld.2.1.later hbq, hHeld.2.2.1.later hbq, hHeld.2.2.2.1.later hbq, hHeld.2.2.2.2.trans (hbq.mono hHeld.2.2.2.2.size)⟩
    clear hK KK
    (first | simp only [List.getElem_toArray, List.getElem_cons_succ, List.getElem_cons_zero, put_at, List.set] | (try simp only [put_at, List.set]))
    refine wpAnyL_one (i := 19) rfl (by kernel_rfl) (by kernel_rfl) hClosed (fun KK hK => ?_)
    go_simp
    refine (C6.out _ hHeld.2.2.2.1).mono ?_
    rintro e wq ⟨rfl, hbq⟩
    go_wp2_with fail
    refine hK.out _ _ ?_ (fun hClosed hHeld => ?_)
    · exact ⟨hHeld.1.later hbq, hHeld.2.1.later hbq, hHeld.2.2.1.later hbq, hHeld.2.2.2.1.later hbq, hHeld.2.2.2.2.trans (hbq.mono hHeld.2.2.2.2.size)⟩
    clear hK KK
    (first | simp only [List.getElem_toArray, List.getElem_cons_succ, List.getElem_cons_zero, put_at, List.set] | (try simp only [put_at, List.set]))
    refine wpAnyL_take (i := 20) (v := ?_) rfl (by kernel_rfl) (by kernel_rfl) (by kernel_rfl) (by kernel_rfl) (fun _ _ _ h => h) (by kernel_rfl) hClosed (Or.inl ⟨by rfl, ?_⟩) hHeld (fun hClosed => ?_)
    rotate_left
    · intro wv hSw; go_simp; all_goals (with_reducible rfl)
    (try simp only [List.getElem_toArray, List.getElem_cons_succ, List.getElem_cons_zero, put_at, List.set])
    refine wpAnyL_take (i := 24) (v := ?_) rfl (by kernel_rfl) (by kernel_rfl) (by kernel_rfl) (by kernel_rfl) (fun _ _ _ h => h) (by kernel_rfl) hClosed (Or.inl ⟨by rfl, ?_⟩) hHeld (fun hClosed => ?_)
    rotate_left
    · intro wv hSw; go_simp; all_goals (with_reducible rfl)
    (try simp only [List.getElem_toArray, List.getElem_cons_succ, List.getElem_cons_zero, put_at, List.set])
    refine wpAnyL_take (i := 25) (v := ?_) rfl (by kernel_rfl) (by kernel_rfl) (by kernel_rfl) (by kernel_rfl) (fun _ _ _ h => h) (by kernel_rfl) hClosed (Or.inl ⟨by rfl, ?_⟩) hHeld (fun hClosed => ?_)
    rotate_left
    · intro wv hSw; go_simp; all_goals (with_reducible rfl)
    (try simp only [List.getElem_toArray, List.getElem_cons_succ, List.getElem_cons_zero, put_at, List.set])
    refine wpAnyL_last rfl (by kernel_rfl) (by kernel_rfl) (fun KK hK => ?_)
    go_simp
    refine hK.out _ _ ?_
    (try simp only [put_at, List.set])
    go_wp2
    go_ret
    exact ⟨rfl, hHeld.2.2.2.2⟩
  | false =>
    refine wp_region_last 26 (fun w' => Box w' g1 #[.string a1, .string b1, .int .i64 (p1 : Int), .string c1, .string d1, .bool k1] 41 ∧ Box w' g2 #[.string a2, .string b2, .int .i64 (p2 : Int), .string c2, .string d2, .bool k2] 41 ∧ Box w' g3 #[.string a1, .string b1, .int .i64 (p1 : Int), .string c2, .string d2, .bool k2] 41 ∧ TabsU w' ∧ Below w.heap.size w w') (by kernel_rfl) (⟨X1.out.drew, Y1.out.drew, Z1.out.drew, T1.out.later ((Below.refl _ _).drew), B1.out.drew⟩) (fun hHeld hClosed => ?_)
    refine wpAnyL_one (i := 0) rfl (by kernel_rfl) (by kernel_rfl) hClosed (fun KK hK => ?_)
    go_simp
    refine (C0.out _ hHeld.2.2.2.1).mono ?_
    rintro e wq ⟨rfl, hbq⟩
    go_wp2_with fail
    refine hK.out _ _ ?_ (fun hClosed hHeld => ?_)
    · exact ⟨hHeld.1.later hbq, hHeld.2.1.later hbq, hHeld.2.2.1.later hbq, hHeld.2.2.2.1.later hbq, hHeld.2.2.2.2.trans (hbq.mono hHeld.2.2.2.2.size)⟩
    clear hK KK
    (first | simp only [List.getElem_toArray, List.getElem_cons_zero, put_at, List.set] | (try simp only [put_at, List.set]))
    refine wpAnyL_take (i := 1) (v := ?_) rfl (by kernel_rfl) (by kernel_rfl) (by kernel_rfl) (by kernel_rfl) (fun _ _ _ h => h) (by kernel_rfl) hClosed (Or.inl ⟨by rfl, ?_⟩) hHeld (fun hClosed => ?_)
    rotate_left
    · intro wv hSw; go_simp; all_goals (with_reducible rfl)
    (try simp only [List.getElem_toArray, List.getElem_cons_succ, List.getElem_cons_zero, put_at, List.set])
    refine wpAnyL_take (i := 2) (v := (.agg #[.string a1, .string b1, .int .i64 (p1 : Int), .string c2, .string d2, .bool k2])) rfl (by kernel_rfl) (by kernel_rfl) (by kernel_rfl) (by kernel_rfl) (fun _ _ _ h => h) (by kernel_rfl) hClosed (Or.inl ⟨by rfl, ?_⟩) hHeld (fun hClosed => ?_)
    · intro wv hSw; exact exec_load_box (by rfl) (by rfl) hSw.2.2.1 Tryd.underlying41 rfl (by kernel_rfl)
    (try simp only [List.getElem_toArray, List.getElem_cons_succ, List.getElem_cons_zero, put_at, List.set])
    refine wpAnyL_take (i := 4) (v := (.agg #[.string a1, .string b1, .int .i64 (p1 : Int), .string c1, .string d1, .bool k1])) rfl (by kernel_rfl) (by kernel_rfl) (by kernel_rfl) (by kernel_rfl) (fun _ _ _ h => h) (by kernel_rfl) hClosed (Or.inl ⟨by rfl, ?_⟩) hHeld (fun hClosed => ?_)
    · intro wv hSw; exact exec_load_box (by rfl) (by rfl) hSw.1 Tryd.underlying41 rfl (by kernel_rfl)
    (try simp only [List.getElem_toArray, List.getElem_cons_succ, List.getElem_cons_zero, put_at, List.set])
    refine wpAnyL_one (i := 3) rfl (by kernel_rfl) (by kernel_rfl) hClosed (fun KK hK => ?_)
    go_simp
    refine (C1.out _ hHeld.2.2.2.1).mono ?_
    rintro e wq ⟨rfl, hbq⟩
    go_wp2_with fail
    refine hK.out _ _ ?_ (fun hClosed hHeld => ?_)
    · exact ⟨hHeld.1.later hbq, hHeld.2.1.later hbq, hHeld.2.2.1.later hbq, hHeld.2.2.2.1.later hbq, hHeld.2.2.2.2.trans (hbq.mono hHeld.2.2.2.2.size)⟩
    clear hK KK
    (first | simp only [List.getElem_toArray, List.getElem_cons_succ, List.getElem_cons_zero, put_at, List.set] | (try simp only [put_at, List.set]))
    refine wpAnyL_one (i := 5) rfl (by kernel_rfl) (by kernel_rfl) hClosed (fun KK hK => ?_)
    go_simp
    refine (C2.out _ hHeld.2.2.2.1).mono ?_
    rintro e wq ⟨rfl, hbq⟩
    go_wp2_with fail
    refine hK.out _ _ ?_ (fun hClosed hHeld => ?_)
    · exact ⟨hHeld.1.later hbq, hHeld.2.1.later hbq, hHeld.2.2.1.later hbq, hHeld.2.2.2.1.later hbq, hHeld.2.2.2.2.trans (hbq.mono hHeld.2.2.2.2.size)⟩
    clear hK KK
    (first | simp only [List.getElem_toArray, List.getElem_cons_succ, List.getElem_cons_zero, put_at, List.set] | (try simp only [put_at, List.set]))
    refine wpAnyL_take (i := 6) (v := ?_) rfl (by kernel_rfl) (by kernel_rfl) (by kernel_rfl) (by kernel_rfl) (fun _ _ _ h => h) (by kernel_rfl) hClosed (Or.inl ⟨by rfl, ?_⟩) hHeld (fun hClosed => ?_)
    rotate_left
    · intro wv hSw; go_simp; all_goals (with_reducible rfl)
    (try simp only [List.getElem_toArray, List.getElem_cons_succ, List.getElem_cons_zero, put_at, List.set])
    refine wpAnyL_take (i := 7) (v := ?_) rfl (by kernel_rfl) (by kernel_rfl) (by kernel_rfl) (by kernel_rfl) (fun _ _ _ h => h) (by kernel_rfl) hClosed (Or.inl ⟨by rfl, ?_⟩) hHeld (fun hClosed => ?_)
    rotate_left
    · intro wv hSw; go_simp; all_goals (with_reducible rfl)
    (try simp only [List.getElem_toArray, List.getElem_cons_succ, List.getElem_cons_zero, put_at, List.set])
    refine wpAnyL_take (i := 8) (v := ?_) rfl (by kernel_rfl) (by kernel_rfl) (by kernel_rfl) (by kernel_rfl) (fun _ _ _ h => h) (by kernel_rfl) hClosed (Or.inl ⟨by rfl, ?_⟩) hHeld (fun hClosed => ?_)
    rotate_left
    · intro wv hSw; go_simp; all_goals (with_reducible rfl)
    (try simp only [List.getElem_toArray, List.getElem_cons_succ, List.getElem_cons_zero, put_at, List.set])
    refine wpAnyL_take (i := 9) (v := (.agg #[.string a1, .string b1, .int .i64 (p1 : Int), .string c2, .string d2, .bool k2])) rfl (by kernel_rfl) (by kernel_rfl) (by kernel_rfl) (by kernel_rfl) (fun _ _ _ h => h) (by kernel_rfl) hClosed (Or.inl ⟨by rfl, ?_⟩) hHeld (fun hClosed => ?_)
    · intro wv hSw; exact exec_load_box (by rfl) (by rfl) hSw.2.2.1 Tryd.underlying41 rfl (by kernel_rfl)
    (try simp only [List.getElem_toArray, List.getElem_cons_succ, List.getElem_cons_zero, put_at, List.set])
    refine wpAnyL_take (i := 11) (v := (.agg #[.string a2, .string b2, .int .i64 (p2 : Int), .string c2, .string d2, .bool k2])) rfl (by kernel_rfl) (by kernel_rfl) (by kernel_rfl) (by kernel_rfl) (fun _ _ _ h => h) (by kernel_rfl) hClosed (Or.inl ⟨by rfl, ?_⟩) hHeld (fun hClosed => ?_)
    · intro wv hSw; exact exec_load_box (by rfl) (by rfl) hSw.2.1 Tryd.underlying41 rfl (by kernel_rfl)
    (try simp only [List.getElem_toArray, List.getElem_cons_succ, List.getElem_cons_zero, put_at, List.set])
    refine wpAnyL_one (i := 10) rfl (by kernel_rfl) (by kernel_rfl) hClosed (fun KK hK => ?_)
    go_simp
    refine (C3.out _ hHeld.2.2.2.1).mono ?_
    rintro e wq ⟨rfl, hbq⟩
    go_wp2_with fail
    refine hK.out _ _ ?_ (fun hClosed hHeld => ?_)
    · exact ⟨hHeld.1.later hbq, hHeld.2.1.later hbq, hHeld.2.2.1.later hbq, hHeld.2.2.2.1.later hbq, hHeld.2.2.2.2.trans (hbq.mono hHeld.2.2.2.2.size)⟩
    clear hK KK
    (first | simp only [List.getElem_toArray, List.getElem_cons_succ, List.getElem_cons_zero, put_at, List.set] | (try simp only [put_at, List.set]))
    refine wpAnyL_one (i := 12) rfl (by kernel_rfl) (by kernel_rfl) hClosed (fun KK hK => ?_)
    go_simp
    refine (C4.out _ hHeld.2.2.2.1).mono ?_
    rintro e wq ⟨rfl, hbq⟩
    go_wp2_with fail
    refine hK.out _ _ ?_ (fun hClosed hHeld => ?_)
    · exact ⟨hHeld.1.later hbq, hHeld.2.1.later hbq, hHeld.2.2.1.later hbq, hHeld.2.2.2.1.later hbq, hHeld.2.2.2.2.trans (hbq.mono hHeld.2.2.2.2.size)⟩
    clear hK KK
    (first | simp only [List.getElem_toArray, List.getElem_cons_succ, List.getElem_cons_zero, put_at, List.set] | (try simp only [put_at, List.set]))
    refine wpAnyL_take (i := 13) (v := ?_) rfl (by kernel_rfl) (by kernel_rfl) (by kernel_rfl) (by kernel_rfl) (fun _ _ _ h => h) (by kernel_rfl) hClosed (Or.inl ⟨by rfl, ?_⟩) hHeld (fun hClosed => ?_)
    rotate_left
    · intro wv hSw; go_simp; all_goals (with_reducible rfl)
    (try simp only [List.getElem_toArray, List.getElem_cons_succ, List.getElem_cons_zero, put_at, List.set])
    refine wpAnyL_take (i := 14) (v := ?_) rfl (by kernel_rfl) (by kernel_rfl) (by kernel_rfl) (by kernel_rfl) (fun _ _ _ h => h) (by kernel_rfl) hClosed (Or.inl ⟨by rfl, ?_⟩) hHeld (fun hClosed => ?_)
    rotate_left
    · intro wv hSw; go_simp; all_goals (with_reducible rfl)
    (try simp only [List.getElem_toArray, List.getElem_cons_succ, List.getElem_cons_zero, put_at, List.set])
    refine wpAnyL_take (i := 15) (v := ?_) rfl (by kernel_rfl) (by kernel_rfl) (by kernel_rfl) (by kernel_rfl) (fun _ _ _ h => h) (by kernel_rfl) hClosed (Or.inl ⟨by rfl, ?_⟩) hHeld (fun hClosed => ?_)
    rotate_left
    · intro wv hSw; go_simp; all_goals (with_reducible rfl)
    (try simp only [List.getElem_toArray, List.getElem_cons_succ, List.getElem_cons_zero, put_at, List.set])
    refine wpAnyL_take (i := 16) (v := (.agg #[.string a1, .string b1, .int .i64 (p1 : Int), .string c1, .string d1, .bool k1])) rfl (by kernel_rfl) (by kernel_rfl) (by kernel_rfl) (by kernel_rfl) (fun _ _ _ h => h) (by kernel_rfl) hClosed (Or.inl ⟨by rfl, ?_⟩) hHeld (fun hClosed => ?_)
    · intro wv hSw; exact exec_load_box (by rfl) (by rfl) hSw.1 Tryd.underlying41 rfl (by kernel_rfl)
    (try simp only [List.getElem_toArray, List.getElem_cons_succ, List.getElem_cons_zero, put_at, List.set])
    refine wpAnyL_take (i := 18) (v := (.agg #[.string a2, .string b2, .int .i64 (p2 : Int), .string c2, .string d2, .bool k2])) rfl (by kernel_rfl) (by kernel_rfl) (by kernel_rfl) (by kernel_rfl) (fun _ _ _ h => h) (by kernel_rfl) hClosed (Or.inl ⟨by rfl, ?_⟩) hHeld (fun hClosed => ?_)
    · intro wv hSw; exact exec_load_box (by rfl) (by rfl) hSw.2.1 Tryd.underlying41 rfl (by kernel_rfl)
    (try simp only [List.getElem_toArray, List.getElem_cons_succ, List.getElem_cons_zero, put_at, List.set])
    refine wpAnyL_take (i := 21) (v := (.agg #[.string a1, .string b1, .int .i64 (p1 : Int), .string c1, .string d1, .bool k1])) rfl (by kernel_rfl) (by kernel_rfl) (by kernel_rfl) (by kernel_rfl) (fun _ _ _ h => h) (by kernel_rfl) hClosed (Or.inl ⟨by rfl, ?_⟩) hHeld (fun hClosed => ?_)
    · intro wv hSw; exact exec_load_box (by rfl) (by rfl) hSw.1 Tryd.underlying41 rfl (by kernel_rfl)
    (try simp only [List.getElem_toArray, List.getElem_cons_succ, List.getElem_cons_zero, put_at, List.set])
    refine wpAnyL_take (i := 22) (v := (.agg #[.string a2, .string b2, .int .i64 (p2 : Int), .string c2, .string d2, .bool k2])) rfl (by kernel_rfl) (by kernel_rfl) (by kernel_rfl) (by kernel_rfl) (fun _ _ _ h => h) (by kernel_rfl) hClosed (Or.inl ⟨by rfl, ?_⟩) hHeld (fun hClosed => ?_)
    · intro wv hSw; exact exec_load_box (by rfl) (by rfl) hSw.2.1 Tryd.underlying41 rfl (by kernel_rfl)
    (try simp only [List.getElem_toArray, List.getElem_cons_succ, List.getElem_cons_zero, put_at, List.set])
    refine wpAnyL_take (i := 23) (v := ?_) rfl (by kernel_rfl) (by kernel_rfl) (by kernel_rfl) (by kernel_rfl) (fun _ _ _ h => h) (by kernel_rfl) hClosed (Or.inl ⟨by rfl, ?_⟩) hHeld (fun hClosed => ?_)
    rotate_left
    · intro wv hSw; go_simp; all_goals (with_reducible rfl)
    (try simp only [List.getElem_toArray, List.getElem_cons_succ, List.getElem_cons_zero, put_at, List.set])
    refine wpAnyL_one (i := 17) rfl (by kernel_rfl) (by kernel_rfl) hClosed (fun KK hK => ?_)
    go_simp
    refine (C5.out _ hHeld.2.2.2.1).mono ?_
    rintro e wq ⟨rfl, hbq⟩
    go_wp2_with fail
    refine hK.out _ _ ?_ (fun hClosed hHeld => ?_)
    · exact ⟨hHeld.1.later hbq, hHeld.2.1.later hbq, hHeld.2.2.1.later hbq, hHeld.2.2.2.1.later hbq, hHeld.2.2.2.2.trans (hbq.mono hHeld.2.2.2.2.size)⟩
    clear hK KK
    (first | simp only [List.getElem_toArray, List.getElem_cons_succ, List.getElem_cons_zero, put_at, List.set] | (try simp only [put_at, List.set]))
    refine wpAnyL_one (i := 19) rfl (by kernel_rfl) (by kernel_rfl) hClosed (fun KK hK => ?_)
    go_simp
    refine (C6.out _ hHeld.2.2.2.1).mono ?_
    rintro e wq ⟨rfl, hbq⟩
    go_wp2_with fail
    refine hK.out _ _ ?_ (fun hClosed hHeld => ?_)
    · exact ⟨hHeld.1.later hbq, hHeld.2.1.later hbq, hHeld.2.2.1.later hbq, hHeld.2.2.2.1.later hbq, hHeld.2.2.2.2.trans (hbq.mono hHeld.2.2.2.2.size)⟩
    clear hK KK
    (first | simp only [List.getElem_toArray, List.getElem_cons_succ, List.getElem_cons_zero, put_at, List.set] | (try simp only [put_at, List.set]))
    refine wpAnyL_take (i := 20) (v := ?_) rfl (by kernel_rfl) (by kernel_rfl) (by kernel_rfl) (by kernel_rfl) (fun _ _ _ h => h) (by kernel_rfl) hClosed (Or.inl ⟨by rfl, ?_⟩) hHeld (fun hClosed => ?_)
    rotate_left
    · intro wv hSw; go_simp; all_goals (with_reducible rfl)
    (try simp only [List.getElem_toArray, List.getElem_cons_succ, List.getElem_cons_zero, put_at, List.set])
    refine wpAnyL_take (i := 24) (v := ?_) rfl (by kernel_rfl) (by kernel_rfl) (by kernel_rfl) (by kernel_rfl) (fun _ _ _ h => h) (by kernel_rfl) hClosed (Or.inl ⟨by rfl, ?_⟩) hHeld (fun hClosed => ?_)
    rotate_left
    · intro wv hSw; go_simp; all_goals (with_reducible rfl)
    (try simp only [List.getElem_toArray, List.getElem_cons_succ, List.getElem_cons_zero, put_at, List.set])
    refine wpAnyL_take (i := 25) (v := ?_) rfl (by kernel_rfl) (by kernel_rfl) (by kernel_rfl) (by kernel_rfl) (fun _ _ _ h => h) (by kernel_rfl) hClosed (Or.inl ⟨by rfl, ?_⟩) hHeld (fun hClosed => ?_)
    rotate_left
    · intro wv hSw; go_simp; all_goals (with_reducible rfl)
    (try simp only [List.getElem_toArray, List.getElem_cons_succ, List.getElem_cons_zero, put_at, List.set])
    refine wpAnyL_last rfl (by kernel_rfl) (by kernel_rfl) (fun KK hK => ?_)
    go_simp
    refine hK.out _ _ ?_
    (try simp only [put_at, List.set])
    go_wp2
    go_ret
    exact ⟨rfl, hHeld.2.2.2.2⟩
theorem urlKeys_out (sa sb : ByteArray) (v1 v2 : Value) (x1 x2 : Int) (hne : x1 ≠ 0 ∨ x2 ≠ 0) (w : World) (hT : TabsU w) (a1 b1 c1 d1 a2 b2 c2 d2 : ByteArray) (p1 p2 : Int) (k1 k2 : Bool)
    (e1 : prV (parI (btL sa)) = .tuple #[.agg #[.string a1, .string b1, .int .i64 p1, .string c1, .string d1, .bool k1], .int .i64 x1]) (e2 : prV (parI (btL sb)) = .tuple #[.agg #[.string a2, .string b2, .int .i64 p2, .string c2, .string d2, .bool k2], .int .i64 x2]) :
    Calls Tryd.prog 11 #[.string sa, .string sb] w fun e w' => e = .returned (.bool true) ∧ Below w.heap.size w w' := by
  have HT := Lib.hid hT
  clear hT
  have P1 : Hid (∀ W : World, TabsU W → Calls Tryd.prog 22 #[.string sa] W fun e w' => e = .returned (.tuple #[.agg #[.string a1, .string b1, .int .i64 p1, .string c1, .string d1, .bool k1], .int .i64 x1]) ∧ Below W.heap.size W w') := Lib.hid (fun W hW => by
    have := parse_any sa _ rfl W hW
    rw [e1] at this
    exact this)
  have P2 : Hid (∀ W : World, TabsU W → Calls Tryd.prog 22 #[.string sb] W fun e w' => e = .returned (.tuple #[.agg #[.string a2, .string b2, .int .i64 p2, .string c2, .string d2, .bool k2], .int .i64 x2]) ∧ Below W.heap.size W w') := Lib.hid (fun W hW => by
    have := parse_any sb _ rfl W hW
    rw [e2] at this
    exact this)
  obtain ⟨y1, hy1⟩ : ∃ y, (x1 != 0) = y := ⟨_, rfl⟩
  obtain ⟨y2, hy2⟩ : ∃ y, (x2 != 0) = y := ⟨_, rfl⟩
  have hor : y1 = false → y2 = true := by
    intro e
    rw [e, bne_eq_false_iff_eq] at hy1
    rw [← hy2, bne_iff_ne]
    rcases hne with h | h
    · exact absurd hy1 h
    · exact h
  clear e1 e2 hne
  go_enter Tryd.func11, Tryd.ntmps11
  go_wp2_with fail
  refine (P1.out _ HT.out).mono ?_
  rintro e w1 ⟨rfl, hb1⟩
  have B1 := Lib.hid hb1
  have T1 := Lib.hid (HT.out.later hb1)
  clear hb1
  go_wp2_with fail
  refine calls_forget (fun w2 => Hid (TabsU w2) ∧ Hid (Below w.heap.size w w2)) ⟨Lib.hid (T1.out.later ((Below.refl _ _).alloc (Nat.le_refl _) _)), Lib.hid (B1.out.alloc B1.out.size _)⟩ ?_
  rintro w2 ⟨T2, B2⟩
  clear T1 B1
  refine (P2.out _ T2.out).mono ?_
  rintro e w3 ⟨rfl, hb3⟩
  have T3 := Lib.hid (T2.out.later hb3)
  have B3 := Lib.hid (B2.out.trans (hb3.mono B2.out.size))
  clear hb3 T2 B2
  cases y1 with
  | true =>
    clear hor hy2
    go_wp2_with fail
    refine calls_forget (fun w4 => Hid (TabsU w4) ∧ Hid (Below w.heap.size w w4)) ⟨Lib.hid (T3.out.later ((Below.refl _ _).alloc (Nat.le_refl _) _)), Lib.hid (B3.out.alloc B3.out.size _)⟩ ?_
    rintro w4 ⟨T4, B4⟩
    refine (awake_at _ T4.out).mono ?_
    rintro e w5 ⟨rfl, hb5⟩
    have B5 := Lib.hid (B4.out.trans (hb5.mono B4.out.size))
    clear hb5
    go_wp2
    go_ret
    exact ⟨rfl, B5.out⟩
  | false =>
    obtain rfl : y2 = true := hor rfl
    clear hor
    go_wp2_with fail
    refine calls_forget (fun w4 => Hid (TabsU w4) ∧ Hid (Below w.heap.size w w4)) ⟨Lib.hid (T3.out.later ((Below.refl _ _).alloc (Nat.le_refl _) _)), Lib.hid (B3.out.alloc B3.out.size _)⟩ ?_
    rintro w4 ⟨T4, B4⟩
    refine (awake_at _ T4.out).mono ?_
    rintro e w5 ⟨rfl, hb5⟩
    have B5 := Lib.hid (B4.out.trans (hb5.mono B4.out.size))
    clear hb5
    go_wp2
    go_ret
    exact ⟨rfl, B5.out⟩
theorem urlKeys_walk (sa sb : ByteArray) (w : World) (_ : sa.size ≤ maxLen) (_ : sb.size ≤ maxLen) (hT : TabsU w) :
    Calls Tryd.prog 11 #[.string sa, .string sb] w fun e w' => e = .returned (.bool true) ∧ Below w.heap.size w w' := by
  obtain ⟨a1, b1, c1, d1, p1, x1, k1, e1⟩ := prV_form (parI (btL sa))
  obtain ⟨a2, b2, c2, d2, p2, x2, k2, e2⟩ := prV_form (parI (btL sb))
  rcases pr_cases (btL sa) (btL_byts sa) with ⟨v, e, h1, h2, _⟩ | ⟨s1, k1', h1, xx1, y1, n1, f1, o1⟩
  · rw [h1] at e1
    injection e1 with e1
    have e3 : e = x1 := by
      have h := Array.mk.inj e1
      injection h with _ h
      injection h with h _
      injection h
    exact urlKeys_out sa sb (.agg v) (.agg v) x1 x2 (Or.inl (e3 ▸ h2)) w hT a1 b1 c1 d1 a2 b2 c2 d2 p1 p2 k1 k2 (by rw [h1, e1]) e2
  · rcases pr_cases (btL sb) (btL_byts sb) with ⟨v, e, h1', h2, _⟩ | ⟨s2, k2', h2, xx2, y2, n2, f2, o2⟩
    · rw [h1'] at e2
      injection e2 with e2
      have e3 : e = x2 := by
        have h := Array.mk.inj e2
        injection h with _ h
        injection h with h _
        injection h
      exact urlKeys_out sa sb (.agg v) (.agg v) x1 x2 (Or.inr (e3 ▸ h2)) w hT a1 b1 c1 d1 a2 b2 c2 d2 p1 p2 k1 k2 e1 (by rw [h1', e2])
    · exact keys_main s1 s2 k1' k2' h1 h2 xx1 xx2 y1 y2 n1 n2 o1 o2 sa sb f1 f2 w hT
end Go.Proofs.YtcdodpkfhkfnkaaDoor
