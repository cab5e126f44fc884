/- UrlParts: the walk. -/
import Derived.Test.YtcdodpkfhkfnkaaDoorUrAwk
import Derived.Test.YtcdodpkfhkfnkaaDoorUrEq
import Derived.Test.YtcdodpkfhkfnkaaDoorDeepW
namespace Go.Proofs.YtcdodpkfhkfnkaaDoor
open Go.RowKit
set_option linter.unusedVariables false
set_option linter.unusedSimpArgs false
set_option maxRecDepth 10000

/-- A place's parts, as they come in. -/
structure Ux where
  sc : ByteArray
  ho : ByteArray
  po : Int
  pa : ByteArray
  qu : ByteArray
  ak : Bool
def uxL (u : Ux) : List Value := [.string u.sc, .string u.ho, .int .i64 u.po, .string u.pa, .string u.qu, .bool u.ak]
def UxOk (u : Ux) : Prop := u.sc.size ≤ reachBytes ∧ u.ho.size ≤ reachBytes ∧ u.pa.size ≤ reachBytes ∧ u.qu.size ≤ reachBytes ∧ -9223372036854775808 ≤ u.po ∧ u.po ≤ 9223372036854775807
section
open Go.Joins Go.Deep Go.WideShapes
variable {H : Type} {enc : TypeId × Value → H} {w : World} {base b0 : Nat} {held : Bool} {rr : Reach}
theorem arr_is {cs : Array Value} {l : List Value} (hl : cs.size = l.length) (h : ∀ i, i < l.length → cs.toList[i]? = l[i]?) : cs = l.toArray := by
  apply Array.ext'
  apply List.ext_getElem?
  intro i
  by_cases hi : i < l.length
  · simpa using h i hi
  · rw [List.getElem?_eq_none (by simp; omega), List.getElem?_eq_none (by simpa using hi)]
theorem open_url {v : Value} {d : DataW H} {p : List MemPlace} (hv : Value.okWide Tryd.prog w rr b0 41 v) (hd : DataW.Trod enc Tryd.prog w base (fun _ => true) held 41 v d p) (hwt : ∀ k ∈ d.weights Tryd.prog 41, k ≤ reachBytes) :
    ∃ u : Ux, v = .agg #[.string u.sc, .string u.ho, .int .i64 u.po, .string u.pa, .string u.qu, .bool u.ak] ∧ UxOk u := by
  obtain ⟨cs, rfl, hsz⟩ := okWide_struct Tryd.underlying41 hv
  have h := Fits.of hd
  have hw : FitsW enc Tryd.prog w base (fun _ => true) held reachBytes 41 cs.toList := by
    obtain ⟨fu, hfu⟩ := hd
    exact ⟨fu, _, hfu, hwt⟩
  obtain ⟨x0, h0, w0⟩ := hw.string Tryd.underlying41 0 0 rfl rfl rfl Tryd.underlying9 (by kernel_rfl)
  obtain ⟨x1, h1, w1⟩ := hw.string Tryd.underlying41 1 1 rfl rfl rfl Tryd.underlying9 (by kernel_rfl)
  obtain ⟨x2, h2, w2⟩ := h.int Tryd.underlying41 2 2 rfl rfl rfl Tryd.underlying3 (by kernel_rfl)
  obtain ⟨x3, h3, w3⟩ := hw.string Tryd.underlying41 3 3 rfl rfl rfl Tryd.underlying9 (by kernel_rfl)
  obtain ⟨x4, h4, w4⟩ := hw.string Tryd.underlying41 4 4 rfl rfl rfl Tryd.underlying9 (by kernel_rfl)
  obtain ⟨x5, h5⟩ := h.bool Tryd.underlying41 5 5 rfl rfl rfl Tryd.underlying4 (by kernel_rfl)
  have hin : -9223372036854775808 ≤ x2 ∧ x2 ≤ 9223372036854775807 := by
    simp [Lit.wf, IntKind.min, IntKind.max, IntKind.signed, IntKind.bits] at w2
    omega
  refine ⟨⟨x0, x1, x2, x3, x4, x5⟩, congrArg Value.agg (arr_is (l := uxL ⟨x0, x1, x2, x3, x4, x5⟩) (hsz.trans (by kernel_rfl)) fun i hi => ?_), w0, w1, w3, w4, hin.1, hin.2⟩
  have hj : i < 6 := hi
  match i, hj with
  | 0, _ => exact h0
  | 1, _ => exact h1
  | 2, _ => exact h2
  | 3, _ => exact h3
  | 4, _ => exact h4
  | 5, _ => exact h5
end
set_option maxHeartbeats 2000000 in
theorem urlParts_awake (u : Ux) (w : World) (hu : UxOk u) (hT : TabsU w) (hb : 2000 < u.ho.size + u.pa.size + u.qu.size + u.sc.size ∨ u.po < 0) :
    Calls Tryd.prog 8 #[.agg #[.string u.sc, .string u.ho, .int .i64 u.po, .string u.pa, .string u.qu, .bool u.ak]] w fun e w' => e = .returned (.bool true) ∧ Below w.heap.size w w' := by
  obtain ⟨sc, ho, po, pa, qu, ak⟩ := u
  obtain ⟨z1, z2, z3, z4, z5, z6⟩ := hu
  simp only [reachBytes] at z1 z2 z3 z4 z5 z6 hb ⊢
  have HT := Lib.hid hT
  clear hT
  have C0 : Hid (∀ W : World, TabsU W → Calls Tryd.prog 24 #[] W fun e w' => e = .returned (.bool true) ∧ Below W.heap.size W w') := Lib.hid (fun W hW => awake_at W hW)
  have z0 : (0 : Int) ≤ (ho.size : Int) + (pa.size : Int) := by omega
  by_cases h : 2000 < ho.size + pa.size + qu.size + sc.size
  · have d : decide ((2000 : Int) < (ho.size : Int) + (pa.size : Int) + (qu.size : Int) + (sc.size : Int)) = true := decide_eq_true (by omega)
    clear hb
    go_enter Tryd.func8, Tryd.ntmps8
    go_wp2_with fail
    refine calls_forget (fun w1 => Hid (TabsU w1) ∧ Hid (Below w.heap.size w w1)) ⟨Lib.hid (HT.out.later ((Below.refl _ _).alloc (Nat.le_refl _) _)), Lib.hid ((Below.refl _ _).alloc (Nat.le_refl _) _)⟩ ?_
    rintro w1 ⟨T1, B1⟩
    refine (C0.out _ T1.out).mono ?_
    rintro e w2 ⟨rfl, hb2⟩
    have B2 := Lib.hid (B1.out.trans (hb2.mono B1.out.size))
    clear hb2
    go_wp2
    go_ret
    exact ⟨rfl, B2.out⟩
  · have d : decide ((2000 : Int) < (ho.size : Int) + (pa.size : Int) + (qu.size : Int) + (sc.size : Int)) = false := decide_eq_false (by omega)
    have dp : decide (po < (0 : Int)) = true := decide_eq_true (by omega)
    clear hb
    go_enter Tryd.func8, Tryd.ntmps8
    go_wp2_with fail
    refine calls_forget (fun w1 => Hid (TabsU w1) ∧ Hid (Below w.heap.size w w1)) ⟨Lib.hid (HT.out.later ((Below.refl _ _).alloc (Nat.le_refl _) _)), Lib.hid ((Below.refl _ _).alloc (Nat.le_refl _) _)⟩ ?_
    rintro w1 ⟨T1, B1⟩
    refine (C0.out _ T1.out).mono ?_
    rintro e w2 ⟨rfl, hb2⟩
    have B2 := Lib.hid (B1.out.trans (hb2.mono B1.out.size))
    clear hb2
    go_wp2
    go_ret
    exact ⟨rfl, B2.out⟩
set_option maxHeartbeats 4000000 in
theorem urlParts_main (sc ho pa qu : ByteArray) (po : Nat) (ak : Bool) (w : World) (z1 : sc.size ≤ 2000) (z2 : ho.size ≤ 2000) (z3 : pa.size ≤ 2000) (z4 : qu.size ≤ 2000) (z5 : po ≤ 9223372036854775807) (hs : ho.size + pa.size + qu.size + sc.size ≤ 2000) (hT : TabsU w) :
    Calls Tryd.prog 8 #[.agg #[.string sc, .string ho, .int .i64 (po : Int), .string pa, .string qu, .bool ak]] w fun e w' => e = .returned (.bool true) ∧ Below w.heap.size w w' := by
  have HT := Lib.hid hT
  clear hT
  obtain ⟨t1, ht1⟩ : ∃ t, keyB sc ho po = t := ⟨_, rfl⟩
  obtain ⟨t2, ht2⟩ : ∃ t, tgtB pa qu ak = t := ⟨_, rfl⟩
  obtain ⟨t3, ht3⟩ : ∃ t, t1 ++ t2 = t := ⟨_, rfl⟩
  have y1 : t1.size ≤ 30000 := by
    rw [← ht1]
    unfold keyB
    have h3 : (10 : Nat) ^ (18 + 1) = 10000000000000000000 := by decide
    have hd := decD_len 18 po (by rw [h3]; omega)
    have s1 : (⟨#[58, 47, 47]⟩ : ByteArray).size = 3 := rfl
    have s2 : (⟨#[58]⟩ : ByteArray).size = 1 := rfl
    split <;> simp only [ByteArray.size_append, strL_size] <;> omega
  have y2 : t2.size ≤ 30000 := by
    rw [← ht2]
    unfold tgtB
    have s1 : (⟨#[63]⟩ : ByteArray).size = 1 := rfl
    split
    · simp only [ByteArray.size_append]; omega
    · omega
  have A1 : ∀ wx : World, (Op.stringOp .add t1 t2).run Tryd.prog wx = .ok (.string t3) wx := fun wx => by rw [run_string_add_sum wx _ _ (by omega), ht3]
  have C0 : Hid (∀ W : World, TabsU W → Calls Tryd.prog 24 #[] W fun e w' => e = .returned (.bool true) ∧ Below W.heap.size W w') := Lib.hid (fun W hW => awake_at W hW)
  have C1 : Hid (∀ W : World, TabsU W → Calls Tryd.prog 25 #[.agg #[.string sc, .string ho, .int .i64 (po : Int), .string pa, .string qu, .bool ak]] W fun e w' => e = .returned (.string t1) ∧ Below W.heap.size W w') := Lib.hid (fun W hW => key_at sc ho pa qu t1 po ak ht1 (by omega) (by omega) z5 W hW)
  have C2 : Hid (∀ W : World, TabsU W → Calls Tryd.prog 26 #[.agg #[.string sc, .string ho, .int .i64 (po : Int), .string pa, .string qu, .bool ak]] W fun e w' => e = .returned (.string t1) ∧ Below W.heap.size W w') := Lib.hid (fun W _ => rkey_at sc ho pa qu t1 po ak ht1 (by omega) (by omega) z5 W)
  have C3 : Hid (∀ W : World, TabsU W → Calls Tryd.prog 27 #[.agg #[.string sc, .string ho, .int .i64 (po : Int), .string pa, .string qu, .bool ak]] W fun e w' => e = .returned (.string t2) ∧ Below W.heap.size W w') := Lib.hid (fun W _ => target_at sc ho pa qu t2 po ak ht2 (by omega) (by omega) W)
  have C4 : Hid (∀ W : World, TabsU W → Calls Tryd.prog 28 #[.agg #[.string sc, .string ho, .int .i64 (po : Int), .string pa, .string qu, .bool ak]] W fun e w' => e = .returned (.string t2) ∧ Below W.heap.size W w') := Lib.hid (fun W _ => rtarget_at sc ho pa qu t2 po ak ht2 (by omega) (by omega) W)
  have C5 : Hid (∀ W : World, TabsU W → Calls Tryd.prog 29 #[.agg #[.string sc, .string ho, .int .i64 (po : Int), .string pa, .string qu, .bool ak]] W fun e w' => e = .returned (.string t3) ∧ Below W.heap.size W w') := Lib.hid (fun W hW => by
    have := string_at sc ho pa qu t1 t2 po ak ht1 ht2 (by omega) (by omega) (by omega) (by omega) z5 W hW
    rw [ht3] at this
    exact this)
  clear ht1 ht2 ht3 y1 y2
  have d : decide ((2000 : Int) < (ho.size : Int) + (pa.size : Int) + (qu.size : Int) + (sc.size : Int)) = false := decide_eq_false (by omega)
  have dn : decide (2000 < ho.size + pa.size + qu.size + sc.size) = false := decide_eq_false (by omega)
  have dp : decide ((po : Int) < (0 : Int)) = false := decide_eq_false (by omega)
  have dq : ¬ (po : Int) < 0 := by omega
  obtain ⟨g, hg⟩ : ∃ g, w.heap.size = g := ⟨_, rfl⟩
  go_enter Tryd.func8, Tryd.ntmps8
  go_upto_region 3 with fail
  refine code_forget (fun w1 => Hid (Box w1 g #[.string sc, .string ho, .int .i64 (po : Int), .string pa, .string qu, .bool ak] 41) ∧ Hid (TabsU w1) ∧ Hid (Below w.heap.size w w1)) ⟨Lib.hid (box_new_at hg.symm), Lib.hid (HT.out.later ((Below.refl _ _).alloc (Nat.le_refl _) _)), Lib.hid ((Below.refl _ _).alloc (Nat.le_refl _) _)⟩ ?_
  have HG := Lib.hid hg
  clear hg
  rintro w1 ⟨X1, T1, B1⟩
  clear d dn dp dq z1 z2 z3 z4 z5 hs
  refine wp_region_last 25 (fun w' => Box w' g #[.string sc, .string ho, .int .i64 (po : Int), .string pa, .string qu, .bool ak] 41 ∧ TabsU w' ∧ Below w.heap.size w w') (by kernel_rfl) (⟨X1.out.drew, T1.out.later ((Below.refl _ _).drew), B1.out.drew⟩) (fun hHeld hClosed => ?_)
  refine wpAnyL_one (i := 0) rfl (by kernel_rfl) (by kernel_rfl) hClosed (fun KK hK => ?_)
  go_simp
  refine (C0.out _ hHeld.2.1).mono ?_
  rintro e wq ⟨rfl, hbq⟩
  go_wp2_with fail
  refine hK.out _ _ ?_ (fun hClosed hHeld => ?_)
  · exact ⟨hHeld.1.later hbq, hHeld.2.1.later hbq, hHeld.2.2.trans (hbq.mono hHeld.2.2.size)⟩
  clear hK KK
  (first | simp only [List.getElem_toArray, List.getElem_cons_zero, put_at, List.set] | (try simp only [put_at, List.set]))
  refine wpAnyL_take (i := 1) (v := ?_) rfl (by kernel_rfl) (by kernel_rfl) (by kernel_rfl) (by kernel_rfl) (fun _ _ _ h => h) (by kernel_rfl) hClosed (Or.inl ⟨by rfl, ?_⟩) hHeld (fun hClosed => ?_)
  rotate_left
  · intro wv hSw; go_simp; all_goals (with_reducible rfl)
  (try simp only [List.getElem_toArray, List.getElem_cons_succ, List.getElem_cons_zero, put_at, List.set])
  refine wpAnyL_take (i := 2) (v := (.agg #[.string sc, .string ho, .int .i64 (po : Int), .string pa, .string qu, .bool ak])) rfl (by kernel_rfl) (by kernel_rfl) (by kernel_rfl) (by kernel_rfl) (fun _ _ _ h => h) (by kernel_rfl) hClosed (Or.inl ⟨by rfl, ?_⟩) hHeld (fun hClosed => ?_)
  · intro wv hSw; exact exec_load_box (by rfl) (by rfl) hSw.1 Tryd.underlying41 rfl (by kernel_rfl)
  (try simp only [List.getElem_toArray, List.getElem_cons_succ, List.getElem_cons_zero, put_at, List.set])
  refine wpAnyL_take (i := 4) (v := (.agg #[.string sc, .string ho, .int .i64 (po : Int), .string pa, .string qu, .bool ak])) rfl (by kernel_rfl) (by kernel_rfl) (by kernel_rfl) (by kernel_rfl) (fun _ _ _ h => h) (by kernel_rfl) hClosed (Or.inl ⟨by rfl, ?_⟩) hHeld (fun hClosed => ?_)
  · intro wv hSw; exact exec_load_box (by rfl) (by rfl) hSw.1 Tryd.underlying41 rfl (by kernel_rfl)
  (try simp only [List.getElem_toArray, List.getElem_cons_succ, List.getElem_cons_zero, put_at, List.set])
  refine wpAnyL_one (i := 3) rfl (by kernel_rfl) (by kernel_rfl) hClosed (fun KK hK => ?_)
  go_simp
  refine (C1.out _ hHeld.2.1).mono ?_
  rintro e wq ⟨rfl, hbq⟩
  go_wp2_with fail
  refine hK.out _ _ ?_ (fun hClosed hHeld => ?_)
  · exact ⟨hHeld.1.later hbq, hHeld.2.1.later hbq, hHeld.2.2.trans (hbq.mono hHeld.2.2.size)⟩
  clear hK KK
  (first | simp only [List.getElem_toArray, List.getElem_cons_succ, List.getElem_cons_zero, put_at, List.set] | (try simp only [put_at, List.set]))
  refine wpAnyL_one (i := 5) rfl (by kernel_rfl) (by kernel_rfl) hClosed (fun KK hK => ?_)
  go_simp
  refine (C2.out _ hHeld.2.1).mono ?_
  rintro e wq ⟨rfl, hbq⟩
  go_wp2_with fail
  refine hK.out _ _ ?_ (fun hClosed hHeld => ?_)
  · exact ⟨hHeld.1.later hbq, hHeld.2.1.later hbq, hHeld.2.2.trans (hbq.mono hHeld.2.2.size)⟩
  clear hK KK
  (first | simp only [List.getElem_toArray, List.getElem_cons_succ, List.getElem_cons_zero, put_at, List.set] | (try simp only [put_at, List.set]))
  refine wpAnyL_take (i := 6) (v := ?_) rfl (by kernel_rfl) (by kernel_rfl) (by kernel_rfl) (by kernel_rfl) (fun _ _ _ h => h) (by kernel_rfl) hClosed (Or.inl ⟨by rfl, ?_⟩) hHeld (fun hClosed => ?_)
  rotate_left
  · intro wv hSw; go_simp; all_goals (with_reducible rfl)
  (try simp only [List.getElem_toArray, List.getElem_cons_succ, List.getElem_cons_zero, put_at, List.set])
  refine wpAnyL_take (i := 7) (v := ?_) rfl (by kernel_rfl) (by kernel_rfl) (by kernel_rfl) (by kernel_rfl) (fun _ _ _ h => h) (by kernel_rfl) hClosed (Or.inl ⟨by rfl, ?_⟩) hHeld (fun hClosed => ?_)
  rotate_left
  · intro wv hSw; go_simp; all_goals (with_reducible rfl)
  (try simp only [List.getElem_toArray, List.getElem_cons_succ, List.getElem_cons_zero, put_at, List.set])
  refine wpAnyL_take (i := 8) (v := ?_) rfl (by kernel_rfl) (by kernel_rfl) (by kernel_rfl) (by kernel_rfl) (fun _ _ _ h => h) (by kernel_rfl) hClosed (Or.inl ⟨by rfl, ?_⟩) hHeld (fun hClosed => ?_)
  rotate_left
  · intro wv hSw; go_simp; all_goals (with_reducible rfl)
  (try simp only [List.getElem_toArray, List.getElem_cons_succ, List.getElem_cons_zero, put_at, List.set])
  refine wpAnyL_take (i := 9) (v := (.agg #[.string sc, .string ho, .int .i64 (po : Int), .string pa, .string qu, .bool ak])) rfl (by kernel_rfl) (by kernel_rfl) (by kernel_rfl) (by kernel_rfl) (fun _ _ _ h => h) (by kernel_rfl) hClosed (Or.inl ⟨by rfl, ?_⟩) hHeld (fun hClosed => ?_)
  · intro wv hSw; exact exec_load_box (by rfl) (by rfl) hSw.1 Tryd.underlying41 rfl (by kernel_rfl)
  (try simp only [List.getElem_toArray, List.getElem_cons_succ, List.getElem_cons_zero, put_at, List.set])
  refine wpAnyL_take (i := 11) (v := (.agg #[.string sc, .string ho, .int .i64 (po : Int), .string pa, .string qu, .bool ak])) rfl (by kernel_rfl) (by kernel_rfl) (by kernel_rfl) (by kernel_rfl) (fun _ _ _ h => h) (by kernel_rfl) hClosed (Or.inl ⟨by rfl, ?_⟩) hHeld (fun hClosed => ?_)
  · intro wv hSw; exact exec_load_box (by rfl) (by rfl) hSw.1 Tryd.underlying41 rfl (by kernel_rfl)
  (try simp only [List.getElem_toArray, List.getElem_cons_succ, List.getElem_cons_zero, put_at, List.set])
  refine wpAnyL_one (i := 10) rfl (by kernel_rfl) (by kernel_rfl) hClosed (fun KK hK => ?_)
  go_simp
  refine (C3.out _ hHeld.2.1).mono ?_
  rintro e wq ⟨rfl, hbq⟩
  go_wp2_with fail
  refine hK.out _ _ ?_ (fun hClosed hHeld => ?_)
  · exact ⟨hHeld.1.later hbq, hHeld.2.1.later hbq, hHeld.2.2.trans (hbq.mono hHeld.2.2.size)⟩
  clear hK KK
  (first | simp only [List.getElem_toArray, List.getElem_cons_succ, List.getElem_cons_zero, put_at, List.set] | (try simp only [put_at, List.set]))
  refine wpAnyL_one (i := 12) rfl (by kernel_rfl) (by kernel_rfl) hClosed (fun KK hK => ?_)
  go_simp
  refine (C4.out _ hHeld.2.1).mono ?_
  rintro e wq ⟨rfl, hbq⟩
  go_wp2_with fail
  refine hK.out _ _ ?_ (fun hClosed hHeld => ?_)
  · exact ⟨hHeld.1.later hbq, hHeld.2.1.later hbq, hHeld.2.2.trans (hbq.mono hHeld.2.2.size)⟩
  clear hK KK
  (first | simp only [List.getElem_toArray, List.getElem_cons_succ, List.getElem_cons_zero, put_at, List.set] | (try simp only [put_at, List.set]))
  refine wpAnyL_take (i := 13) (v := ?_) rfl (by kernel_rfl) (by kernel_rfl) (by kernel_rfl) (by kernel_rfl) (fun _ _ _ h => h) (by kernel_rfl) hClosed (Or.inl ⟨by rfl, ?_⟩) hHeld (fun hClosed => ?_)
  rotate_left
  · intro wv hSw; go_simp; all_goals (with_reducible rfl)
  (try simp only [List.getElem_toArray, List.getElem_cons_succ, List.getElem_cons_zero, put_at, List.set])
  refine wpAnyL_take (i := 14) (v := ?_) rfl (by kernel_rfl) (by kernel_rfl) (by kernel_rfl) (by kernel_rfl) (fun _ _ _ h => h) (by kernel_rfl) hClosed (Or.inl ⟨by rfl, ?_⟩) hHeld (fun hClosed => ?_)
  rotate_left
  · intro wv hSw; go_simp; all_goals (with_reducible rfl)
  (try simp only [List.getElem_toArray, List.getElem_cons_succ, List.getElem_cons_zero, put_at, List.set])
  refine wpAnyL_take (i := 15) (v := ?_) rfl (by kernel_rfl) (by kernel_rfl) (by kernel_rfl) (by kernel_rfl) (fun _ _ _ h => h) (by kernel_rfl) hClosed (Or.inl ⟨by rfl, ?_⟩) hHeld (fun hClosed => ?_)
  rotate_left
  · intro wv hSw; go_simp; all_goals (with_reducible rfl)
  (try simp only [List.getElem_toArray, List.getElem_cons_succ, List.getElem_cons_zero, put_at, List.set])
  refine wpAnyL_take (i := 16) (v := (.agg #[.string sc, .string ho, .int .i64 (po : Int), .string pa, .string qu, .bool ak])) rfl (by kernel_rfl) (by kernel_rfl) (by kernel_rfl) (by kernel_rfl) (fun _ _ _ h => h) (by kernel_rfl) hClosed (Or.inl ⟨by rfl, ?_⟩) hHeld (fun hClosed => ?_)
  · intro wv hSw; exact exec_load_box (by rfl) (by rfl) hSw.1 Tryd.underlying41 rfl (by kernel_rfl)
  (try simp only [List.getElem_toArray, List.getElem_cons_succ, List.getElem_cons_zero, put_at, List.set])
  refine wpAnyL_take (i := 18) (v := (.agg #[.string sc, .string ho, .int .i64 (po : Int), .string pa, .string qu, .bool ak])) rfl (by kernel_rfl) (by kernel_rfl) (by kernel_rfl) (by kernel_rfl) (fun _ _ _ h => h) (by kernel_rfl) hClosed (Or.inl ⟨by rfl, ?_⟩) hHeld (fun hClosed => ?_)
  · intro wv hSw; exact exec_load_box (by rfl) (by rfl) hSw.1 Tryd.underlying41 rfl (by kernel_rfl)
  (try simp only [List.getElem_toArray, List.getElem_cons_succ, List.getElem_cons_zero, put_at, List.set])
  refine wpAnyL_take (i := 20) (v := (.agg #[.string sc, .string ho, .int .i64 (po : Int), .string pa, .string qu, .bool ak])) rfl (by kernel_rfl) (by kernel_rfl) (by kernel_rfl) (by kernel_rfl) (fun _ _ _ h => h) (by kernel_rfl) hClosed (Or.inl ⟨by rfl, ?_⟩) hHeld (fun hClosed => ?_)
  · intro wv hSw; exact exec_load_box (by rfl) (by rfl) hSw.1 Tryd.underlying41 rfl (by kernel_rfl)
  (try simp only [List.getElem_toArray, List.getElem_cons_succ, List.getElem_cons_zero, put_at, List.set])
  refine wpAnyL_one (i := 17) rfl (by kernel_rfl) (by kernel_rfl) hClosed (fun KK hK => ?_)
  go_simp
  refine (C5.out _ hHeld.2.1).mono ?_
  rintro e wq ⟨rfl, hbq⟩
  go_wp2_with fail
  refine hK.out _ _ ?_ (fun hClosed hHeld => ?_)
  · exact ⟨hHeld.1.later hbq, hHeld.2.1.later hbq, hHeld.2.2.trans (hbq.mono hHeld.2.2.size)⟩
  clear hK KK
  (first | simp only [List.getElem_toArray, List.getElem_cons_succ, List.getElem_cons_zero, put_at, List.set] | (try simp only [put_at, List.set]))
  refine wpAnyL_one (i := 19) rfl (by kernel_rfl) (by kernel_rfl) hClosed (fun KK hK => ?_)
  go_simp
  refine (C2.out _ hHeld.2.1).mono ?_
  rintro e wq ⟨rfl, hbq⟩
  go_wp2_with fail
  refine hK.out _ _ ?_ (fun hClosed hHeld => ?_)
  · exact ⟨hHeld.1.later hbq, hHeld.2.1.later hbq, hHeld.2.2.trans (hbq.mono hHeld.2.2.size)⟩
  clear hK KK
  (first | simp only [List.getElem_toArray, List.getElem_cons_succ, List.getElem_cons_zero, put_at, List.set] | (try simp only [put_at, List.set]))
  refine wpAnyL_one (i := 21) rfl (by kernel_rfl) (by kernel_rfl) hClosed (fun KK hK => ?_)
  go_simp
  refine (C4.out _ hHeld.2.1).mono ?_
  rintro e wq ⟨rfl, hbq⟩
  go_wp2_with fail
  refine hK.out _ _ ?_ (fun hClosed hHeld => ?_)
  · exact ⟨hHeld.1.later hbq, hHeld.2.1.later hbq, hHeld.2.2.trans (hbq.mono hHeld.2.2.size)⟩
  clear hK KK
  (first | simp only [List.getElem_toArray, List.getElem_cons_succ, List.getElem_cons_zero, put_at, List.set] | (try simp only [put_at, List.set]))
  refine wpAnyL_take (i := 22) (v := ?_) rfl (by kernel_rfl) (by kernel_rfl) (by kernel_rfl) (by kernel_rfl) (fun _ _ _ h => h) (by kernel_rfl) hClosed (Or.inl ⟨by rfl, ?_⟩) hHeld (fun hClosed => ?_)
  rotate_left
  · intro wv hSw; go_simp; all_goals (with_reducible rfl)
  (try simp only [List.getElem_toArray, List.getElem_cons_succ, List.getElem_cons_zero, put_at, List.set])
  refine wpAnyL_take (i := 23) (v := ?_) rfl (by kernel_rfl) (by kernel_rfl) (by kernel_rfl) (by kernel_rfl) (fun _ _ _ h => h) (by kernel_rfl) hClosed (Or.inl ⟨by rfl, ?_⟩) hHeld (fun hClosed => ?_)
  rotate_left
  · intro wv hSw; go_simp; all_goals (with_reducible rfl)
  (try simp only [List.getElem_toArray, List.getElem_cons_succ, List.getElem_cons_zero, put_at, List.set])
  refine wpAnyL_take (i := 24) (v := ?_) rfl (by kernel_rfl) (by kernel_rfl) (by kernel_rfl) (by kernel_rfl) (fun _ _ _ h => h) (by kernel_rfl) hClosed (Or.inl ⟨by rfl, ?_⟩) hHeld (fun hClosed => ?_)
  rotate_left
  · intro wv hSw; go_simp; all_goals (with_reducible rfl)
  (try simp only [List.getElem_toArray, List.getElem_cons_succ, List.getElem_cons_zero, put_at, List.set])
  refine wpAnyL_last rfl (by kernel_rfl) (by kernel_rfl) (fun KK hK => ?_)
  go_simp
  refine hK.out _ _ ?_
  (try simp only [put_at, List.set])
  go_wp2
  go_ret
  exact ⟨rfl, hHeld.2.2⟩
theorem urlParts_walk (u : Ux) (w : World) (hu : UxOk u) (hT : TabsU w) :
    Calls Tryd.prog 8 #[.agg #[.string u.sc, .string u.ho, .int .i64 u.po, .string u.pa, .string u.qu, .bool u.ak]] w fun e w' => e = .returned (.bool true) ∧ Below w.heap.size w w' := by
  by_cases h : 2000 < u.ho.size + u.pa.size + u.qu.size + u.sc.size ∨ u.po < 0
  · exact urlParts_awake u w hu hT h
  · obtain ⟨sc, ho, po, pa, qu, ak⟩ := u
    simp only at h ⊢
    obtain ⟨n, rfl⟩ : ∃ n : Nat, po = n := ⟨po.toNat, by omega⟩
    have := hu.2.2.2.2.2
    simp only at this
    exact urlParts_main sc ho pa qu n ak w (by omega) (by omega) (by omega) (by omega) (by omega) (by omega) hT
end Go.Proofs.YtcdodpkfhkfnkaaDoor
