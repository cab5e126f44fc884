/- Whose a place is, as a text; the whole text: the program's. -/
import Derived.Test.YtcdodpkfhkfnkaaDoorUrRps
import Derived.Test.YtcdodpkfhkfnkaaDoorShelfK
import Derived.Test.YtcdodpkfhkfnkaaDoorRow
import Derived.Lib.AppendIntMem
namespace Go.Proofs.YtcdodpkfhkfnkaaDoor
open Go.RowKit
set_option linter.unusedVariables false
set_option linter.unusedSimpArgs false
set_option maxRecDepth 10000

/-- The tables of utf8 and of strconv, and that bytealg's bound holds some number. -/
def TabsU (w : World) : Prop := TabsM w ∧ Lib.TabIs Tryd.prog w "internal/strconv.uint64pow10" .u64 Lib.pow10Tab
theorem TabsU.later {w w' : World} (h : TabsU w) (hb : Below w.heap.size w w') : TabsU w' := ⟨h.1.later hb, (Lib.tabBelow_of_tabIs h.2) w' hb⟩
theorem dec_iv : ∀ (k n : Nat), n < k → iv (Lib.decDigits n) = decD n
  | 0, n, h => by omega
  | k + 1, n, h => by
    by_cases h10 : n < 10
    · rw [decD_low h10, Lib.decDigits_one h10]
      simp [iv]
      omega
    · rw [decD_high h10, ← dec_iv k (n / 10) (by omega), Lib.decDigits, dif_neg h10]
      simp [iv]
      omega
theorem below_grow {B : Nat} {a w : World} (h : Below B a w) (hB : B ≤ a.heap.size) (os : Array Obj) : Below B a (Go.Sort.grow w os) :=
  ⟨h.os, h.tape, h.output, by unfold Go.Sort.grow; rw [Array.size_append]; have := h.size; omega, fun k hk => by
    have := h.size
    unfold Go.Sort.grow
    rw [Array.getElem?_append_left (by omega)]
    exact h.block k hk⟩
theorem itoa_at (n : Nat) (t : ByteArray) (ht : strL (decD n) = t) (hn : n ≤ 9223372036854775807) (w : World) (hT : TabsU w) :
    Calls Tryd.prog 60 #[.int .i64 (n : Int)] w fun e w' => e = .returned (.string t) ∧ Below w.heap.size w w' := by
  refine (Any.strconv_Itoa Tryd.laysM171 (n : Int) (by omega) (by omega) w hT.2).mono ?_
  rintro e w' ⟨rfl, k, os, rfl⟩
  refine ⟨?_, ?_⟩
  · have e1 : Lib.itoa (n : Int) = Lib.decDigits n := by
      unfold Lib.itoa
      rw [if_neg (by omega), Int.toNat_natCast]
    rw [e1, mk_iv, dec_iv (n + 1) n (by omega), ht]
  · exact below_grow (below_drewN (Below.refl _ _) _) (Nat.le_refl _) os
theorem usual_eq (sc : ByteArray) (v : Int) (hv : usB sc = v) (w : World) :
    Calls Tryd.prog 52 #[.string sc] w fun e w' => e = .returned (.int .i64 v) ∧ w' = w := (usual_at sc v hv w).mono fun _ _ ⟨h1, h2⟩ => ⟨h1, h2.symm⟩
set_option maxHeartbeats 2000000 in
theorem key_at (sc ho pa qu t : ByteArray) (po : Nat) (ak : Bool) (ht : keyB sc ho po = t) (h1 : sc.size ≤ 10000) (h2 : ho.size ≤ 10000) (hp : po ≤ 9223372036854775807) (w : World) (hT : TabsU w) :
    Calls Tryd.prog 25 #[.agg #[.string sc, .string ho, .int .i64 (po : Int), .string pa, .string qu, .bool ak]] w fun e w' => e = .returned (.string t) ∧ Below w.heap.size w w' := by
  obtain ⟨d, hd⟩ : ∃ d, strL (decD po) = d := ⟨_, rfl⟩
  have hdl : d.size ≤ 19 := by
    rw [← hd, strL_size]
    have h3 : (10 : Nat) ^ (18 + 1) = 10000000000000000000 := by decide
    exact decD_len 18 po (by rw [h3]; omega)
  obtain ⟨a, ha⟩ : ∃ a, sc ++ (⟨#[58, 47, 47]⟩ : ByteArray) = a := ⟨_, rfl⟩
  obtain ⟨b, hb⟩ : ∃ b, a ++ ho = b := ⟨_, rfl⟩
  obtain ⟨c, hc⟩ : ∃ c, (⟨#[58]⟩ : ByteArray) ++ d = c := ⟨_, rfl⟩
  obtain ⟨us, hus⟩ : ∃ v, usB sc = v := ⟨_, rfl⟩
  have za : a.size ≤ 10003 := by rw [← ha, ByteArray.size_append]; show sc.size + 3 ≤ 10003; omega
  have zb : b.size ≤ 20003 := by rw [← hb, ByteArray.size_append]; omega
  have zc : c.size ≤ 20 := by rw [← hc, ByteArray.size_append]; show 1 + d.size ≤ 20; omega
  have s1 : (⟨#[58, 47, 47]⟩ : ByteArray).size = 3 := rfl
  have s2 : (⟨#[58]⟩ : ByteArray).size = 1 := rfl
  have A1 : ∀ wx : World, (Op.stringOp .add sc ⟨#[58, 47, 47]⟩).run Tryd.prog wx = .ok (.string a) wx := fun wx => by rw [run_string_add_sum wx _ _ (by omega), ha]
  have A2 : ∀ wx : World, (Op.stringOp .add a ho).run Tryd.prog wx = .ok (.string b) wx := fun wx => by rw [run_string_add_sum wx _ _ (by omega), hb]
  have A3 : ∀ wx : World, (Op.stringOp .add ⟨#[58]⟩ d).run Tryd.prog wx = .ok (.string c) wx := fun wx => by rw [run_string_add_sum wx _ _ (by omega), hc]
  have A4 : ∀ wx : World, (Op.stringOp .add b c).run Tryd.prog wx = .ok (.string (b ++ c)) wx := fun wx => run_string_add_sum wx _ _ (by omega)
  unfold keyB at ht
  rw [hd, ha, hb, hc, hus] at ht
  have HD := Lib.hid hd
  have HU := Lib.hid hus
  have HT := Lib.hid hT
  clear s1 s2 hd ha hb hc za zb zc hdl h1 h2 hus hT
  by_cases h : (po : Int) = us
  · have dp : ((po : Int) != us) = false := by rw [bne_eq_false_iff_eq]; exact h
    have HE : Hid (b = t) := Lib.hid (by rw [← ht, if_pos h])
    clear h ht
    go_enter Tryd.func25, Tryd.ntmps25
    go_wp2
    go_quiet ((go_at_call 52; exact Calls.quiet_of_same (usual_eq sc us HU.out _)))
    go_wp2
    go_ret
    rw [HE.out]
    exact ⟨rfl, below_drewN ((Below.refl _ _).alloc (Nat.le_refl _) _) _⟩
  · have dp : ((po : Int) != us) = true := bne_iff_ne.2 h
    have HE : Hid (b ++ c = t) := Lib.hid (by rw [← ht, if_neg h])
    clear h ht
    go_enter Tryd.func25, Tryd.ntmps25
    go_wp2
    go_quiet ((go_at_call 52; exact Calls.quiet_of_same (usual_eq sc us HU.out _)))
    go_wp2_with fail
    refine calls_forget (fun w1 => Hid (TabsU w1) ∧ Hid (Below w.heap.size w w1)) ⟨Lib.hid (HT.out.later (below_drewN ((Below.refl _ _).alloc (Nat.le_refl _) _) _)), Lib.hid (below_drewN ((Below.refl _ _).alloc (Nat.le_refl _) _) _)⟩ ?_
    rintro w1 ⟨T1, B1⟩
    refine (itoa_at po d HD.out hp _ T1.out).mono ?_
    rintro e w2 ⟨rfl, hb2⟩
    have B2 := Lib.hid (B1.out.trans (hb2.mono B1.out.size))
    clear hb2 B1
    go_wp2
    go_ret
    rw [HE.out]
    exact ⟨rfl, B2.out⟩
set_option maxHeartbeats 2000000 in
theorem string_at (sc ho pa qu t1 t2 : ByteArray) (po : Nat) (ak : Bool) (ht1 : keyB sc ho po = t1) (ht2 : tgtB pa qu ak = t2) (h1 : sc.size ≤ 10000) (h2 : ho.size ≤ 10000) (h3 : pa.size ≤ 10000) (h4 : qu.size ≤ 10000) (hp : po ≤ 9223372036854775807) (w : World) (hT : TabsU w) :
    Calls Tryd.prog 29 #[.agg #[.string sc, .string ho, .int .i64 (po : Int), .string pa, .string qu, .bool ak]] w fun e w' => e = .returned (.string (t1 ++ t2)) ∧ Below w.heap.size w w' := by
  have z1 : t1.size ≤ 30000 := by
    rw [← ht1]
    unfold keyB
    have h3 : (10 : Nat) ^ (18 + 1) = 10000000000000000000 := by decide
    have hd := decD_len 18 po (by rw [h3]; omega)
    have s1 : (⟨#[58, 47, 47]⟩ : ByteArray).size = 3 := rfl
    have s2 : (⟨#[58]⟩ : ByteArray).size = 1 := rfl
    split <;> simp only [ByteArray.size_append, strL_size] <;> omega
  have z2 : t2.size ≤ 30000 := by
    rw [← ht2]
    unfold tgtB
    have s1 : (⟨#[63]⟩ : ByteArray).size = 1 := rfl
    split
    · simp only [ByteArray.size_append]; omega
    · omega
  have A1 : ∀ wx : World, (Op.stringOp .add t1 t2).run Tryd.prog wx = .ok (.string (t1 ++ t2)) wx := fun wx => run_string_add_sum wx _ _ (by omega)
  have HT := Lib.hid hT
  have C1 : Hid (∀ W : World, TabsU W → Calls Tryd.prog 25 #[.agg #[.string sc, .string ho, .int .i64 (po : Int), .string pa, .string qu, .bool ak]] W fun e w' => e = .returned (.string t1) ∧ Below W.heap.size W w') := Lib.hid (fun W hW => key_at sc ho pa qu t1 po ak ht1 h1 h2 hp W hW)
  have C2 : Hid (∀ W : World, Calls Tryd.prog 27 #[.agg #[.string sc, .string ho, .int .i64 (po : Int), .string pa, .string qu, .bool ak]] W fun e w' => e = .returned (.string t2) ∧ Below W.heap.size W w') := Lib.hid (fun W => target_at sc ho pa qu t2 po ak ht2 h3 h4 W)
  clear hT ht1 ht2 h1 h2 h3 h4 hp z1 z2
  go_enter Tryd.func29, Tryd.ntmps29
  go_upto_region 1 with fail
  refine code_forget (fun w1 => Hid (Box w1 w.heap.size #[.string sc, .string ho, .int .i64 (po : Int), .string pa, .string qu, .bool ak] 41) ∧ Hid (Below w.heap.size w w1)) ⟨Lib.hid (Box.new w _ _), Lib.hid ((Below.refl _ _).alloc (Nat.le_refl _) _)⟩ ?_
  rintro w1 ⟨X1, B1⟩
  refine wp_region_last 5 (fun w' => Box w' w.heap.size #[.string sc, .string ho, .int .i64 (po : Int), .string pa, .string qu, .bool ak] 41 ∧ Below w.heap.size w w') (by kernel_rfl) (⟨X1.out.drew, B1.out.drew⟩) (fun hHeld hClosed => ?_)
  refine wpAnyL_take (i := 0) (v := (.agg #[.string sc, .string ho, .int .i64 (po : Int), .string pa, .string qu, .bool ak])) rfl (by kernel_rfl) (by kernel_rfl) (by kernel_rfl) (by kernel_rfl) (fun _ _ _ h => h) (by kernel_rfl) hClosed (Or.inl ⟨by rfl, ?_⟩) hHeld (fun hClosed => ?_)
  · intro wv hSw; exact exec_load_box (by rfl) (by rfl) hSw.1 Tryd.underlying41 rfl (by kernel_rfl)
  (try simp only [List.getElem_toArray, List.getElem_cons_zero, put_at, List.set])
  refine wpAnyL_take (i := 2) (v := (.agg #[.string sc, .string ho, .int .i64 (po : Int), .string pa, .string qu, .bool ak])) rfl (by kernel_rfl) (by kernel_rfl) (by kernel_rfl) (by kernel_rfl) (fun _ _ _ h => h) (by kernel_rfl) hClosed (Or.inl ⟨by rfl, ?_⟩) hHeld (fun hClosed => ?_)
  · intro wv hSw; exact exec_load_box (by rfl) (by rfl) hSw.1 Tryd.underlying41 rfl (by kernel_rfl)
  (try simp only [List.getElem_toArray, List.getElem_cons_succ, List.getElem_cons_zero, put_at, List.set])
  refine wpAnyL_one (i := 1) rfl (by kernel_rfl) (by kernel_rfl) hClosed (fun KK hK => ?_)
  go_simp
  refine (C1.out _ (HT.out.later hHeld.2)).mono ?_
  rintro e w2 ⟨rfl, hb2⟩
  go_wp2_with fail
  refine hK.out _ _ ?_ (fun hClosed hHeld => ?_)
  · exact ⟨hHeld.1.later hb2, hHeld.2.trans (hb2.mono hHeld.2.size)⟩
  clear hK KK
  (first | simp only [List.getElem_toArray, List.getElem_cons_succ, List.getElem_cons_zero, put_at, List.set] | (try simp only [put_at, List.set]))
  refine wpAnyL_one (i := 3) rfl (by kernel_rfl) (by kernel_rfl) hClosed (fun KK hK => ?_)
  go_simp
  refine (C2.out _).mono ?_
  rintro e w3 ⟨rfl, hb3⟩
  go_wp2_with fail
  refine hK.out _ _ ?_ (fun hClosed hHeld => ?_)
  · exact ⟨hHeld.1.later hb3, hHeld.2.trans (hb3.mono hHeld.2.size)⟩
  clear hK KK
  (first | simp only [List.getElem_toArray, List.getElem_cons_succ, List.getElem_cons_zero, put_at, List.set] | (try simp only [put_at, List.set]))
  refine wpAnyL_take (i := 4) (v := ?_) rfl (by kernel_rfl) (by kernel_rfl) (by kernel_rfl) (by kernel_rfl) (fun _ _ _ h => h) (by kernel_rfl) hClosed (Or.inl ⟨by rfl, ?_⟩) hHeld (fun hClosed => ?_)
  rotate_left
  · intro wv hSw; go_simp; all_goals (with_reducible rfl)
  (try simp only [List.getElem_toArray, List.getElem_cons_succ, List.getElem_cons_zero, put_at, List.set])
  refine wpAnyL_last rfl (by kernel_rfl) (by kernel_rfl) (fun KK hK => ?_)
  go_simp
  refine hK.out _ _ ?_
  (try simp only [put_at, List.set])
  go_wp2
  go_ret
  exact ⟨rfl, hHeld.2⟩
end Go.Proofs.YtcdodpkfhkfnkaaDoor
