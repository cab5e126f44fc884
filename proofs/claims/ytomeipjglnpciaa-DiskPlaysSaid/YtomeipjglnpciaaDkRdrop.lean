/- The document's disk: Drop. -/
import Derived.Test.YtomeipjglnpciaaDkRfn
namespace Go.Proofs.Ytomeipjglnpciaa
open Go Go.RowKit Go.Maps
set_option linter.unusedVariables false
set_option linter.unusedSimpArgs false
set_option maxRecDepth 10000

theorem newS {wl wc : World} (h : Below wl.heap.size wl wc) : ∃ wB b, wc.alloc (.cells #[] 45) = wB ∧ wc.heap.size = b ∧ Below wl.heap.size wl wB ∧ Own wB wl.heap.size 45 2 (some ⟨b, 0, none⟩) 0 0 [] ∧ Below wc.heap.size wc wB :=
  ⟨_, _, rfl, rfl, h.alloc h.size _, Own.lit (cs := #[]) h.size (by omega) rfl, (Below.refl _ _).alloc (Nat.le_refl _) _⟩
theorem RdC.of_own {w : World} {B size n c g : Nat} {E : TypeId} {xs : List Value} (h : Own w B E size (some ⟨g, 0, none⟩) n c xs) (o : Nat) (ys : List Value) (hy : ∀ j u, ys[j]? = some u → xs[o + j]? = some u) : RdC w (some ⟨g, o, none⟩) ys := fun j u hj => ⟨g, o, rfl, h.cell (hy j u hj)⟩
section
variable {w : World} {B d sc : Nat} {sa : Option Addr} {R : Rgs} {V : VF} {most next first fails : Int}
/-- The row of segments is a new one, of some of the segments that were. -/
theorem Rm.newrow (h : Rm w B d sa sc R V most next first fails) (hB : B ≤ w.heap.size) {R' : Rgs} {w' : World} {a' : Option Addr} {c' n' : Nat} (hn : R'.length = n') (hsub : List.Sublist R' R) (ho : Own w' w.heap.size 45 2 a' n' c' (sgC V R')) (hb : Below w.heap.size w w') :
    Rm (w'.setCell ⟨d, 1, none⟩ (.slice a' n' c')) B d a' c' R' V most next first fails ∧ TurnR d sa R V w a' R' V (w'.setCell ⟨d, 1, none⟩ (.slice a' n' c')) := by
  subst hn
  have hl := h.later hb
  have off : ∀ {E : TypeId} {n c B2 : Nat} {a : Option Addr} {xs : List Value}, Own w' B2 E 2 a n c xs → E ≠ 37 → Own (w'.setCell ⟨d, 1, none⟩ (.slice a' R'.length c')) B2 E 2 a n c xs := fun {E n c B2 a xs} hr hE => hr.other (fun g e => by
    have h9 := hr
    rw [e] at h9
    exact own_not_box h9 hl.box (fun e => hE e.symm)) _
  refine ⟨⟨hl.box.set 1 _, (off ho (by decide)).mono hB, fun n bs hn => off (hl.rows n bs (hsub.subset hn)) (by decide), fun n m bs cs hnm h1 h2 => h.ne n m bs cs hnm (hsub.subset h1) (hsub.subset h2), List.Pairwise.sublist hsub h.srt, h.dB, h.mo, Nat.le_trans hsub.length_le h.cnt, h.fiB, h.faB, h.fi0, h.fa0⟩, (Only.of_below _ hb).setCell (Or.inl (Or.inl rfl)) _, fun k hk => ?_⟩
  rcases hk with hk | hk | ⟨n, bs, hn, e⟩
  · exact Or.inl (Or.inl hk)
  · exact Or.inr (own_lt ho hk).2
  · exact Or.inl (Or.inr (Or.inr ⟨n, bs, hsub.subset hn, e⟩))
def DrRP (B d : Nat) (sa : Option Addr) (R : Rgs) (V : VF) (most next first fails n : Int) (w : World) (e : Ending) (w' : World) : Prop :=
  ((∀ p ∈ R, p.1 ≠ n) ∧ e = .returned (.int .i64 4) ∧ w' = w) ∨
  ∃ (k : Nat) (bs : Bys), R[k]? = some (n, bs) ∧ ((wfB first fails = true ∧ e = .returned (.int .i64 7) ∧ ∃ sc', Rm w' B d sa sc' R V most next (wfH first) (wfF first fails) ∧ TurnR d sa R V w sa R V w') ∨
    (wfB first fails = false ∧ e = .returned (.int .i64 0) ∧ ∃ sa' sc', Rm w' B d sa' sc' (R.take k ++ R.drop (k + 1)) V most next (wfH first) (wfF first fails) ∧ TurnR d sa R V w sa' (R.take k ++ R.drop (k + 1)) V w'))
theorem take_drop_sub {α : Type} (l : List α) (k : Nat) : List.Sublist (l.take k ++ l.drop (k + 1)) l := by
  have h := List.Sublist.append (List.Sublist.refl (l.take k)) (List.drop_sublist_drop_left l (Nat.le_succ k))
  rwa [List.take_append_drop] at h
set_option maxHeartbeats 4000000 in
theorem drop_ref (h : Rm w B d sa sc R V most next first fails) (hB : B ≤ w.heap.size) (n : Int) :
    Calls Try.prog 11 #[.pointer (some ⟨d, 0, none⟩), .int .i64 n] w (DrRP B d sa R V most next first fails n w) := by
  have AT := Lib.hid (at_ref h n)
  rcases atR_in R n with ⟨hv, hno⟩ | ⟨k, bs, hv, hk⟩
  · rw [hv] at AT
    have FIN : Hid (DrRP B d sa R V most next first fails n w (.returned (.int .i64 4)) w) := Lib.hid (Or.inl ⟨hno, rfl, rfl⟩)
    clear h hno hv
    go_enter Try.func11, Try.ntmps11
    go_wp2_with fail
    refine AT.out.mono ?_
    rintro e w1 ⟨rfl, hw1⟩
    subst w1
    go_wp2
    go_ret
    exact FIN.out
  · rw [hv] at AT
    have HKK := Lib.hid hk
    have FL := Lib.hid (fails_ref h)
    obtain ⟨wb, hwb⟩ : ∃ x, wfB first fails = x := ⟨_, rfl⟩
    rw [hwb] at FL
    have WFB := Lib.hid hwb
    have hkn : ¬ (k : Int) < 0 := by omega
    have hkd : decide ((k : Int) < 0) = false := decide_eq_false hkn
    have HSZ := Lib.hid hB
    clear hv hwb
    go_enter Try.func11, Try.ntmps11
    go_wp2_with fail
    refine AT.out.mono ?_
    rintro e w1 ⟨rfl, hw1⟩
    subst w1
    clear AT
    go_wp2_with fail
    refine FL.out.mono ?_
    rintro e w2 ⟨rfl, r2, t2⟩
    have R2 := Lib.hid r2
    have T2 := Lib.hid t2
    clear r2 t2 FL
    cases wb with
    | true =>
      have FIN : Hid (DrRP B d sa R V most next first fails n w (.returned (.int .i64 7)) w2) := Lib.hid (Or.inr ⟨k, bs, HKK.out, Or.inl ⟨WFB.out, rfl, sc, R2.out, T2.out⟩⟩)
      go_wp2
      go_ret
      exact FIN.out
    | false =>
      have hkl := (List.getElem?_eq_some_iff.1 hk).1
      obtain ⟨gs, rfl, _⟩ := R2.out.own.some_ (by omega)
      have hnc := R2.out.own.cap_le
      have hcnt := R2.out.cnt
      have sz2 : B ≤ w2.heap.size := Nat.le_trans hB T2.out.1.size
      have BX2 := Lib.hid R2.out.box
      obtain ⟨K, hK⟩ : ∃ K, R.length = K := ⟨_, rfl⟩
      rw [hK] at BX2 hnc hkl hcnt
      obtain ⟨off, hu, hof⟩ := sliceFrom_off rowSg gs K sc (k + 1) (by omega) hnc
      rw [show ((k + 1 : Nat) : Int) = (k : Int) + 1 by omega] at hu
      have HU := Lib.hid hu
      have RD1 : Hid (∀ W, Below w2.heap.size w2 W → RdC W (some ⟨gs, 0, none⟩) (sgC V (R.take k))) := Lib.hid (fun W hW => RdC.of_own (R2.out.later hW).own 0 _ (fun j u hj => by
        rw [Nat.zero_add]
        rw [show sgC V (R.take k) = (sgC V R).take (k * 2) from two_take _ (sgL_len V) R k, List.getElem?_take] at hj
        split at hj
        · exact hj
        · cases hj))
      have RD2 : Hid (∀ W, Below w2.heap.size w2 W → RdC W (some ⟨gs, off, none⟩) (sgC V (R.drop (k + 1)))) := Lib.hid (fun W hW => by
        by_cases hlast : k + 1 < K
        · rw [hof hlast]
          refine RdC.of_own (R2.out.later hW).own _ _ (fun j u hj => ?_)
          rw [show sgC V (R.drop (k + 1)) = (sgC V R).drop ((k + 1) * 2) from two_drop _ (sgL_len V) R (k + 1), List.getElem?_drop] at hj
          exact hj
        · have e9 : R.drop (k + 1) = [] := List.drop_eq_nil_of_le (by omega)
          rw [e9]
          intro j u hj
          simp [sgC] at hj)
      have LT : Hid ((sgC V (R.take k)).length = k * 2) := Lib.hid (by rw [sgC, two_len _ (sgL_len V), List.length_take]; omega)
      have LD : Hid ((sgC V (R.drop (k + 1))).length = (K - (k + 1)) * 2) := Lib.hid (by rw [sgC, two_len _ (sgL_len V), List.length_drop, hK])
      have HZ : Hid (sgC V (R.take k) ++ sgC V (R.drop (k + 1)) = sgC V (R.take k ++ R.drop (k + 1))) := Lib.hid (by unfold sgC; rw [List.flatMap_append])
      have HKC : Hid (k ≤ sc) := Lib.hid (by omega)
      have FIN : Hid (∀ a' c' w', Own w' w2.heap.size 45 2 a' (K - 1) c' (sgC V (R.take k ++ R.drop (k + 1))) → Below w2.heap.size w2 w' → DrRP B d (some ⟨gs, 0, none⟩) R V most next first fails n w (.returned (.int .i64 0)) (w'.setCell ⟨d, 1, none⟩ (.slice a' (K - 1) c'))) := Lib.hid (fun a' c' w' h1 h2 => by
        obtain ⟨k1, k2⟩ := R2.out.newrow sz2 (by rw [List.length_append, List.length_take, List.length_drop, hK]; omega) (take_drop_sub R k) h1 h2
        exact Or.inr ⟨k, bs, HKK.out, Or.inr ⟨WFB.out, rfl, a', c', k1, T2.out.trans k2⟩⟩)
      have hwk : IntKind.i64.wrap ((k : Int) + 1) = (k : Int) + 1 := IntWalk.i64_in _ (by omega)
      have ld := BX2.out.lt
      clear h hk R2 T2 hu hof hK HKK WFB
      go_upto_region 6 with fail
      refine wp_region_last 19 (fun w' => Below w2.heap.size w2 w') (by kernel_rfl) ((Below.refl _ _).drew) (fun hHeld hClosed => ?_)
      generalize w2.drew = wc at hHeld ⊢
      refine wpAnyL_take (i := 0) (v := ?_) rfl (by kernel_rfl) (by kernel_rfl) (by kernel_rfl) (by kernel_rfl) (fun _ _ _ h => h) (by kernel_rfl) hClosed (Or.inl ⟨by rfl, ?_⟩) hHeld (fun hClosed => ?_)
      rotate_left
      · intro wv hSw; go_simp; all_goals (with_reducible rfl)
      (try simp only [List.getElem_toArray, List.getElem_cons_zero, put_at, List.set])
      refine wpAnyL_take (i := 2) (v := ?_) rfl (by kernel_rfl) (by kernel_rfl) (by kernel_rfl) (by kernel_rfl) (fun _ _ _ h => h) (by kernel_rfl) hClosed (Or.inl ⟨by rfl, ?_⟩) hHeld (fun hClosed => ?_)
      rotate_left
      · intro wv hSw; go_simp; all_goals (with_reducible rfl)
      (try simp only [List.getElem_toArray, List.getElem_cons_succ, List.getElem_cons_zero, put_at, List.set])
      refine wpAnyL_take (i := 3) (v := ?_) rfl (by kernel_rfl) (by kernel_rfl) (by kernel_rfl) (by kernel_rfl) (fun _ _ _ h => h) (by kernel_rfl) hClosed (Or.inl ⟨by rfl, ?_⟩) hHeld (fun hClosed => ?_)
      rotate_left
      · intro wv hSw; go_simp; all_goals (with_reducible rfl)
      (try simp only [List.getElem_toArray, List.getElem_cons_succ, List.getElem_cons_zero, put_at, List.set])
      refine wpAnyL_take (i := 4) (v := ?_) rfl (by kernel_rfl) (by kernel_rfl) (by kernel_rfl) (by kernel_rfl) (fun _ _ _ h => h) (by kernel_rfl) hClosed (Or.inl ⟨by rfl, ?_⟩) hHeld (fun hClosed => ?_)
      rotate_left
      · intro wv hSw; go_simp; all_goals (with_reducible rfl)
      (try simp only [List.getElem_toArray, List.getElem_cons_succ, List.getElem_cons_zero, put_at, List.set])
      refine wpAnyL_take (i := 5) (v := ?_) rfl (by kernel_rfl) (by kernel_rfl) (by kernel_rfl) (by kernel_rfl) (fun _ _ _ h => h) (by kernel_rfl) hClosed (Or.inl ⟨by rfl, ?_⟩) hHeld (fun hClosed => ?_)
      rotate_left
      · intro wv hSw; have c1 := (BX2.out.later hSw).cell 1; go_simp; all_goals (with_reducible rfl)
      (try simp only [List.getElem_toArray, List.getElem_cons_succ, List.getElem_cons_zero, put_at, List.set])
      refine wpAnyL_take (i := 6) (v := ?_) rfl (by kernel_rfl) (by kernel_rfl) (by kernel_rfl) (by kernel_rfl) (fun _ _ _ h => h) (by kernel_rfl) hClosed (Or.inl ⟨by rfl, ?_⟩) hHeld (fun hClosed => ?_)
      rotate_left
      · intro wv hSw; go_simp; all_goals (with_reducible rfl)
      (try simp only [List.getElem_toArray, List.getElem_cons_succ, List.getElem_cons_zero, put_at, List.set])
      refine wpAnyL_take (i := 7) (v := .slice (some ⟨gs, 0, none⟩) k sc) rfl (by kernel_rfl) (by kernel_rfl) (by kernel_rfl) (by kernel_rfl) (fun _ _ _ h => h) (by kernel_rfl) hClosed (Or.inl ⟨by rfl, ?_⟩) hHeld (fun hClosed => ?_)
      · intro wv hSw; exact exec_slice (by rfl) (by rfl) (fun w => sliceTo_run rowSg (some ⟨gs, 0, none⟩) K sc k HKC.out w (fun e => by cases e))
      (try simp only [List.getElem_toArray, List.getElem_cons_succ, List.getElem_cons_zero, put_at, List.set])
      refine wpAnyL_take (i := 9) (v := ?_) rfl (by kernel_rfl) (by kernel_rfl) (by kernel_rfl) (by kernel_rfl) (fun _ _ _ h => h) (by kernel_rfl) hClosed (Or.inl ⟨by rfl, ?_⟩) hHeld (fun hClosed => ?_)
      rotate_left
      · intro wv hSw; go_simp; all_goals (with_reducible rfl)
      (try simp only [List.getElem_toArray, List.getElem_cons_succ, List.getElem_cons_zero, put_at, List.set])
      refine wpAnyL_take (i := 10) (v := ?_) rfl (by kernel_rfl) (by kernel_rfl) (by kernel_rfl) (by kernel_rfl) (fun _ _ _ h => h) (by kernel_rfl) hClosed (Or.inl ⟨by rfl, ?_⟩) hHeld (fun hClosed => ?_)
      rotate_left
      · intro wv hSw; go_simp; all_goals (with_reducible rfl)
      (try simp only [List.getElem_toArray, List.getElem_cons_succ, List.getElem_cons_zero, put_at, List.set])
      refine wpAnyL_take (i := 11) (v := ?_) rfl (by kernel_rfl) (by kernel_rfl) (by kernel_rfl) (by kernel_rfl) (fun _ _ _ h => h) (by kernel_rfl) hClosed (Or.inl ⟨by rfl, ?_⟩) hHeld (fun hClosed => ?_)
      rotate_left
      · intro wv hSw; go_simp; all_goals (with_reducible rfl)
      (try simp only [List.getElem_toArray, List.getElem_cons_succ, List.getElem_cons_zero, put_at, List.set])
      refine wpAnyL_take (i := 12) (v := ?_) rfl (by kernel_rfl) (by kernel_rfl) (by kernel_rfl) (by kernel_rfl) (fun _ _ _ h => h) (by kernel_rfl) hClosed (Or.inl ⟨by rfl, ?_⟩) hHeld (fun hClosed => ?_)
      rotate_left
      · intro wv hSw; have c1 := (BX2.out.later hSw).cell 1; go_simp; all_goals (with_reducible rfl)
      (try simp only [List.getElem_toArray, List.getElem_cons_succ, List.getElem_cons_zero, put_at, List.set])
      refine wpAnyL_take (i := 13) (v := ?_) rfl (by kernel_rfl) (by kernel_rfl) (by kernel_rfl) (by kernel_rfl) (fun _ _ _ h => h) (by kernel_rfl) hClosed (Or.inl ⟨by rfl, ?_⟩) hHeld (fun hClosed => ?_)
      rotate_left
      · intro wv hSw; go_simp; all_goals (with_reducible rfl)
      (try simp only [List.getElem_toArray, List.getElem_cons_succ, List.getElem_cons_zero, put_at, List.set])
      refine wpAnyL_take (i := 14) (v := ?_) rfl (by kernel_rfl) (by kernel_rfl) (by kernel_rfl) (by kernel_rfl) (fun _ _ _ h => h) (by kernel_rfl) hClosed (Or.inl ⟨by rfl, ?_⟩) hHeld (fun hClosed => ?_)
      rotate_left
      · intro wv hSw; go_simp; all_goals (with_reducible rfl)
      (try simp only [List.getElem_toArray, List.getElem_cons_succ, List.getElem_cons_zero, put_at, List.set])
      refine wpAnyL_take (i := 15) (v := .slice (some ⟨gs, off, none⟩) (K - (k + 1)) (sc - (k + 1))) rfl (by kernel_rfl) (by kernel_rfl) (by kernel_rfl) (by kernel_rfl) (fun _ _ _ h => h) (by kernel_rfl) hClosed (Or.inl ⟨by rfl, ?_⟩) hHeld (fun hClosed => ?_)
      · intro wv hSw; exact exec_slice (by rfl) (by rfl) HU.out
      (try simp only [List.getElem_toArray, List.getElem_cons_succ, List.getElem_cons_zero, put_at, List.set])
      refine wpAnyL_one (i := 1) rfl (by kernel_rfl) (by kernel_rfl) hClosed (fun KK hK => ?_)
      go_simp
      obtain ⟨wc1, ba, hw1, hb1, L1, oe, X1⟩ := newS hHeld
      rw [hw1, hb1]
      refine hK.out _ _ ?_ (fun hClosed hHeld => ?_)
      · exact L1
      clear hK KK
      (first | simp only [List.getElem_toArray, List.getElem_cons_succ, List.getElem_cons_zero, put_at, List.set] | (try simp only [put_at, List.set]))
      have OE := Lib.hid oe
      clear oe L1 X1 hw1 hb1
      refine wpAnyL_one (i := 8) rfl (by kernel_rfl) (by kernel_rfl) hClosed (fun KK hK => ?_)
      refine step_appE rowSg rfl _ _ rfl w2.heap.size (some ⟨ba, 0, none⟩) 0 0 ([]) rfl OE.out (some ⟨gs, 0, none⟩) k sc (sgC V (R.take k)) rfl LT.out (RD1.out _ hHeld) (sgC_one V _) (by omega) (by decide) hHeld.size k (by omega) (sgC V (R.take k)) rfl ?_
      rintro a1 c1 w4 q1 q2 q3 q4
      refine hK.out _ _ ?_ (fun hClosed hHeld => ?_)
      · exact hHeld.trans q3
      clear hK KK
      (first | simp only [List.getElem_toArray, List.getElem_cons_succ, List.getElem_cons_zero, put_at, List.set] | (try simp only [put_at, List.set]))
      clear OE
      have OE := Lib.hid q1
      clear q1 q2 q3 q4
      refine wpAnyL_one (i := 16) rfl (by kernel_rfl) (by kernel_rfl) hClosed (fun KK hK => ?_)
      refine step_appE rowSg rfl _ _ rfl w2.heap.size a1 k c1 (sgC V (R.take k)) rfl OE.out (some ⟨gs, off, none⟩) (K - (k + 1)) (sc - (k + 1)) (sgC V (R.drop (k + 1))) rfl LD.out (RD2.out _ hHeld) (sgC_one V _) (by omega) (by decide) hHeld.size (K - 1) (by omega) (sgC V (R.take k ++ R.drop (k + 1))) HZ.out ?_
      rintro a2 c2 w5 q1 q2 q3 q4
      refine hK.out _ _ ?_ (fun hClosed hHeld => ?_)
      · exact hHeld.trans q3
      clear hK KK
      (first | simp only [List.getElem_toArray, List.getElem_cons_succ, List.getElem_cons_zero, put_at, List.set] | (try simp only [put_at, List.set]))
      have FF := Lib.hid (FIN.out a2 c2 w5 q1 hHeld)
      clear q1 q2 q3 q4 OE FIN
      refine wpAnyL_take (i := 17) (v := ?_) rfl (by kernel_rfl) (by kernel_rfl) (by kernel_rfl) (by kernel_rfl) (fun _ _ _ h => h) (by kernel_rfl) hClosed (Or.inl ⟨by rfl, ?_⟩) hHeld (fun hClosed => ?_)
      rotate_left
      · intro wv hSw; go_simp; all_goals (with_reducible rfl)
      (try simp only [List.getElem_toArray, List.getElem_cons_succ, List.getElem_cons_zero, put_at, List.set])
      refine wpAnyL_take (i := 18) (v := ?_) rfl (by kernel_rfl) (by kernel_rfl) (by kernel_rfl) (by kernel_rfl) (fun _ _ _ h => h) (by kernel_rfl) hClosed (Or.inl ⟨by rfl, ?_⟩) hHeld (fun hClosed => ?_)
      rotate_left
      · intro wv hSw; go_simp; all_goals (with_reducible rfl)
      (try simp only [List.getElem_toArray, List.getElem_cons_succ, List.getElem_cons_zero, put_at, List.set])
      refine wpAnyL_last rfl (by kernel_rfl) (by kernel_rfl) (fun KK hK => ?_)
      have e9 := (BX2.out.later hHeld).cell 1
      have f9 := (BX2.out.later hHeld).free 1
      have l9 := (BX2.out.later hHeld).lt
      go_simp
      refine hK.out _ _ ?_
      (try simp only [put_at, List.set])
      go_wp2
      go_ret
      exact FF.out

end
end Go.Proofs.Ytomeipjglnpciaa
