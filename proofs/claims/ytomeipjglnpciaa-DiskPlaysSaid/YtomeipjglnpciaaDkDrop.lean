/- Package disk: Drop. -/
import Derived.Test.YtomeipjglnpciaaDkDel3
namespace Go.Proofs.Ytomeipjglnpciaa
open Go Go.RowKit Go.Maps
set_option linter.unusedVariables false
set_option linter.unusedSimpArgs false
set_option maxRecDepth 10000

def dS (S : Sgs) (n : Int) : Sgs := S.filter fun p => decide (p.1 ≠ n)
theorem gS_drop (S : Sgs) (n k : Int) : gS (dS S n) k = if k = n then none else gS S k := by
  induction S with
  | nil => simp [dS, gS]
  | cons x t ih =>
    obtain ⟨m, c⟩ := x
    unfold dS at ih ⊢
    rw [List.filter_cons]
    by_cases h : m = n
    · rw [if_neg (by simp [h]), ih, gS]
      by_cases hk : k = n
      · rw [if_pos hk, if_pos hk]
      · rw [if_neg hk, if_neg hk, if_neg (fun e => hk (e.symm.trans h))]
    · rw [if_pos (by simp [h]), gS, ih, gS]
      by_cases hm : m = k
      · rw [if_pos hm, if_pos hm, if_neg (fun e => h (hm.trans e))]
      · rw [if_neg hm, if_neg hm]
theorem SS_drop {S : Sgs} (h : SS S) (n : Int) : SS (dS S n) := List.Pairwise.filter _ h
theorem gD_drop (S : Sgs) (n k : Int) : gD (dS S n) k = if k = n then [] else gD S k := by
  unfold gD
  rw [gS_drop]
  split <;> rfl
theorem loose_keep (n : Int) (u : Pcs) (k : Int) : loose (keepP n u) k = if k = n then 0 else loose u k := by
  induction u with
  | nil => simp [keepP, loose]
  | cons x t ih =>
    obtain ⟨m, z⟩ := x
    unfold keepP at ih ⊢
    rw [List.filter_cons]
    by_cases h : m = n
    · have hb : pcB n (m, z) = true := decide_eq_true h
      rw [hb, Bool.not_true, if_neg (by decide), ih, loose]
      by_cases hk : k = n
      · rw [if_pos hk, if_pos hk]
      · rw [if_neg hk, if_neg hk, if_neg (fun e => hk (e.symm.trans h))]
        omega
    · have hb : pcB n (m, z) = false := decide_eq_false h
      rw [hb, Bool.not_false, if_pos rfl, loose, ih, loose]
      by_cases hk : k = n
      · rw [if_pos hk, if_pos hk, if_neg (fun e => h (e.trans hk))]
      · rw [if_neg hk, if_neg hk]
theorem UN.drop {S : Sgs} {u : Pcs} (h : UN S u) (n : Int) : UN (dS S n) (keepP n u) := by
  refine ⟨fun p hp => ?_, fun k => ?_⟩
  · unfold keepP at hp
    obtain ⟨h1, h2⟩ := List.mem_filter.1 hp
    have h3 : ¬ p.1 = n := by
      intro e
      have : pcB n p = true := decide_eq_true e
      rw [this] at h2
      cases h2
    rw [gS_drop, if_neg h3]
    exact h.1 p h1
  · rw [loose_keep, gD_drop]
    split
    · exact Nat.zero_le _
    · exact h.2 k
theorem Mp.drop {w : World} {B bm : Nat} {S : Sgs} {V : VF} {n : Int} (h : Mp w B bm S V none) (hn : (Lit.int .i64 n).wf = true) (ty : TypeId) :
    ∃ w', (Builtin.delete_ #[48, 3] ty #[.map (some bm), .int .i64 n]).run Try.prog w = .ok (.tuple #[]) w' ∧ Mp w' B bm (dS S n) V none ∧ w.mapTurned w' bm := by
  obtain ⟨D, m, hm, hmm, hh, ha⟩ := h.mp
  obtain ⟨w', h1, h2, h3⟩ := hm.drop lawI Try.underlying48 (kn_key n hn) ty
  have hg := h3.grown
  have other : ∀ {k b'}, gS (dS S n) k = some b' → k ≠ n ∧ gS S k = some b' := fun {k b'} hb' => by
    rw [gS_drop] at hb'
    split at hb'
    · cases hb'
    · rename_i e
      exact ⟨e, hb'⟩
  have keep : ∀ g, g < w.heap.size → g ≠ bm → w'.heap[g]? = w.heap[g]? := fun g h4 h5 => hg.block g h4 (fun e => h5 (Option.some.inj e))
  refine ⟨w', h1, ⟨⟨_, m, h2, hmm, fun k => ?_, fun k b' hk z => ?_⟩, fun k b' hk _ => ?_, fun i j bi bj hij hi hj => h.ne i j bi bj hij (other hi).2 (other hj).2, SS_drop h.ss n, h.bB⟩, h3⟩
  · by_cases e : k = n
    · subst e
      rw [has_del_same, gS_drop, if_pos rfl]
      rfl
    · rw [has_del_other (kn_ne e), gS_drop, if_neg e]
      exact hh k
  · obtain ⟨h4, h5⟩ := other hk
    rw [atKey_del_other (kn_ne h4)]
    exact ha k b' h5 z
  · have hr := h.rows k b' (other hk).2 (by simp)
    exact hr.blocks fun g hgg => keep g (own_lt hr hgg).1 (ownsMap_not_own hm hr hgg)
section
variable {w : World} {B d bm uc : Nat} {S : Sgs} {V : VF} {ua : Option Addr} {un : Pcs} {most beh fal : Int}
theorem Dm.turn_box (h : Dm w B d bm S V ua uc un most beh fal) {w4 : World} (q7 : w.mapTurned w4 bm) : Box w4 d #[.int .i64 most, .map (some bm), .slice ua un.length uc, .int .i64 beh, .int .i64 fal] 51 :=
  (q7.grown.block d h.box.lt (fun e => h.bm_ne (Option.some.inj e))).trans h.box
theorem Dm.turn_own (h : Dm w B d bm S V ua uc un most beh fal) {w4 : World} (q7 : w.mapTurned w4 bm) : Own w4 B 54 2 ua un.length uc (pcC un) :=
  h.own.blocks fun g e => q7.grown.block g (own_lt h.own e).1 (fun e2 => by
    obtain ⟨D, m, ho, _⟩ := h.mp.mp
    exact ownsMap_not_own ho h.own e (Option.some.inj e2))
theorem Dm.dropped (h : Dm w B d bm S V ua uc un most beh fal) {n : Int} {w4 w5 : World} {m : Nat} (q6 : Mp w4 B bm (dS S n) V none) (q7 : w.mapTurned w4 bm) (hm : (keepP n un).length = m) (p1 : Own w5 B 54 2 ua m uc (pcC (keepP n un))) (p2 : Only (fun k => ua = some ⟨k, 0, none⟩) w4 w5) :
    Dm (w5.setCell ⟨d, 2, none⟩ (.slice ua m uc)) B d bm (dS S n) V ua uc (keepP n un) most beh fal ∧ TurnD d bm S V ua w (dS S n) V ua (w5.setCell ⟨d, 2, none⟩ (.slice ua m uc)) := by
  subst hm
  have b4 := h.turn_box q7
  have o4 := h.turn_own q7
  have b5 : Box w5 d _ 51 := b4.only p2 fun e => by
    rw [e] at o4
    exact own_not_box o4 b4 (by decide) rfl
  have m5 : Mp w5 B bm (dS S n) V none := q6.blocks fun k hk => p2.block k (q6.mine_lt hk).1 fun e => by
    rw [e] at o4
    obtain ⟨cur, hcur, _⟩ := o4.block
    exact q6.off hcur (by decide) hk
  have hO : Only (MineD d bm S V ua) w (w5.setCell ⟨d, 2, none⟩ (.slice ua (keepP n un).length uc)) := by
    have h1 : Only (MineD d bm S V ua) w w4 := Only.of_grown q7.grown fun k hk => Or.inr (Or.inl (Or.inl (Option.some.inj hk).symm))
    exact (h1.trans p2 fun x hx => Or.inl (Or.inr (Or.inr hx))).setCell (Or.inl (Or.inl rfl)) _
  refine ⟨⟨b5.set 2 _, ?_, ?_, h.un_ok.drop n, h.dB, h.behB, h.falB, h.mo, Nat.le_trans (List.length_filter_le _ _) h.cnt, fun k => ?_, fun k hk => ?_⟩, hO, fun k hk => Or.inl ?_⟩
  · exact m5.blocks fun k hk => Below.heap_setCell w5 ⟨d, 2, none⟩ _ k fun e => m5.off (k := d) (cs := _) (t := 51) (z := (0, 0)) b5 (by decide) (by rw [show d = k from e.symm]; exact hk)
  · exact p1.other (fun g e => by
      rw [e] at p1
      exact own_not_box p1 b5 (by decide)) _
  · rw [gD_drop]
    split
    · exact Nat.zero_le _
    · exact h.seg k
  · rw [gS_drop] at hk
    split at hk
    · cases hk
    · exact h.kw k hk
  · rcases hk with hk | hk | hk
    · exact Or.inl hk
    · rcases hk with hk | ⟨m, b', hm, hx, e⟩
      · exact Or.inr (Or.inl (Or.inl hk))
      · rw [gS_drop] at hm
        split at hm
        · cases hm
        · exact Or.inr (Or.inl (Or.inr ⟨m, b', hm, hx, e⟩))
    · exact Or.inr (Or.inr hk)
def DropP (B d bm : Nat) (S : Sgs) (V : VF) (ua : Option Addr) (w : World) (un : Pcs) (most beh fal n : Int) (e : Ending) (w' : World) : Prop :=
  (gS S n = none ∧ e = .returned (.int .i64 4) ∧ Below w.heap.size w w') ∨
  ((gS S n).isSome = true ∧ wfB beh fal = true ∧ e = .returned (.int .i64 7) ∧ AftD B d bm S V ua w S un most (wfH beh) (wfF beh fal) w') ∨
  ((gS S n).isSome = true ∧ wfB beh fal = false ∧ e = .returned (.int .i64 0) ∧ AftD B d bm S V ua w (dS S n) (keepP n un) most (wfH beh) (wfF beh fal) w')
set_option maxHeartbeats 4000000 in
theorem drop_at (h : Dm w B d bm S V ua uc un most beh fal) (n : Int) (hnw : (Lit.int .i64 n).wf = true) :
    Calls Try.prog 10 #[.pointer (some ⟨d, 0, none⟩), .int .i64 n] w (DropP B d bm S V ua w un most beh fal n) := by
  have BN := Lib.hid (Box.new w #[.int .i64 n] 3)
  have BB := Lib.hid ((Below.refl w.heap.size w).alloc (Nat.le_refl _) (.cells #[.int .i64 n] 3))
  have HD := Lib.hid h
  obtain ⟨has, hhas⟩ : ∃ b, (gS S n).isSome = b := ⟨_, rfl⟩
  have HHAS := Lib.hid hhas
  obtain ⟨A, hA⟩ : ∃ A, lkA S V n = A := ⟨_, rfl⟩
  obtain ⟨C, hC⟩ : ∃ C, lkC S V n = C := ⟨_, rfl⟩
  obtain ⟨L, hL⟩ : ∃ L, (gD S n).length = L := ⟨_, rfl⟩
  go_enter Try.func10, Try.ntmps10
  go_upto_region 1 with fail
  obtain ⟨w1, hw1⟩ : ∃ W, w.alloc (.cells #[.int .i64 n] 3) = W := ⟨_, rfl⟩
  obtain ⟨ib, hib⟩ : ∃ B, w.heap.size = B := ⟨_, rfl⟩
  have hbel : Below w.heap.size w w1 := by rw [← hw1]; exact BB.out
  have B1 := Lib.hid hbel
  rw [hw1] at BN
  rw [hib] at BN
  rw [hw1, hib]
  clear hw1 hib BB hbel
  have D1 := Lib.hid (HD.out.later B1.out)
  have LK : ∀ j, (Instr.lookup 48 (.map (some bm)) (.int .i64 n) true).run Try.prog (w1.drewN j) = .ok (.tuple #[.slice A L C, .bool has]) (w1.drewN j) := fun j => by
    rw [← hA, ← hC, ← hL, ← hhas]
    exact (D1.out.mp.blocks (w' := w1.drewN j) (fun _ _ => rfl)).look_ok n hnw
  have BX1 := Lib.hid D1.out.box
  have c1 := BX1.out.cell 1
  have k0 := BN.out.cell 0
  have ld := BX1.out.lt
  have li := BN.out.lt
  clear h hA hC hL hhas
  go_upto_region 3 with fail
  go_quiet (fail)
  go_upto_region 4 with fail
  have BQ : Hid (Below w1.heap.size w1 (w1.drewN nq)) := Lib.hid (dk_drewN (Below.refl _ _) nq)
  obtain ⟨w3, hw3⟩ : ∃ W, w1.drewN nq = W := ⟨_, rfl⟩
  rw [hw3] at BQ ⊢
  have D3 := Lib.hid (D1.out.later BQ.out)
  have I3 := Lib.hid (BN.out.later BQ.out)
  have B3 := Lib.hid (B1.out.trans (BQ.out.mono B1.out.size))
  clear hw3 BQ D1 BX1 c1 k0 ld li LK BN B1
  cases has with
  | false =>
    have FIN : Hid (DropP B d bm S V ua w un most beh fal n (.returned (.int .i64 4)) w3) := Lib.hid (Or.inl ⟨by have h9 := HHAS.out; cases hg : gS S n with | none => rfl | some b => (rw [hg] at h9; cases h9), rfl, B3.out⟩)
    go_wp2
    go_ret
    exact FIN.out
  | true =>
    have WF := Lib.hid (wf_at D3.out)
    obtain ⟨wb, hwb⟩ : ∃ x, wfB beh fal = x := ⟨_, rfl⟩
    rw [hwb] at WF
    have WFB := Lib.hid hwb
    have MI : Hid (∀ k, MineD d bm S V ua k → k ≠ ib) := Lib.hid (fun k hk e => by
      subst e
      rcases hk with hk | hk | hk
      · exact box_other D3.out.box I3.out (by decide) hk.symm
      · exact D3.out.mp.off (k := k) I3.out (by decide) hk
      · have h9 := D3.out.own
        rw [hk] at h9
        exact own_not_box h9 I3.out (by decide) rfl)
    clear hwb
    go_wp2_with fail
    refine WF.out.mono ?_
    rintro e w6 ⟨rfl, dd6, tt6⟩
    have D6 := Lib.hid dd6
    have I6 := Lib.hid (I3.out.only tt6.1 (fun hm => MI.out _ hm rfl))
    have T6 := Lib.hid ((TurnD.refl (d := d) (bm := bm) (S := S) (V := V) (ua := ua) B3.out).trans tt6)
    clear dd6 tt6 WF D3 I3
    cases wb with
    | true =>
      have FIN : Hid (DropP B d bm S V ua w un most beh fal n (.returned (.int .i64 7)) w6) := Lib.hid (Or.inr (Or.inl ⟨HHAS.out, WFB.out, rfl, _, _, _, D6.out, T6.out⟩))
      go_wp2
      go_ret
      exact FIN.out
    | false =>
      obtain ⟨U, hU⟩ : ∃ U, un.length = U := ⟨_, rfl⟩
      have HU := Lib.hid hU
      have BX6 := Lib.hid D6.out.box
      have IB6 := I6
      have ld6 := BX6.out.lt
      have li6 := IB6.out.lt
      have MD : Hid (∀ W, Below w6.heap.size w6 W → ∃ w', (∀ ty, (Builtin.delete_ #[48, 3] ty #[.map (some bm), .int .i64 n]).run Try.prog W = .ok (.tuple #[]) w') ∧ Mp w' B bm (dS S n) V none ∧ W.mapTurned w' bm) := Lib.hid (fun W hW => by
        obtain ⟨w', h1, h2⟩ := (D6.out.later hW).mp.drop hnw 3
        exact ⟨w', fun ty => h1, h2⟩)
      have BXS : Hid (∀ W, Below w6.heap.size w6 W → ∀ w4, W.mapTurned w4 bm → Box w4 d #[.int .i64 most, .map (some bm), .slice ua U uc, .int .i64 (wfH beh), .int .i64 (wfF beh fal)] 51) := Lib.hid (fun W hW w4 h1 => by have h9 := (D6.out.later hW).turn_box h1; rw [hU] at h9; exact h9)
      have OUS : Hid (∀ W, Below w6.heap.size w6 W → ∀ w4, W.mapTurned w4 bm → Own w4 B 54 2 ua U uc (pcC un)) := Lib.hid (fun W hW w4 h1 => by have h9 := (D6.out.later hW).turn_own h1; rw [hU] at h9; exact h9)
      have IBS : Hid (∀ W, Below w6.heap.size w6 W → ∀ w4, W.mapTurned w4 bm → Box w4 ib #[.int .i64 n] 3) := Lib.hid (fun W hW w4 h1 => (h1.grown.block ib (I6.out.later hW).lt (fun e => MI.out bm (Or.inr (Or.inl (Or.inl rfl))) (Option.some.inj e).symm)).trans (I6.out.later hW))
      have FIN : Hid (∀ W, Below w6.heap.size w6 W → ∀ w4, Mp w4 B bm (dS S n) V none → W.mapTurned w4 bm → ∀ w5 m, (keepP n un).length = m → Own w5 B 54 2 ua m uc (pcC (keepP n un)) → Only (fun k => ua = some ⟨k, 0, none⟩) w4 w5 → DropP B d bm S V ua w un most beh fal n (.returned (.int .i64 0)) (w5.setCell ⟨d, 2, none⟩ (.slice ua m uc))) := Lib.hid (fun W hW w4 h1 h2 w5 m h3 h4 h5 => by
        obtain ⟨k1, k2⟩ := (D6.out.later hW).dropped h1 h2 h3 h4 h5
        exact Or.inr (Or.inr ⟨HHAS.out, WFB.out, rfl, _, _, _, k1, (T6.out.trans (TurnD.refl hW)).trans k2⟩))
      clear D6 I6 T6 HD B3 MI hU
      go_upto_region 8 with fail
      refine wp_region_last 5 (fun w' => Below w6.heap.size w6 w') (by kernel_rfl) ((Below.refl _ _).drew) (fun hHeld hClosed => ?_)
      have BW := Lib.hid ((Below.refl w6.heap.size w6).drew)
      generalize w6.drew = wc at BW hHeld ⊢
      refine wpAnyL_take (i := 0) (v := ?_) rfl (by kernel_rfl) (by kernel_rfl) (by kernel_rfl) (by kernel_rfl) (fun _ _ _ h => h) (by kernel_rfl) hClosed (Or.inl ⟨by rfl, ?_⟩) hHeld (fun hClosed => ?_)
      rotate_left
      · intro wv hSw; go_simp; all_goals (with_reducible rfl)
      (try simp only [List.getElem_toArray, List.getElem_cons_zero, put_at, List.set])
      refine wpAnyL_take (i := 1) (v := ?_) rfl (by kernel_rfl) (by kernel_rfl) (by kernel_rfl) (by kernel_rfl) (fun _ _ _ h => h) (by kernel_rfl) hClosed (Or.inl ⟨by rfl, ?_⟩) hHeld (fun hClosed => ?_)
      rotate_left
      · intro wv hSw; go_simp; all_goals (with_reducible rfl)
      (try simp only [List.getElem_toArray, List.getElem_cons_succ, List.getElem_cons_zero, put_at, List.set])
      refine wpAnyL_take (i := 2) (v := ?_) rfl (by kernel_rfl) (by kernel_rfl) (by kernel_rfl) (by kernel_rfl) (fun _ _ _ h => h) (by kernel_rfl) hClosed (Or.inl ⟨by rfl, ?_⟩) hHeld (fun hClosed => ?_)
      rotate_left
      · intro wv hSw; go_simp; all_goals (with_reducible rfl)
      (try simp only [List.getElem_toArray, List.getElem_cons_succ, List.getElem_cons_zero, put_at, List.set])
      refine wpAnyL_take (i := 3) (v := ?_) rfl (by kernel_rfl) (by kernel_rfl) (by kernel_rfl) (by kernel_rfl) (fun _ _ _ h => h) (by kernel_rfl) hClosed (Or.inl ⟨by rfl, ?_⟩) hHeld (fun hClosed => ?_)
      rotate_left
      · intro wv hSw; have c1 := (BX6.out.later hSw).cell 1; have k0 := (IB6.out.later hSw).cell 0; go_simp; all_goals (with_reducible rfl)
      (try simp only [List.getElem_toArray, List.getElem_cons_succ, List.getElem_cons_zero, put_at, List.set])
      refine wpAnyL_take (i := 4) (v := ?_) rfl (by kernel_rfl) (by kernel_rfl) (by kernel_rfl) (by kernel_rfl) (fun _ _ _ h => h) (by kernel_rfl) hClosed (Or.inl ⟨by rfl, ?_⟩) hHeld (fun hClosed => ?_)
      rotate_left
      · intro wv hSw; have c1 := (BX6.out.later hSw).cell 1; have k0 := (IB6.out.later hSw).cell 0; go_simp; all_goals (with_reducible rfl)
      (try simp only [List.getElem_toArray, List.getElem_cons_succ, List.getElem_cons_zero, put_at, List.set])
      refine wpAnyL_last rfl (by kernel_rfl) (by kernel_rfl) (fun KK hK => ?_)
      obtain ⟨w8, q5, q6, q7⟩ := MD.out wc BW.out
      go_simp
      refine hK.out _ _ ?_
      (try simp only [put_at, List.set])
      have FINW := Lib.hid (FIN.out wc BW.out w8 q6 q7)
      have BX8 := Lib.hid (BXS.out wc BW.out w8 q7)
      have OU8 := Lib.hid (OUS.out wc BW.out w8 q7)
      have IB8 := Lib.hid (IBS.out wc BW.out w8 q7)
      clear q5 q6 q7 BXS OUS IBS FIN MD hHeld
      have e2 := BX8.out.cell 2
      have f2 := BX8.out.free 2
      have ld8 := BX8.out.lt
      go_wp2_with fail
      refine (delf_at un U HU.out OU8.out n IB8.out).mono ?_
      rintro e w9 ⟨m, rfl, hm, o9, n9⟩
      have BX9 := Lib.hid (BX8.out.only n9 (fun e => by have h9 := OU8.out; rw [e] at h9; exact own_not_box h9 BX8.out (by decide) rfl))
      have FF := Lib.hid (FINW.out w9 m hm o9 n9)
      have g2 := BX9.out.free 2
      have e9 := BX9.out.cell 2
      have ld9 := BX9.out.lt
      clear o9 n9 hm FINW BX8 OU8 IB8 e2 f2 ld8
      go_wp2
      go_ret
      exact FF.out

end
end Go.Proofs.Ytomeipjglnpciaa
