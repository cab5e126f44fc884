/- Part of a chain: SpApp. -/
import Derived.Test.YtimkgaokcldgkaaGreatDoorFq18
import Derived.Test.YtimkgaokcldgkaaGreatDoorFq16
/- Package spill: apply. Written by gen_apply.py. -/
namespace Go.Proofs.YtimkgaokcldgkaaGreatDoor
open Go Go.RowKit Go.Maps
set_option linter.unusedVariables false
set_option linter.unusedSimpArgs false
set_option maxRecDepth 10000

theorem turned_block {w w' : World} {m k : Nat} (h : w.mapTurned w' m) (hk : k < w.heap.size) (hne : k ≠ m) : w'.heap[k]? = w.heap[k]? := h.grown.block k hk (fun e => hne (Option.some.inj e))
theorem IxM.turned {w w' : World} {B b o : Nat} {cs : Array Value} {t : TypeId} {pm : Nat} {wm : Option Nat} {x : Ix} (h : IxM w B b o cs t pm wm x) (ht : w.mapTurned w' pm) {S : List (Int × Pl)} (hS : PtM w' pm S) : IxM w' B b o cs t pm wm { x with puts := S } :=
  ⟨(turned_block ht h.box.lt (fun e => am_not_box h.puts h.box e.symm)).trans h.box, h.c0, h.c1, h.c2, hS, h.waits.later (fun m hm => turned_block ht (h.lt (Or.inr (Or.inr hm))).1 (fun e => h.apart (by rw [hm, e]))), h.apart, h.bB, h.pB, h.wB⟩
theorem IxM.top_ {w : World} {B b o : Nat} {cs : Array Value} {t : TypeId} {pm : Nat} {wm : Option Nat} {x : Ix} (h : IxM w B b o cs t pm wm x) (v : Int) : IxM (w.setCell ⟨b, o + 2, none⟩ (.int .i64 v)) B b o (cs.setIfInBounds (o + 2) (.int .i64 v)) t pm wm { x with top := v } :=
  ⟨h.box.set _ _, by rw [set_ne (by omega)]; exact h.c0, by rw [set_ne (by omega)]; exact h.c1, set_eq h.c2, h.puts.block (Below.heap_setCell _ _ _ pm (am_not_box h.puts h.box)), h.waits.later (fun m hm => by
    rcases h.waits with ⟨e, _⟩ | ⟨m2, e, hm2⟩
    · rw [e] at hm; cases hm
    · rw [e] at hm
      cases hm
      exact Below.heap_setCell _ _ _ m (am_not_box hm2 h.box)), h.apart, h.bB, h.pB, h.wB⟩
theorem AftI.from_ {B b o : Nat} {cs : Array Value} {t : TypeId} {pm : Nat} {wm : Option Nat} {w wc w' : World} {x' : Ix} (h : AftI B b o cs t pm wm wc x' w') (hb : Below w.heap.size w wc) : AftI B b o cs t pm wm w x' w' := by
  obtain ⟨wm', cs', h1, h2, h3, h4⟩ := h
  refine ⟨wm', cs', h1, h2, (Only.of_below _ hb).trans h3 (fun k hk => Or.inl hk), ?_⟩
  rcases h4 with h4 | ⟨m, h4, h5⟩
  · exact Or.inl h4
  · exact Or.inr ⟨m, h4, Nat.le_trans hb.size h5⟩
set_option maxHeartbeats 4000000 in
theorem apply_at {w : World} {B b o : Nat} {cs : Array Value} {t : TypeId} {pm : Nat} {wm : Option Nat} {x : Ix} (h : IxM w B b o cs t pm wm x) (r : Rc) (hid : okI r.id) (hs : okS r.host) (at_ : Pl) (hB : B ≤ w.heap.size) (hf : x.waits.length ≤ 1000000) (hf2 : x.puts.length ≤ 1000000) (ht : t ≠ 81) (ht2 : t ≠ 79) :
    Calls Tryz.prog 39 #[.pointer (some ⟨b, o, none⟩), .agg (recL r).toArray, plV at_] w fun e w' => e = .returned (.tuple #[]) ∧ AftI B b o cs t pm wm w (applyI x r at_) w' := by
  obtain ⟨rk, ri, rh, rp, ro, ru⟩ := r
  obtain ⟨y, hy⟩ : ∃ y, applyI x ⟨rk, ri, rh, rp, ro, ru⟩ at_ = y := ⟨_, rfl⟩
  rw [hy]
  have H0 := Lib.hid h
  have HI := Lib.hid hid
  have HS := Lib.hid hs
  have HY := Lib.hid hy.symm
  have PA : Hid (∀ W, Below w.heap.size w W → Calls Tryz.prog 60 #[.pointer (some ⟨b, o, none⟩), .string rh, .int .i64 ru, plV at_] W fun e w' => e = .returned (.bool (newsI x rh ru)) ∧ AftI B b o cs t pm wm W (pauseI x rh ru at_) w') := Lib.hid (fun W hW => pause_at (H0.out.later hW) rh HS.out ru at_ (Nat.le_trans hB hW.size) hf ht)
  obtain ⟨p1, p2, p3⟩ := at_
  unfold plV plC at PA ⊢
  unfold applyI at HY
  dsimp only at PA HY hid hs ⊢
  show Calls Tryz.prog 39 #[.pointer (some ⟨b, o, none⟩), .agg #[.int .i64 rk, .int .i64 ri, .string rh, .string rp, .int .i64 ro, .int .i64 ru], .agg #[.int .i64 p1, .int .i64 p2, .int .i64 p3]] w _
  clear hy h hid hs
  have LO : Hid (b < w.heap.size) := Lib.hid H0.out.box.lt
  go_enter Tryz.func39, Tryz.ntmps39
  go_upto_region 1 with fail
  refine code_forget (fun W => Hid (Box W w.heap.size #[.int .i64 rk, .int .i64 ri, .string rh, .string rp, .int .i64 ro, .int .i64 ru] 79) ∧ Hid (Box W (w.heap.size + 1) #[.int .i64 p1, .int .i64 p2, .int .i64 p3] 81) ∧ Hid (Below w.heap.size w W)) ⟨Lib.hid ((Box.new w _ _).alloc _), Lib.hid (by have h9 := Box.new (w.alloc (.cells #[.int .i64 rk, .int .i64 ri, .string rh, .string rp, .int .i64 ro, .int .i64 ru] 79)) #[.int .i64 p1, .int .i64 p2, .int .i64 p3] 81; rw [World.size_alloc] at h9; exact h9), Lib.hid (((Below.refl w.heap.size w).alloc (Nat.le_refl _) _).alloc (by simp) _)⟩ ?_
  obtain ⟨rb, hrb⟩ : ∃ p, w.heap.size = p := ⟨_, rfl⟩
  obtain ⟨ab, hab⟩ : ∃ p, w.heap.size + 1 = p := ⟨_, rfl⟩
  have HRB := Lib.hid hrb
  have HAB := Lib.hid hab
  rw [hab, hrb]
  rintro wc ⟨BR1, BP1, B1⟩
  rw [← HRB.out] at B1
  clear hrb hab
  have I1 := Lib.hid (H0.out.later B1.out)
  have r0 := BR1.out.cell 0
  have NE : Hid (b ≠ rb ∧ b ≠ ab) := Lib.hid (by have := LO.out; have := HRB.out; have := HAB.out; omega)
  by_cases k1 : rk = 1
  · have d1 : (rk == 1) = true := beq_iff_eq.2 k1
    have STO : Hid (∀ W, IxM W B b o cs t pm wm x → ∃ w5, (Instr.mapUpdate 58 (.map (some pm)) (.int .i64 ri) (plV ⟨p1, p2, p3⟩)).run Tryz.prog W = .ok () w5 ∧ PtM w5 pm (pA x.puts ri ⟨p1, p2, p3⟩) ∧ W.mapTurned w5 pm) := Lib.hid (fun W hW => hW.puts.store tyP ri HI.out ⟨p1, p2, p3⟩ (by omega))
    have KEEP : Hid (∀ W w5, (IxM W B b o cs t pm wm x ∧ Box W rb #[.int .i64 rk, .int .i64 ri, .string rh, .string rp, .int .i64 ro, .int .i64 ru] 79 ∧ Box W ab #[.int .i64 p1, .int .i64 p2, .int .i64 p3] 81 ∧ Below wc.heap.size wc W) → PtM w5 pm (pA x.puts ri ⟨p1, p2, p3⟩) → W.mapTurned w5 pm → IxM w5 B b o cs t pm wm { x with puts := pA x.puts ri ⟨p1, p2, p3⟩ } ∧ Box w5 rb #[.int .i64 rk, .int .i64 ri, .string rh, .string rp, .int .i64 ro, .int .i64 ru] 79 ∧ Box w5 ab #[.int .i64 p1, .int .i64 p2, .int .i64 p3] 81 ∧ Only (MineI b pm wm) w w5) := Lib.hid (fun W w5 hW h1 h2 => by
      have g1 := hW.1.puts
      refine ⟨hW.1.turned h2 h1, (turned_block h2 hW.2.1.lt (fun e => am_not_box g1 hW.2.1 e.symm)).trans hW.2.1, (turned_block h2 hW.2.2.1.lt (fun e => am_not_box g1 hW.2.2.1 e.symm)).trans hW.2.2.1, ?_⟩
      exact ((Only.of_below _ B1.out).later hW.2.2.2).trans (Only.of_grown (R := fun k => k = pm) h2.grown (fun k e => (Option.some.inj e).symm)) (fun k hk => Or.inl (Or.inr (Or.inl hk))))
    clear r0
    have r0 := BR1.out.cell 0
    go_upto_region 3 with fail
    refine wp_region_last 8 (fun w' => IxM w' B b o cs t pm wm x ∧ Box w' rb #[.int .i64 rk, .int .i64 ri, .string rh, .string rp, .int .i64 ro, .int .i64 ru] 79 ∧ Box w' ab #[.int .i64 p1, .int .i64 p2, .int .i64 p3] 81 ∧ Below wc.heap.size wc w') (by kernel_rfl) (⟨I1.out.drew, BR1.out.drew, BP1.out.drew, (Below.refl _ wc).drew⟩) (fun hHeld hClosed => ?_)
    refine wtk (i := 0) (v := ?_) rfl hClosed (Or.inl ⟨by rfl, ?_⟩) hHeld (fun hClosed => ?_)
    rotate_left
    · intro wv hSw; go_simp; all_goals (with_reducible rfl)
    (try simp only [List.getElem_toArray, List.getElem_cons_zero, put_at, List.set])
    refine wtk (i := 1) (v := ?_) rfl hClosed (Or.inl ⟨by rfl, ?_⟩) hHeld (fun hClosed => ?_)
    rotate_left
    · intro wv hSw; go_simp; all_goals (with_reducible rfl)
    (try simp only [List.getElem_toArray, List.getElem_cons_succ, List.getElem_cons_zero, put_at, List.set])
    refine wtk (i := 2) (v := ?_) rfl hClosed (Or.inl ⟨by rfl, ?_⟩) hHeld (fun hClosed => ?_)
    rotate_left
    · intro wv hSw; go_simp; all_goals (with_reducible rfl)
    (try simp only [List.getElem_toArray, List.getElem_cons_succ, List.getElem_cons_zero, put_at, List.set])
    refine wtk (i := 3) (v := ?_) rfl hClosed (Or.inl ⟨by rfl, ?_⟩) hHeld (fun hClosed => ?_)
    rotate_left
    · intro wv hSw; have c0 := (hSw.1.box.cell o).trans hSw.1.c0; have r0 := hSw.2.1.cell 0; have r1 := hSw.2.1.cell 1; have r2 := hSw.2.1.cell 2; have r3 := hSw.2.1.cell 3; have r4 := hSw.2.1.cell 4; have r5 := hSw.2.1.cell 5; have p0 := hSw.2.2.1.cell 0; have p1 := hSw.2.2.1.cell 1; have p2 := hSw.2.2.1.cell 2; go_simp; all_goals (with_reducible rfl)
    (try simp only [List.getElem_toArray, List.getElem_cons_succ, List.getElem_cons_zero, put_at, List.set])
    refine wtk (i := 4) (v := ?_) rfl hClosed (Or.inl ⟨by rfl, ?_⟩) hHeld (fun hClosed => ?_)
    rotate_left
    · intro wv hSw; go_simp; all_goals (with_reducible rfl)
    (try simp only [List.getElem_toArray, List.getElem_cons_succ, List.getElem_cons_zero, put_at, List.set])
    refine wtk (i := 5) (v := ?_) rfl hClosed (Or.inl ⟨by rfl, ?_⟩) hHeld (fun hClosed => ?_)
    rotate_left
    · intro wv hSw; go_simp; all_goals (with_reducible rfl)
    (try simp only [List.getElem_toArray, List.getElem_cons_succ, List.getElem_cons_zero, put_at, List.set])
    refine wtk (i := 6) (v := ?_) rfl hClosed (Or.inl ⟨by rfl, ?_⟩) hHeld (fun hClosed => ?_)
    rotate_left
    · intro wv hSw; have c0 := (hSw.1.box.cell o).trans hSw.1.c0; have r0 := hSw.2.1.cell 0; have r1 := hSw.2.1.cell 1; have r2 := hSw.2.1.cell 2; have r3 := hSw.2.1.cell 3; have r4 := hSw.2.1.cell 4; have r5 := hSw.2.1.cell 5; have p0 := hSw.2.2.1.cell 0; have p1 := hSw.2.2.1.cell 1; have p2 := hSw.2.2.1.cell 2; go_simp; all_goals (with_reducible rfl)
    (try simp only [List.getElem_toArray, List.getElem_cons_succ, List.getElem_cons_zero, put_at, List.set])
    refine wtk (i := 7) (v := ?_) rfl hClosed (Or.inl ⟨by rfl, ?_⟩) hHeld (fun hClosed => ?_)
    rotate_left
    · intro wv hSw; have c0 := (hSw.1.box.cell o).trans hSw.1.c0; have r0 := hSw.2.1.cell 0; have r1 := hSw.2.1.cell 1; have r2 := hSw.2.1.cell 2; have r3 := hSw.2.1.cell 3; have r4 := hSw.2.1.cell 4; have r5 := hSw.2.1.cell 5; have p0 := hSw.2.2.1.cell 0; have p1 := hSw.2.2.1.cell 1; have p2 := hSw.2.2.1.cell 2; go_simp; all_goals (with_reducible rfl)
    (try simp only [List.getElem_toArray, List.getElem_cons_succ, List.getElem_cons_zero, put_at, List.set])
    refine wpAnyL_last rfl (by kernel_rfl) (by kernel_rfl) (fun KK hK => ?_)
    obtain ⟨w5, hrun5, hm5, ht5⟩ := STO.out _ hHeld.1
    unfold plV plC at hrun5
    dsimp only at hrun5
    go_simp
    refine hK.out _ _ ?_
    (try simp only [put_at, List.set])
    have KP := Lib.hid (KEEP.out _ w5 hHeld hm5 ht5)
    clear hm5 ht5 hHeld KEEP STO
    obtain ⟨x1, hx1⟩ : ∃ x1 : Ix, { x with puts := pA x.puts ri ⟨p1, p2, p3⟩ } = x1 := ⟨_, rfl⟩
    rw [hx1] at KP
    have IC := Lib.hid KP.out.1
    have BR := Lib.hid KP.out.2.1
    have BP := Lib.hid KP.out.2.2.1
    have OC := Lib.hid KP.out.2.2.2
    have HX1 := Lib.hid hx1.symm
    clear hx1 KP BR1 BP1 I1 B1 r0
    obtain ⟨tp, htp⟩ : ∃ v, x1.top = v := ⟨_, rfl⟩
    have HTP := Lib.hid htp
    clear htp
    have FIN : Hid (∀ W, IxM W B b o cs t pm wm x1 → Below w5.heap.size w5 W → AftI B b o cs t pm wm w y (W.setCell ⟨b, o + 2, none⟩ (.int .i64 (max tp ri)))) := Lib.hid (fun W h1 h2 => by
      have h3 := h1.top_ (max tp ri)
      have hy : y = ⟨x1.puts, x1.waits, max tp ri⟩ := by rw [HY.out, if_pos k1, ← HTP.out, HX1.out]
      rw [hy]
      exact ⟨wm, cs.setIfInBounds (o + 2) (.int .i64 (max tp ri)), h3, fun i _ h => set_ne h, (OC.out.later h2).setCell (Or.inl (Or.inl rfl)) _, Or.inl rfl⟩)
    go_upto_region 4 with fail
    refine wp_region_last 11 (fun w' => IxM w' B b o cs t pm wm x1 ∧ Box w' rb #[.int .i64 rk, .int .i64 ri, .string rh, .string rp, .int .i64 ro, .int .i64 ru] 79 ∧ Box w' ab #[.int .i64 p1, .int .i64 p2, .int .i64 p3] 81 ∧ Below w5.heap.size w5 w') (by kernel_rfl) (⟨IC.out.drew, BR.out.drew, BP.out.drew, (Below.refl _ w5).drew⟩) (fun hHeld hClosed => ?_)
    refine wtk (i := 0) (v := ?_) rfl hClosed (Or.inl ⟨by rfl, ?_⟩) hHeld (fun hClosed => ?_)
    rotate_left
    · intro wv hSw; go_simp; all_goals (with_reducible rfl)
    (try simp only [List.getElem_toArray, List.getElem_cons_zero, put_at, List.set])
    refine wtk (i := 1) (v := ?_) rfl hClosed (Or.inl ⟨by rfl, ?_⟩) hHeld (fun hClosed => ?_)
    rotate_left
    · intro wv hSw; go_simp; all_goals (with_reducible rfl)
    (try simp only [List.getElem_toArray, List.getElem_cons_succ, List.getElem_cons_zero, put_at, List.set])
    refine wtk (i := 2) (v := ?_) rfl hClosed (Or.inl ⟨by rfl, ?_⟩) hHeld (fun hClosed => ?_)
    rotate_left
    · intro wv hSw; go_simp; all_goals (with_reducible rfl)
    (try simp only [List.getElem_toArray, List.getElem_cons_succ, List.getElem_cons_zero, put_at, List.set])
    refine wtk (i := 3) (v := ?_) rfl hClosed (Or.inl ⟨by rfl, ?_⟩) hHeld (fun hClosed => ?_)
    rotate_left
    · intro wv hSw; go_simp; all_goals (with_reducible rfl)
    (try simp only [List.getElem_toArray, List.getElem_cons_succ, List.getElem_cons_zero, put_at, List.set])
    refine wtk (i := 4) (v := ?_) rfl hClosed (Or.inl ⟨by rfl, ?_⟩) hHeld (fun hClosed => ?_)
    rotate_left
    · intro wv hSw; have c2 := (hSw.1.box.cell (o + 2)).trans hSw.1.c2; rw [HTP.out] at c2; have r0 := hSw.2.1.cell 0; have r1 := hSw.2.1.cell 1; have r2 := hSw.2.1.cell 2; have r3 := hSw.2.1.cell 3; have r4 := hSw.2.1.cell 4; have r5 := hSw.2.1.cell 5; go_simp; all_goals (with_reducible rfl)
    (try simp only [List.getElem_toArray, List.getElem_cons_succ, List.getElem_cons_zero, put_at, List.set])
    refine wtk (i := 5) (v := ?_) rfl hClosed (Or.inl ⟨by rfl, ?_⟩) hHeld (fun hClosed => ?_)
    rotate_left
    · intro wv hSw; go_simp; all_goals (with_reducible rfl)
    (try simp only [List.getElem_toArray, List.getElem_cons_succ, List.getElem_cons_zero, put_at, List.set])
    refine wtk (i := 6) (v := ?_) rfl hClosed (Or.inl ⟨by rfl, ?_⟩) hHeld (fun hClosed => ?_)
    rotate_left
    · intro wv hSw; go_simp; all_goals (with_reducible rfl)
    (try simp only [List.getElem_toArray, List.getElem_cons_succ, List.getElem_cons_zero, put_at, List.set])
    refine wtk (i := 7) (v := ?_) rfl hClosed (Or.inl ⟨by rfl, ?_⟩) hHeld (fun hClosed => ?_)
    rotate_left
    · intro wv hSw; have c2 := (hSw.1.box.cell (o + 2)).trans hSw.1.c2; rw [HTP.out] at c2; have r0 := hSw.2.1.cell 0; have r1 := hSw.2.1.cell 1; have r2 := hSw.2.1.cell 2; have r3 := hSw.2.1.cell 3; have r4 := hSw.2.1.cell 4; have r5 := hSw.2.1.cell 5; go_simp; all_goals (with_reducible rfl)
    (try simp only [List.getElem_toArray, List.getElem_cons_succ, List.getElem_cons_zero, put_at, List.set])
    refine wtk (i := 8) (v := ?_) rfl hClosed (Or.inl ⟨by rfl, ?_⟩) hHeld (fun hClosed => ?_)
    rotate_left
    · intro wv hSw; go_simp; all_goals (with_reducible rfl)
    (try simp only [List.getElem_toArray, List.getElem_cons_succ, List.getElem_cons_zero, put_at, List.set])
    refine wtk (i := 9) (v := ?_) rfl hClosed (Or.inl ⟨by rfl, ?_⟩) hHeld (fun hClosed => ?_)
    rotate_left
    · intro wv hSw; go_simp; all_goals (with_reducible rfl)
    (try simp only [List.getElem_toArray, List.getElem_cons_succ, List.getElem_cons_zero, put_at, List.set])
    refine wtk (i := 10) (v := ?_) rfl hClosed (Or.inl ⟨by rfl, ?_⟩) hHeld (fun hClosed => ?_)
    rotate_left
    · intro wv hSw; go_simp; all_goals (with_reducible rfl)
    (try simp only [List.getElem_toArray, List.getElem_cons_succ, List.getElem_cons_zero, put_at, List.set])
    refine wpAnyL_last rfl (by kernel_rfl) (by kernel_rfl) (fun KK hK => ?_)
    have c2 := (hHeld.1.box.cell (o + 2)).trans hHeld.1.c2
    have f2 := hHeld.1.box.free (o + 2)
    have lb := hHeld.1.box.lt
    go_simp
    refine hK.out _ _ ?_
    (try simp only [put_at, List.set])
    have F5 := Lib.hid (FIN.out _ hHeld.1 hHeld.2.2.2)
    clear hHeld FIN
    go_wp2_with fail
    all_goals refine bodyPost_end (v := .tuple #[]) (by simp [results, Tryz.results39, go_sem]) rfl ⟨rfl, ?_⟩
    · have e : max tp ri = ri := by omega
      have F6 := F5.out
      rw [e] at F6
      exact F6
    · have e : max tp ri = tp := by omega
      have F6 := F5.out
      rw [e] at F6
      exact F6
  · have d1 : (rk == 1) = false := beq_eq_false_iff_ne.2 k1
    by_cases k2 : rk = 2
    · have d2 : (rk == 2) = true := beq_iff_eq.2 k2
      have STO : Hid (∀ W, IxM W B b o cs t pm wm x → ∃ w5, (Builtin.delete_ #[58, 3] 0 #[.map (some pm), .int .i64 ri]).run Tryz.prog W = .ok (.tuple #[]) w5 ∧ PtM w5 pm (dA x.puts ri) ∧ W.mapTurned w5 pm) := Lib.hid (fun W hW => hW.puts.drop tyP ri HI.out 0)
      have KEEP : Hid (∀ W w5, (IxM W B b o cs t pm wm x ∧ Box W rb #[.int .i64 rk, .int .i64 ri, .string rh, .string rp, .int .i64 ro, .int .i64 ru] 79 ∧ Box W ab #[.int .i64 p1, .int .i64 p2, .int .i64 p3] 81 ∧ Below wc.heap.size wc W) → PtM w5 pm (dA x.puts ri) → W.mapTurned w5 pm → IxM w5 B b o cs t pm wm { x with puts := dA x.puts ri } ∧ Box w5 rb #[.int .i64 rk, .int .i64 ri, .string rh, .string rp, .int .i64 ro, .int .i64 ru] 79 ∧ Box w5 ab #[.int .i64 p1, .int .i64 p2, .int .i64 p3] 81 ∧ Only (MineI b pm wm) w w5) := Lib.hid (fun W w5 hW h1 h2 => by
      have g1 := hW.1.puts
      refine ⟨hW.1.turned h2 h1, (turned_block h2 hW.2.1.lt (fun e => am_not_box g1 hW.2.1 e.symm)).trans hW.2.1, (turned_block h2 hW.2.2.1.lt (fun e => am_not_box g1 hW.2.2.1 e.symm)).trans hW.2.2.1, ?_⟩
      exact ((Only.of_below _ B1.out).later hW.2.2.2).trans (Only.of_grown (R := fun k => k = pm) h2.grown (fun k e => (Option.some.inj e).symm)) (fun k hk => Or.inl (Or.inr (Or.inl hk))))
      clear r0
      have r0 := BR1.out.cell 0
      go_upto_region 6 with fail
      refine wp_region_last 7 (fun w' => IxM w' B b o cs t pm wm x ∧ Box w' rb #[.int .i64 rk, .int .i64 ri, .string rh, .string rp, .int .i64 ro, .int .i64 ru] 79 ∧ Box w' ab #[.int .i64 p1, .int .i64 p2, .int .i64 p3] 81 ∧ Below wc.heap.size wc w') (by kernel_rfl) (⟨I1.out.drew, BR1.out.drew, BP1.out.drew, (Below.refl _ wc).drew⟩) (fun hHeld hClosed => ?_)
      refine wtk (i := 0) (v := ?_) rfl hClosed (Or.inl ⟨by rfl, ?_⟩) hHeld (fun hClosed => ?_)
      rotate_left
      · intro wv hSw; go_simp; all_goals (with_reducible rfl)
      (try simp only [List.getElem_toArray, List.getElem_cons_zero, put_at, List.set])
      refine wtk (i := 1) (v := ?_) rfl hClosed (Or.inl ⟨by rfl, ?_⟩) hHeld (fun hClosed => ?_)
      rotate_left
      · intro wv hSw; go_simp; all_goals (with_reducible rfl)
      (try simp only [List.getElem_toArray, List.getElem_cons_succ, List.getElem_cons_zero, put_at, List.set])
      refine wtk (i := 2) (v := ?_) rfl hClosed (Or.inl ⟨by rfl, ?_⟩) hHeld (fun hClosed => ?_)
      rotate_left
      · intro wv hSw; go_simp; all_goals (with_reducible rfl)
      (try simp only [List.getElem_toArray, List.getElem_cons_succ, List.getElem_cons_zero, put_at, List.set])
      refine wtk (i := 3) (v := ?_) rfl hClosed (Or.inl ⟨by rfl, ?_⟩) hHeld (fun hClosed => ?_)
      rotate_left
      · intro wv hSw; have c0 := (hSw.1.box.cell o).trans hSw.1.c0; have r0 := hSw.2.1.cell 0; have r1 := hSw.2.1.cell 1; have r2 := hSw.2.1.cell 2; have r3 := hSw.2.1.cell 3; have r4 := hSw.2.1.cell 4; have r5 := hSw.2.1.cell 5; go_simp; all_goals (with_reducible rfl)
      (try simp only [List.getElem_toArray, List.getElem_cons_succ, List.getElem_cons_zero, put_at, List.set])
      refine wtk (i := 4) (v := ?_) rfl hClosed (Or.inl ⟨by rfl, ?_⟩) hHeld (fun hClosed => ?_)
      rotate_left
      · intro wv hSw; go_simp; all_goals (with_reducible rfl)
      (try simp only [List.getElem_toArray, List.getElem_cons_succ, List.getElem_cons_zero, put_at, List.set])
      refine wtk (i := 5) (v := ?_) rfl hClosed (Or.inl ⟨by rfl, ?_⟩) hHeld (fun hClosed => ?_)
      rotate_left
      · intro wv hSw; go_simp; all_goals (with_reducible rfl)
      (try simp only [List.getElem_toArray, List.getElem_cons_succ, List.getElem_cons_zero, put_at, List.set])
      refine wtk (i := 6) (v := ?_) rfl hClosed (Or.inl ⟨by rfl, ?_⟩) hHeld (fun hClosed => ?_)
      rotate_left
      · intro wv hSw; have c0 := (hSw.1.box.cell o).trans hSw.1.c0; have r0 := hSw.2.1.cell 0; have r1 := hSw.2.1.cell 1; have r2 := hSw.2.1.cell 2; have r3 := hSw.2.1.cell 3; have r4 := hSw.2.1.cell 4; have r5 := hSw.2.1.cell 5; go_simp; all_goals (with_reducible rfl)
      (try simp only [List.getElem_toArray, List.getElem_cons_succ, List.getElem_cons_zero, put_at, List.set])
      refine wpAnyL_last rfl (by kernel_rfl) (by kernel_rfl) (fun KK hK => ?_)
      obtain ⟨w5, hrun5, hm5, ht5⟩ := STO.out _ hHeld.1
      go_simp
      refine hK.out _ _ ?_
      (try simp only [put_at, List.set])
      have KP := Lib.hid (KEEP.out _ w5 hHeld hm5 ht5)
      clear hm5 ht5 hHeld KEEP STO
      obtain ⟨x1, hx1⟩ : ∃ x1 : Ix, { x with puts := dA x.puts ri } = x1 := ⟨_, rfl⟩
      rw [hx1] at KP
      have IC := Lib.hid KP.out.1
      have BR := Lib.hid KP.out.2.1
      have BP := Lib.hid KP.out.2.2.1
      have OC := Lib.hid KP.out.2.2.2
      have HX1 := Lib.hid hx1.symm
      clear hx1 KP BR1 BP1 I1 B1 r0
      obtain ⟨tp, htp⟩ : ∃ v, x1.top = v := ⟨_, rfl⟩
      have HTP := Lib.hid htp
      clear htp
      have FIN : Hid (∀ W, IxM W B b o cs t pm wm x1 → Below w5.heap.size w5 W → AftI B b o cs t pm wm w y (W.setCell ⟨b, o + 2, none⟩ (.int .i64 (max tp ri)))) := Lib.hid (fun W h1 h2 => by
        have h3 := h1.top_ (max tp ri)
        have hy : y = ⟨x1.puts, x1.waits, max tp ri⟩ := by rw [HY.out, if_neg k1, if_pos k2, ← HTP.out, HX1.out]
        rw [hy]
        exact ⟨wm, cs.setIfInBounds (o + 2) (.int .i64 (max tp ri)), h3, fun i _ h => set_ne h, (OC.out.later h2).setCell (Or.inl (Or.inl rfl)) _, Or.inl rfl⟩)
      go_upto_region 7 with fail
      refine wp_region_last 11 (fun w' => IxM w' B b o cs t pm wm x1 ∧ Box w' rb #[.int .i64 rk, .int .i64 ri, .string rh, .string rp, .int .i64 ro, .int .i64 ru] 79 ∧ Box w' ab #[.int .i64 p1, .int .i64 p2, .int .i64 p3] 81 ∧ Below w5.heap.size w5 w') (by kernel_rfl) (⟨IC.out.drew, BR.out.drew, BP.out.drew, (Below.refl _ w5).drew⟩) (fun hHeld hClosed => ?_)
      refine wtk (i := 0) (v := ?_) rfl hClosed (Or.inl ⟨by rfl, ?_⟩) hHeld (fun hClosed => ?_)
      rotate_left
      · intro wv hSw; go_simp; all_goals (with_reducible rfl)
      (try simp only [List.getElem_toArray, List.getElem_cons_zero, put_at, List.set])
      refine wtk (i := 1) (v := ?_) rfl hClosed (Or.inl ⟨by rfl, ?_⟩) hHeld (fun hClosed => ?_)
      rotate_left
      · intro wv hSw; go_simp; all_goals (with_reducible rfl)
      (try simp only [List.getElem_toArray, List.getElem_cons_succ, List.getElem_cons_zero, put_at, List.set])
      refine wtk (i := 2) (v := ?_) rfl hClosed (Or.inl ⟨by rfl, ?_⟩) hHeld (fun hClosed => ?_)
      rotate_left
      · intro wv hSw; go_simp; all_goals (with_reducible rfl)
      (try simp only [List.getElem_toArray, List.getElem_cons_succ, List.getElem_cons_zero, put_at, List.set])
      refine wtk (i := 3) (v := ?_) rfl hClosed (Or.inl ⟨by rfl, ?_⟩) hHeld (fun hClosed => ?_)
      rotate_left
      · intro wv hSw; go_simp; all_goals (with_reducible rfl)
      (try simp only [List.getElem_toArray, List.getElem_cons_succ, List.getElem_cons_zero, put_at, List.set])
      refine wtk (i := 4) (v := ?_) rfl hClosed (Or.inl ⟨by rfl, ?_⟩) hHeld (fun hClosed => ?_)
      rotate_left
      · intro wv hSw; have c2 := (hSw.1.box.cell (o + 2)).trans hSw.1.c2; rw [HTP.out] at c2; have r0 := hSw.2.1.cell 0; have r1 := hSw.2.1.cell 1; have r2 := hSw.2.1.cell 2; have r3 := hSw.2.1.cell 3; have r4 := hSw.2.1.cell 4; have r5 := hSw.2.1.cell 5; go_simp; all_goals (with_reducible rfl)
      (try simp only [List.getElem_toArray, List.getElem_cons_succ, List.getElem_cons_zero, put_at, List.set])
      refine wtk (i := 5) (v := ?_) rfl hClosed (Or.inl ⟨by rfl, ?_⟩) hHeld (fun hClosed => ?_)
      rotate_left
      · intro wv hSw; go_simp; all_goals (with_reducible rfl)
      (try simp only [List.getElem_toArray, List.getElem_cons_succ, List.getElem_cons_zero, put_at, List.set])
      refine wtk (i := 6) (v := ?_) rfl hClosed (Or.inl ⟨by rfl, ?_⟩) hHeld (fun hClosed => ?_)
      rotate_left
      · intro wv hSw; go_simp; all_goals (with_reducible rfl)
      (try simp only [List.getElem_toArray, List.getElem_cons_succ, List.getElem_cons_zero, put_at, List.set])
      refine wtk (i := 7) (v := ?_) rfl hClosed (Or.inl ⟨by rfl, ?_⟩) hHeld (fun hClosed => ?_)
      rotate_left
      · intro wv hSw; have c2 := (hSw.1.box.cell (o + 2)).trans hSw.1.c2; rw [HTP.out] at c2; have r0 := hSw.2.1.cell 0; have r1 := hSw.2.1.cell 1; have r2 := hSw.2.1.cell 2; have r3 := hSw.2.1.cell 3; have r4 := hSw.2.1.cell 4; have r5 := hSw.2.1.cell 5; go_simp; all_goals (with_reducible rfl)
      (try simp only [List.getElem_toArray, List.getElem_cons_succ, List.getElem_cons_zero, put_at, List.set])
      refine wtk (i := 8) (v := ?_) rfl hClosed (Or.inl ⟨by rfl, ?_⟩) hHeld (fun hClosed => ?_)
      rotate_left
      · intro wv hSw; go_simp; all_goals (with_reducible rfl)
      (try simp only [List.getElem_toArray, List.getElem_cons_succ, List.getElem_cons_zero, put_at, List.set])
      refine wtk (i := 9) (v := ?_) rfl hClosed (Or.inl ⟨by rfl, ?_⟩) hHeld (fun hClosed => ?_)
      rotate_left
      · intro wv hSw; go_simp; all_goals (with_reducible rfl)
      (try simp only [List.getElem_toArray, List.getElem_cons_succ, List.getElem_cons_zero, put_at, List.set])
      refine wtk (i := 10) (v := ?_) rfl hClosed (Or.inl ⟨by rfl, ?_⟩) hHeld (fun hClosed => ?_)
      rotate_left
      · intro wv hSw; go_simp; all_goals (with_reducible rfl)
      (try simp only [List.getElem_toArray, List.getElem_cons_succ, List.getElem_cons_zero, put_at, List.set])
      refine wpAnyL_last rfl (by kernel_rfl) (by kernel_rfl) (fun KK hK => ?_)
      have c2 := (hHeld.1.box.cell (o + 2)).trans hHeld.1.c2
      have f2 := hHeld.1.box.free (o + 2)
      have lb := hHeld.1.box.lt
      go_simp
      refine hK.out _ _ ?_
      (try simp only [put_at, List.set])
      have F5 := Lib.hid (FIN.out _ hHeld.1 hHeld.2.2.2)
      clear hHeld FIN
      go_wp2_with fail
      all_goals refine bodyPost_end (v := .tuple #[]) (by simp [results, Tryz.results39, go_sem]) rfl ⟨rfl, ?_⟩
      · have e : max tp ri = ri := by omega
        have F6 := F5.out
        rw [e] at F6
        exact F6
      · have e : max tp ri = tp := by omega
        have F6 := F5.out
        rw [e] at F6
        exact F6
    · have d2 : (rk == 2) = false := beq_eq_false_iff_ne.2 k2
      by_cases k3 : rk = 3
      · have d3 : (rk == 3) = true := beq_iff_eq.2 k3
        have r2 := BR1.out.cell 2
        have r5 := BR1.out.cell 5
        have p0 := BP1.out.cell 0
        have p1' := BP1.out.cell 1
        have p2' := BP1.out.cell 2
        go_wp2_with fail
        refine (PA.out _ B1.out).mono ?_
        rintro e w2 ⟨rfl, ha⟩
        have F5 : Hid (AftI B b o cs t pm wm w y w2) := Lib.hid (by rw [HY.out, if_neg k1, if_neg k2, if_pos k3]; exact ha.from_ B1.out)
        clear ha
        go_wp2_with fail
        refine bodyPost_end (v := .tuple #[]) (by simp [results, Tryz.results39, go_sem]) rfl ⟨rfl, ?_⟩
        exact F5.out
      · have d3 : (rk == 3) = false := beq_eq_false_iff_ne.2 k3
        have F5 : Hid (AftI B b o cs t pm wm w y wc) := Lib.hid (by rw [HY.out, if_neg k1, if_neg k2, if_neg k3]; exact AftI.refl H0.out B1.out)
        go_wp2_with fail
        refine bodyPost_end (v := .tuple #[]) (by simp [results, Tryz.results39, go_sem]) rfl ⟨rfl, ?_⟩
        exact F5.out
end Go.Proofs.YtimkgaokcldgkaaGreatDoor
